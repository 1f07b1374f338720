import Derived.Test.YtklamaibinjcmaaDoorMgN
/-
  Verify: VerifyDepths, its last part.
-/
namespace Go.Proofs.YtklamaibinjcmaaDoor
open Go.RowKit
set_option maxRecDepth 100000
theorem i6_19 : I6 19 := ⟨by decide, by decide⟩
theorem Rts.mono {Q Q' : Nat → Prop} {W : World} {v : Value} {l : List Rt} (h : Rts Q W v l) (hq : ∀ j, Q j → Q' j) : Rts Q' W v l := by
  obtain ⟨ao, c, h1, h2, h3, h4⟩ := h
  refine ⟨ao, c, h1, h2, h3, fun h0 => ?_⟩
  obtain ⟨g, o, h5, h6, h7⟩ := h4 h0
  refine ⟨g, o, h5, hq g h6, fun i hi => ?_⟩
  obtain ⟨a, b, vc, c', d, e, f, k⟩ := h7 i hi
  exact ⟨a, b, vc, c', d, e, f, k.mono hq⟩
theorem Il.lt {Q : Nat → Prop} {W : World} {v : Value} {l : List Ins} (h : Il Q W v l) : Il (fun j => j < W.heap.size) W v l := by
  obtain ⟨ao, c, h1, h2, h3, h4⟩ := h
  refine ⟨ao, c, h1, h2, h3, fun h0 => ?_⟩
  obtain ⟨g, o, h5, h6, h7⟩ := h4 h0
  exact ⟨g, o, h5, World.block_lt_of_cell? W _ (h7 0 h0).2.2.1, h7⟩
theorem Rts.lt {Q : Nat → Prop} {W : World} {v : Value} {l : List Rt} (h : Rts Q W v l) : Rts (fun j => j < W.heap.size) W v l := by
  obtain ⟨ao, c, h1, h2, h3, h4⟩ := h
  refine ⟨ao, c, h1, h2, h3, fun h0 => ?_⟩
  obtain ⟨g, o, h5, h6, h7⟩ := h4 h0
  refine ⟨g, o, h5, ?_, fun i hi => ?_⟩
  · obtain ⟨_, _, _, c', _⟩ := h7 0 h0
    exact World.block_lt_of_cell? W _ c'
  · obtain ⟨a, b, vc, c', d, e, f, k⟩ := h7 i hi
    exact ⟨a, b, vc, c', d, e, f, k.lt⟩
theorem cells2 {w : World} {B : Nat} {x1 x2 : Value} (h : w.heap[B]? = some (.cells #[x1, x2] 25 (0, 0))) : w.cell? ⟨B, 0, none⟩ = some x1 ∧ w.cell? ⟨B, 1, none⟩ = some x2 := by
  refine ⟨?_, ?_⟩ <;> rw [cell_of_row w _ _ _ 25 (0, 0) h] <;> rfl
theorem il_set {W : World} {g n c p : Nat} {l : List Ins} {cs : Array Value} {a b : Int} (h : Il (fun j => j = g) W (.slice (some ⟨g, 0, none⟩) n c) l) (hg : W.heap[g]? = some (.cells cs 47 (0, 0))) (hp : p < l.length) (ha : I6 a) (hb : I6 b) : Il (fun j => j = g) ((W.setCell ⟨g, p * 2, none⟩ (.int .i64 a)).setCell ⟨g, p * 2 + 1, none⟩ (.int .i64 b)) (.slice (some ⟨g, 0, none⟩) n c) (l.set p ⟨a, b⟩) := by
  obtain ⟨ao, c', e, h2, h3, h4⟩ := h
  injection e with e1 e2 e3
  subst e1 e3
  obtain ⟨g', o', e4, -, h5⟩ := h4 (by omega)
  simp only [Option.some.injEq, Addr.mk.injEq, and_true] at e4
  obtain ⟨rfl, rfl⟩ := e4
  have k1 := heap_setCell_same W g (p * 2) _ 47 (.int .i64 a) hg
  have k2 := heap_setCell_same (W.setCell ⟨g, p * 2, none⟩ (.int .i64 a)) g (p * 2 + 1) _ 47 (.int .i64 b) k1
  have cz : ∀ j (hj : j < l.length), cs[j * 2]? = some (.int .i64 l[j].op) ∧ cs[j * 2 + 1]? = some (.int .i64 l[j].a) := fun j hj => by
    obtain ⟨-, -, d1, d2⟩ := h5 j hj
    rw [cell_of_row W _ _ _ 47 (0, 0) hg, Nat.zero_add] at d1 d2
    exact ⟨d1, d2⟩
  refine ⟨_, c, by rw [List.length_set, e2], by rw [List.length_set]; exact h2, h3, fun _ => ⟨g, 0, rfl, rfl, fun i hi => ?_⟩⟩
  rw [List.length_set] at hi
  rw [cell_of_row _ _ _ _ 47 (0, 0) k2, cell_of_row _ _ _ _ 47 (0, 0) k2, Nat.zero_add]
  obtain ⟨d1, d2⟩ := cz i hi
  obtain ⟨p1, p2⟩ := cz p hp
  obtain ⟨q1, -⟩ := Array.getElem?_eq_some_iff.1 p1
  obtain ⟨q2, -⟩ := Array.getElem?_eq_some_iff.1 p2
  obtain ⟨i1, i2, -⟩ := h5 i hi
  by_cases e : p = i
  · subst e
    rw [List.getElem_set_self]
    refine ⟨ha, hb, ?_, ?_⟩
    · rw [Array.getElem?_setIfInBounds_ne (by omega), Array.getElem?_setIfInBounds_self_of_lt q1]
    · rw [Array.getElem?_setIfInBounds_self_of_lt (by simpa using q2)]
  · rw [List.getElem_set_ne e]
    refine ⟨i1, i2, ?_, ?_⟩
    · rw [Array.getElem?_setIfInBounds_ne (by omega), Array.getElem?_setIfInBounds_ne (by omega)]
      exact d1
    · rw [Array.getElem?_setIfInBounds_ne (by omega), Array.getElem?_setIfInBounds_ne (by omega)]
      exact d2
set_option maxHeartbeats 16000000 in
theorem dep47 {w W7 WZ : World} {U : Nat → Prop} {A : Act} {K : Act → World → Prop} {fns : List Rt} {cr : List Ins} {nmr nme : ByteArray} {par lor pae loe : Int} {sa fa ra ea aaU : Option Addr} {ns sc nf fc nr rc ne ec caU nA gp gr ge gq gx gs gf gc c1 c2 cx N : Nat} {ls : List (Sy × Lv)} {lf : List (Rt × Value)} {atA erA : Int} {lA : List Int}
    (hs : A.tmps.size = 340) (hd : A.defers = []) (h3 : A.tmps.getD 3 undef = .pointer (some ⟨gp, 0, none⟩)) (h4 : A.tmps.getD 4 undef = .pointer (some ⟨gr, 0, none⟩)) (h8 : A.tmps.getD 8 undef = .pointer (some ⟨gq, 0, none⟩)) (h9 : A.tmps.getD 9 undef = .pointer (some ⟨gx, 0, none⟩)) (h18 : A.tmps.getD 18 undef = .slice aaU nA caU)
    (JC : Hid (∀ V vqs vqf nm pa lo vc c, Below w.heap.size w V → (∃ a n c, vqs = .slice a n c) → Rts (fun _ => True) V vqf fns → Il (fun _ => True) V vc c → Calls Tryd.prog 9 #[.agg #[vqs, vqf], .agg #[.string nm, .int .i64 pa, .int .i64 lo, vc]] V fun e w' => ∃ v ve at_ er l o, e = .returned (.tuple #[v, ve]) ∧ DA fns c at_ er l ∧ w'.ownsRow V.heap.size 3 1 v l.length (zq l) ∧ Flt w' ve o ∧ lfV o = .tuple #[.int .i64 at_, .int .i64 er, .bool true] ∧ Below V.heap.size V w')) (JD : Hid (∀ V nm pa lo vc c, Below w.heap.size w V → Il (fun _ => True) V vc c → Calls Tryd.prog 12 #[.agg #[.slice sa ns sc, .slice fa nf fc], .agg #[.string nm, .int .i64 pa, .int .i64 lo, vc]] V fun e w' => ∃ v at_ er l, e = .returned (.tuple #[v, .int .i64 at_, .int .i64 er]) ∧ DA fns c at_ er l ∧ w'.ownsRow V.heap.size 3 1 v l.length (zq l) ∧ Below V.heap.size V w')) (JF : Hid (∀ V ve o at_ er, Flt V ve o → lfV o = .tuple #[.int .i64 at_, .int .i64 er, .bool true] → Calls Tryd.prog 13 #[ve] V fun e w' => e = .returned (.tuple #[.int .i64 at_, .int .i64 er, .bool true]) ∧ Below V.heap.size V w')) (JM : Hid (∀ (Q Q' : Nat → Prop) (V : World) va vb l, Nl Q V va l → Nl Q' V vb l → Calls Tryd.prog 14 #[va, vb] V fun e w' => e = .returned (.bool true) ∧ Below V.heap.size V w'))
    (CL : Hid (∀ V, Below W7.heap.size W7 V → ((Lnt N V gs c1 gf c2 ns nf ls lf ∧ Rts (fun j => j < gq) V (.slice (some ⟨gf, 0, none⟩) nf c2) fns) ∧ Ix (fun j => j = gc) V (.slice (some ⟨gc, 0, none⟩) nr cx) cr ∧ Below w.heap.size w V) ∧ (V.heap[gp]? = some (.cells #[.slice sa ns sc, .slice fa nf fc] 25 (0, 0)) ∧ V.heap[gr]? = some (.cells #[.string nmr, .int .i64 par, .int .i64 lor, .slice ra nr rc] 28 (0, 0)) ∧ V.heap[ge]? = some (.cells #[.string nme, .int .i64 pae, .int .i64 loe, .slice ea ne ec] 28 (0, 0))) ∧ V.heap[gq]? = some (.cells #[.slice (some ⟨gs, 0, none⟩) ns c1, .slice (some ⟨gf, 0, none⟩) nf c2] 25 (0, 0)) ∧ V.heap[gx]? = some (.cells #[.string nmr, .int .i64 par, .int .i64 lor, .slice (some ⟨gc, 0, none⟩) nr cx] 28 (0, 0)))) (HBZ : Hid (Below W7.heap.size W7 WZ)) (UW : Hid (Nl U WZ (.slice aaU nA caU) lA)) (DAA : Hid (DA fns cr atA erA lA)) (HNA : Hid (nA = lA.length)) (HGC : Hid ((∃ cs, W7.heap[gc]? = some (Obj.cells cs 47 (0, 0))) ∧ gx < gc ∧ gq < gx ∧ gc < W7.heap.size ∧ ge < gq ∧ w.heap.size ≤ gp ∧ gp < gr ∧ gr < ge)) (HNR : Hid (nr = cr.length)) (HZ3 : Hid (cr.length ≤ 8800000000000)) (CX1 : nr ≤ cx) (CX2 : cx ≤ 9223372036854775807) (hK : Nxt 22 w K) : Code.wp Tryd.prog (headN 21 bodyV) (Exit.then K (QV w)) A WZ := by
  have LA := hide DAA.out.len
  obtain ⟨s, eA, hsk⟩ := act_open A _ hs hd
  rw [hsk] at h3 h4 h8 h9 h18
  rw [eA, h3, h4, h8, h9, h18]
  clear eA hsk hs hd h3 h4 h8 h9 h18
  unfold Nxt at hK
  unfold QV at hK ⊢
  conv => arg 2; whnf
  conv at hK => intro a w; arg 1; arg 2; whnf
  obtain ⟨⟨⟨-, qf⟩, ix, bw⟩, ⟨k1, k2, k3⟩, k4, k5⟩ := CL.out _ HBZ.out
  obtain ⟨y1, y2⟩ := cells2 k4
  obtain ⟨y3, y4, y5, y6⟩ := cells4 k5
  have J := hide (JC.out _ (.slice (some ⟨gs, 0, none⟩) ns c1) (.slice (some ⟨gf, 0, none⟩) nf c2) nmr par lor (.slice (some ⟨gc, 0, none⟩) nr cx) cr bw ⟨_, _, _, rfl⟩ (qf.mono (fun _ _ => trivial)) (ix.il.mono (fun _ _ => trivial)))
  clear qf ix bw k1 k2 k3 k4 k5
  go_wp2_with fail
  refine J.out.mono ?_
  rintro e Z1 ⟨vD, veD, atD, erD, lD, oD, rfl, hdD, hoD, -, -, bz⟩
  obtain ⟨rfl, rfl, rfl⟩ := DAA.out.unique hdD
  have BZ1 := hide (below_on HBZ.out bz)
  have UW1 := hide (UW.out.later bz)
  have i6A : ∀ x ∈ lA, I6 x := fun x hx => by have := LA.out.2.2.2 x hx; unfold I6; omega
  have DW1 := hide (own_nlU hoD i6A)
  obtain ⟨aD, cD, hvD⟩ := own_len hoD
  rw [← HNA.out] at hvD
  subst hvD
  have JS2 := hide (JM.out _ _ Z1 _ _ lA DW1.out UW1.out)
  clear J hdD hoD bz y1 y2 y3 y4 y5 y6 UW i6A
  obtain ⟨⟨⟨-, qf⟩, ix, bw⟩, ⟨k1, k2, k3⟩, k4, k5⟩ := CL.out Z1 BZ1.out
  obtain ⟨y3, y4, y5, y6⟩ := cells4 k5
  by_cases h0 : nr = 0
  · have BF := hide bw
    subst h0
    clear qf ix bw k1 k2 k3 k4 k5
    go_wp2_with fail
    refine JS2.out.mono ?_
    rintro e Z2 ⟨rfl, bz2⟩
    have BG := hide (below_on BF.out bz2)
    clear bz2 JS2
    go_wp2_with fail
    go_ret
    exact ⟨rfl, BG.out⟩
  · have t0 : ((nr : Int) == 0) = false := beq_eq_false_iff_ne.2 (by omega)
    clear qf ix bw k1 k2 k3 k4 k5
    go_upto_region 48 with fail
    go_wp2_with fail
    refine JS2.out.mono ?_
    rintro e Z2 ⟨rfl, bz2⟩
    have BZ2 := hide (below_on BZ1.out bz2)
    clear bz2 JS2 y3 y4 y5 y6 BZ1 UW1 DW1
    obtain ⟨⟨⟨-, qf⟩, ix, bw⟩, ⟨k1, k2, k3⟩, k4, k5⟩ := CL.out Z2 BZ2.out
    obtain ⟨y3, y4, y5, y6⟩ := cells4 k5
    obtain ⟨p, hp⟩ : ∃ p, p = nr - 1 := ⟨_, rfl⟩
    obtain ⟨h, hh⟩ : ∃ h, h = nr / 2 := ⟨_, rfl⟩
    have hpn : p < nr := by omega
    have hpl : p < cr.length := by have := HNR.out; omega
    have tl : IntKind.i64.wrap ((nr : Int) - 1) = (p : Int) := by rw [IntKind.wrap_i64]; omega
    have tl2 : (nr : Int) - 1 = (p : Int) := by omega
    have tq : (nr : Int).tdiv 2 = (h : Int) := by rw [Int.tdiv_eq_ediv_of_nonneg (by omega)]; omega
    have hpi : (p : Int) < (nr : Int) := by omega
    have tw65 : wrap64 (h : Int) = (h : Int) := by unfold wrap64; omega
    obtain ⟨g1, o1, e1, -, x1, x2, -, -⟩ := ix.il.nth hpl
    simp only [Option.some.injEq, Addr.mk.injEq, and_true] at e1
    obtain ⟨rfl, rfl⟩ := e1
    rw [Nat.zero_add] at x1 x2
    obtain ⟨⟨cs7, hcs7⟩, hg7⟩ := HGC.out
    have kc2 := (BZ2.out.block gc (lt_of_block hcs7)).trans hcs7
    have x3 := frozen_of_row Z2 gc (p * 2) _ 47 kc2
    have x4 := frozen_of_row Z2 gc (p * 2 + 1) _ 47 kc2
    have HH2 : Hid (h = nr / 2 ∧ p = nr - 1) := ⟨hh, hp⟩
    clear hh hp
    go_upto_region 51 with fail
    obtain ⟨Z3, hZ3⟩ : ∃ X, X = (Z2.setCell ⟨gc, p * 2, none⟩ (.int .i64 19)).setCell ⟨gc, p * 2 + 1, none⟩ (.int .i64 (h : Int)) := ⟨_, rfl⟩
    rw [← hZ3]
    obtain ⟨cq, hcq⟩ : ∃ l, l = cr.set p ⟨19, (h : Int)⟩ := ⟨_, rfl⟩
    have IL3 : Hid (Il (fun j => j = gc) Z3 (.slice (some ⟨gc, 0, none⟩) nr cx) cq) := by
      unfold Hid
      rw [hZ3, hcq]
      exact il_set ix.il kc2 hpl i6_19 (by unfold I6; have := HH2.out; omega)
    have HLQ : Hid (nr = cq.length) := by unfold Hid; rw [hcq, List.length_set]; exact HNR.out
    have m3 : Mv Z2 Z3 (fun j => j = gc) := by rw [hZ3]; exact (mv_set Z2 gc _ _).trans (mv_set _ gc _ _) (fun _ _ e => e)
    have B3 : Hid (Below w.heap.size w Z3) := by rw [hZ3]; exact (bw.setCell (by show _ ≤ gc; omega) _).setCell (by show _ ≤ gc; omega) _
    have q3 : Z3.heap[gq]? = some (.cells #[.slice (some ⟨gs, 0, none⟩) ns c1, .slice (some ⟨gf, 0, none⟩) nf c2] 25 (0, 0)) := m3.at k4 (by omega)
    have x3' : Z3.heap[gx]? = some (.cells #[.string nmr, .int .i64 par, .int .i64 lor, .slice (some ⟨gc, 0, none⟩) nr cx] 28 (0, 0)) := m3.at k5 (by omega)
    have p3' := m3.at k1 (by omega)
    have r3' := m3.at k2 (by omega)
    have CK : Hid (∀ V, Below Z3.heap.size Z3 V → (V.heap[gq]? = some (.cells #[.slice (some ⟨gs, 0, none⟩) ns c1, .slice (some ⟨gf, 0, none⟩) nf c2] 25 (0, 0)) ∧ V.heap[gx]? = some (.cells #[.string nmr, .int .i64 par, .int .i64 lor, .slice (some ⟨gc, 0, none⟩) nr cx] 28 (0, 0)) ∧ V.heap[gp]? = some (.cells #[.slice sa ns sc, .slice fa nf fc] 25 (0, 0)) ∧ V.heap[gr]? = some (.cells #[.string nmr, .int .i64 par, .int .i64 lor, .slice ra nr rc] 28 (0, 0))) ∧ Rts (fun _ => True) V (.slice (some ⟨gf, 0, none⟩) nf c2) fns ∧ Il (fun _ => True) V (.slice (some ⟨gc, 0, none⟩) nr cx) cq ∧ Below w.heap.size w V) := fun V hV => ⟨⟨(hV.block _ (lt_of_block q3)).trans q3, (hV.block _ (lt_of_block x3')).trans x3', (hV.block _ (lt_of_block p3')).trans p3', (hV.block _ (lt_of_block r3')).trans r3'⟩, ((qf.mv m3 (fun j hj => by omega)).later hV).mono (fun _ _ => trivial), (IL3.out.later hV).mono (fun _ _ => trivial), below_on B3.out hV⟩
    have HIX := hide IL3.out.six
    clear hZ3 qf ix bw k1 k2 k3 k4 k5 y3 y4 y5 y6 x1 x2 x3 x4 kc2 hcs7 hg7 hcq m3 q3 x3' p3' r3' tl tl2 tq CL BZ2
    obtain ⟨⟨k4, k5, k1, k2⟩, -, -, -⟩ := CK.out Z3 (Below.refl _ _)
    obtain ⟨y3, y4, y5, y6⟩ := cells4 k5
    go_wp2_with (at_builtin; refine appendIlW rfl _ _ rfl Z3.heap.size _ 0 [] rfl (World.ownsRow_nil _ _ _ _) _ cq rfl IL3.out ?k1 (Nat.le_refl _) ?_)
    case k1 => have h1 := HLQ.out; have h2 := HNR.out; have h3 := HZ3.out; omega
    intro v46 Z4 ho4 hg4
    have B34 : Hid (Below Z3.heap.size Z3 Z4) := Below.grown (Below.refl _ _) hg4 (Nat.le_refl _) (fun j e => by simp [Value.ownBlock] at e)
    replace ho4 : Z4.ownsRow Z3.heap.size 47 2 v46 cq.length (fl inC cq) := by simpa using ho4
    have OW4 := hide ho4
    obtain ⟨g46, c46, hv46, -, -⟩ := own_form ho4 (by have := HLQ.out; omega)
    rw [← HLQ.out] at hv46
    subst hv46
    clear ho4 hg4 k1 k2 k4 k5 y3 y4 y5 y6
    obtain ⟨⟨k4, k5, k1, k2⟩, qf, il, bw⟩ := CK.out Z4 B34.out
    obtain ⟨y1, y2⟩ := cells2 k4
    obtain ⟨y3, y4, y5, y6⟩ := cells4 k5
    have J := hide (JC.out Z4 (.slice (some ⟨gs, 0, none⟩) ns c1) (.slice (some ⟨gf, 0, none⟩) nf c2) nmr par lor (.slice (some ⟨gc, 0, none⟩) nr cx) cq bw ⟨_, _, _, rfl⟩ qf il)
    clear qf il bw k1 k2 k4 k5
    go_wp2_with fail
    refine J.out.mono ?_
    rintro e Z5 ⟨vY, veY, atY, erY, lY, oY, rfl, hdY, hoY, hfY, hlY, bz⟩
    have B45 := hide bz
    have B35 := hide (below_on B34.out bz)
    have DAY := hide hdY
    have HOY := hide hoY
    have HFY := hide hfY
    have HLY := hide hlY
    have LY := hide hdY.len
    obtain ⟨aY, cY, hvY⟩ := own_len hoY
    obtain ⟨nY, hnY⟩ : ∃ n, n = lY.length := ⟨_, rfl⟩
    rw [← hnY] at hvY
    have HNY := hide hnY
    subst hvY
    clear J hdY hoY hfY hlY bz y1 y2 y3 y4 y5 y6 hnY
    obtain ⟨⟨k4, k5, k1, k2⟩, -, -, bw⟩ := CK.out Z5 B35.out
    obtain ⟨y3, y4, y5, y6⟩ := cells4 k2
    obtain ⟨Z6, hZ6⟩ : ∃ X, X = Z5.alloc (.cells #[.string nmr, .int .i64 par, .int .i64 lor, .slice ra nr rc] 28) := ⟨_, rfl⟩
    obtain ⟨gz, hgz⟩ : ∃ x, x = Z5.heap.size := ⟨_, rfl⟩
    have b56 : Below Z5.heap.size Z5 Z6 := hZ6 ▸ below_alloc Z5 _
    have kz6 : Z6.heap[gz]? = some (.cells #[.string nmr, .int .i64 par, .int .i64 lor, .slice ra nr rc] 28 (0, 0)) := by rw [hZ6, hgz]; exact heap_alloc_new Z5 _
    obtain ⟨w3', w4', w5', w6'⟩ := cells4 kz6
    have wfr := frozen_of_row Z6 gz 3 _ 28 kz6
    obtain ⟨Z7, hZ7⟩ : ∃ X, X = Z6.setCell ⟨gz, 3, none⟩ (.slice (some ⟨g46, 0, none⟩) nr c46) := ⟨_, rfl⟩
    have b57 : Below Z5.heap.size Z5 Z7 := by rw [hZ7]; exact b56.setCell (by show _ ≤ gz; omega) _
    have kz7 : Z7.heap[gz]? = some (.cells #[.string nmr, .int .i64 par, .int .i64 lor, .slice (some ⟨g46, 0, none⟩) nr c46] 28 (0, 0)) := by rw [hZ7, heap_setCell_same Z6 gz 3 _ 28 _ kz6]; rfl
    have IL7 : Il (fun j => j = g46) Z7 (.slice (some ⟨g46, 0, none⟩) nr c46) cq := by
      have h1 := own_later (own_later OW4.out B45.out) b57
      rw [← HLQ.out] at h1
      have h2 : Z7.ownsRow Z3.heap.size 47 2 (.slice (some ⟨g46, 0, none⟩) nr c46) nr (fl inC (cq ++ [])) := by rw [List.append_nil]; exact h1
      exact own_il h2 HLQ.out HIX.out
    have B37 := below_on B35.out b57
    have J := hide (JD.out Z7 nmr par lor (.slice (some ⟨g46, 0, none⟩) nr c46) cq (CK.out Z7 B37).2.2.2 (IL7.mono (fun _ _ => trivial)))
    obtain ⟨u1, u2⟩ := cells2 (CK.out Z7 B37).1.2.2.1
    obtain ⟨u3, u4, u5, u6⟩ := cells4 kz7
    have B7 := hide (CK.out Z7 B37).2.2.2
    have B57 := hide b57
    clear k1 k2 k4 k5 bw b56 kz6 kz7 IL7 B37 b57 OW4 HIX IL3
    go_upto_region 55 with fail
    rw [← hZ6, ← hgz]
    clear hZ6 hgz y3 y4 y5 y6
    go_upto_region 56 with fail
    rw [← hZ7]
    clear hZ7 w3' w4' w5' w6' wfr
    go_wp2_with fail
    refine J.out.mono ?_
    rintro e Z8 ⟨vQ, atQ, erQ, lQ, rfl, hdQ, hoQ, bz8⟩
    obtain ⟨rfl, rfl, rfl⟩ := DAY.out.unique hdQ
    have i6Y : ∀ x ∈ lY, I6 x := fun x hx => by have := LY.out.2.2.2 x hx; unfold I6; omega
    have HOQ := hide hoQ
    have HI6 := hide i6Y
    have B8 := hide (below_on B7.out bz8)
    have B58 := hide (below_on B57.out bz8)
    obtain ⟨aQ, cQ, hvQ⟩ := own_len hoQ
    rw [← HNY.out] at hvQ
    subst hvQ
    have JF8 := hide (JF.out Z8 _ _ atY erY (HFY.out.later B58.out) HLY.out)
    clear J hdQ hoQ bz8 u1 u2 u3 u4 u5 u6 i6Y
    go_wp2_with fail
    refine JF8.out.mono ?_
    rintro e Z9 ⟨rfl, bz9⟩
    have B9 := hide (below_on B8.out bz9)
    have NY9 := own_nlU (own_later (own_later HOY.out B58.out) bz9) HI6.out
    have NQ9 := own_nlU (own_later HOQ.out bz9) HI6.out
    have J9 := hide (JM.out _ _ Z9 _ _ lY NY9 NQ9)
    have tA : ((atY : Int) == atY) = true := by simp
    have tE : ((erY : Int) == erY) = true := by simp
    clear bz9 JF8 NY9 NQ9
    go_wp2_with fail
    refine J9.out.mono ?_
    rintro e ZE ⟨rfl, bze⟩
    have BE := hide (below_on B9.out bze)
    clear bze J9
    go_wp2_with fail
    go_ret
    exact ⟨rfl, BE.out⟩
end Go.Proofs.YtklamaibinjcmaaDoor

/-
  Verify: VerifyDepths, its walk.
-/
namespace Go.Proofs.YtklamaibinjcmaaDoor
open Go.RowKit
set_option maxRecDepth 100000
theorem run_append_keptI {w : World} (base ty : Nat) (v : Value) (n : Nat) (xs : List Value) (hown : w.ownsRow base 3 1 v n xs) (a : Addr) (c : Nat) (y : Int) (hy : ∀ j u, [Value.int .i64 y][j]? = some u → w.cell? (a.add j) = some u) (hb : n ≤ 1000000) (hbase : base ≤ w.heap.size) :
    ∃ v' w', (Builtin.append_ #[32, 32] ty #[v, .slice (some a) 1 c]).run Tryd.prog w = .ok v' w' ∧ w'.ownsRow base 3 1 v' (n + 1) (xs ++ [.int .i64 y]) ∧ w.grownBy w' v.ownBlock ∧ (v'.ownBlock = v.ownBlock ∨ v'.ownBlock = some w.heap.size) ∧ w'.ownsRow base 3 1 v n xs := by
  obtain ⟨i, hi, hz, hsize, hby⟩ := info_parts infoI2
  obtain ⟨v', w', hr, h2, h3, _, h5⟩ := run_append_own_at (P := Tryd.prog) w base 32 ty 3 i (.int .i64 0) 1 8 Tryd.underlying32 hi hz hsize hby rfl (by decide) v n xs hown a 1 c [.int .i64 y] rfl hy (fun u hu => by rw [List.mem_singleton.1 hu]; rfl) (by unfold maxLen; omega) (by omega) hbase
  refine ⟨v', w', hr, h2, h3, h5, ?_⟩
  rcases hown.2 with ⟨rfl, rfl⟩ | ⟨g, cap, cur, rfl, hbg, hg, hnc, hcm, hcs, htake⟩
  · exact ⟨hown.1, .inl ⟨rfl, rfl⟩⟩
  · by_cases hroom : n + 1 ≤ cap
    · have hr2 := run_append_room (P := Tryd.prog) w 32 ty 3 i Tryd.underlying32 hi g n cap cur hg a 1 c [.int .i64 y] (by rw [hsize]; rfl) hy (fun u hu => by rw [List.mem_singleton.1 hu]; rfl) hroom (by rw [hsize, hcs]; simp; omega)
      rw [hr] at hr2
      injection hr2 with hv hw
      subst hv
      have := own_prefix h2 (n := n) (by omega)
      rw [← hown.1, List.take_left] at this
      exact this
    · have holds : ∀ j u, xs[j]? = some u → w.cell? ((⟨g, 0, none⟩ : Addr).add j) = some u := hown.cells (g := g) rfl
      have hr2 := run_append_grow (P := Tryd.prog) w 32 ty 3 i (.int .i64 0) Tryd.underlying32 hi hz ⟨g, 0, none⟩ n cap xs (by rw [hsize]; exact hown.1) holds a 1 c [.int .i64 y] (by rw [hsize]; rfl) hy (by omega) (by omega) (growslice_fits (by omega) (by rw [hby]; omega))
      rw [hr] at hr2
      injection hr2 with hv hw
      subst hw
      refine ⟨hown.1, .inr ⟨g, cap, cur, rfl, hbg, ?_, hnc, hcm, hcs, htake⟩⟩
      exact (heap_alloc_old w.drew _ (Array.getElem?_eq_some_iff.1 hg).1).trans hg
theorem appendKept {w : World} {ops : Array Oper} {rest : List Oper} {o : Oper} {a : Act} {Q : Exit → Act → World → Prop} (hgd : o.guard = none) (s x : Operand)
    (ho : o.op = .call { callee := .builtin .append, args := #[s, x], argTypes := #[32, 32] })
    (base : Nat) (v : Value) (n : Nat) (xs : List Value) (hs : a.eval s = v) (hown : w.ownsRow base 3 1 v n xs) (ad : Addr) (c : Nat) (y : Int) (hx : a.eval x = .slice (some ad) 1 c) (hy : ∀ j u, [Value.int .i64 y][j]? = some u → w.cell? (ad.add j) = some u) (hb : n ≤ 1000000) (hbase : base ≤ w.heap.size)
    (h : ∀ v' w', w'.ownsRow base 3 1 v' (n + 1) (xs ++ [.int .i64 y]) → w.grownBy w' v.ownBlock → (v'.ownBlock = v.ownBlock ∨ v'.ownBlock = some w.heap.size) → w'.ownsRow base 3 1 v n xs → wpList Tryd.prog ops Q rest (a.put o.dst v') w') :
    wpList Tryd.prog ops Q (o :: rest) a w := by
  refine wpList_plain hgd fun K hK => ?_
  obtain ⟨v', w', hr, h2, h3, h4, h5⟩ := run_append_keptI base o.type v n xs hown ad c y hy hb hbase
  unfold Oper.wp execOp
  simp only [ho, resolve, invoke, builtin, Sem.run_bind, Sem.run_pure, Result.andThen_ok, List.map_toArray, List.map_cons, List.map_nil, hs, hx, hr]
  exact hK _ _ (h v' w' h2 h3 h4 h5)
theorem rep_set (l : List Int) (x : Int) (i : Nat) (hi : i < l.length) : (List.replicate i x ++ l.drop i).set i x = List.replicate (i + 1) x ++ l.drop (i + 1) := by
  rw [List.set_append_right _ _ (by simp), List.length_replicate, Nat.sub_self, List.drop_eq_getElem_cons hi, List.set_cons_zero, List.replicate_succ', List.append_assoc]
  rfl
theorem zq_set (l : List Int) (i : Nat) (x : Int) : (zq l).set i (.int .i64 x) = zq (l.set i x) := by
  unfold zq
  rw [List.map_set]
theorem info44 : (Tryd.prog.info? 32).map (fun i => (i.zero, i.size, i.bytes)) = some (some (.slice none 0 0), 1, 24) := by kernel_rfl
theorem appendLong {w : World} {ops : Array Oper} {rest : List Oper} {o : Oper} {a : Act} {Q : Exit → Act → World → Prop} (hgd : o.guard = none) (s x : Operand)
    (ho : o.op = .call { callee := .builtin .append, args := #[s, x], argTypes := #[44, 44] })
    (base : Nat) (v : Value) (n : Nat) (xs : List Value) (hs : a.eval s = v) (hown : w.ownsRow base 32 1 v n xs) (ad : Addr) (c : Nat) (y : Value) (h1 : y.oneCell' = true) (hx : a.eval x = .slice (some ad) 1 c) (hy : ∀ j u, [y][j]? = some u → w.cell? (ad.add j) = some u) (hb : n ≤ 1000000) (hbase : base ≤ w.heap.size)
    (h : ∀ v' w', w'.ownsRow base 32 1 v' (n + 1) (xs ++ [y]) → w.grownBy w' v.ownBlock → (v'.ownBlock = v.ownBlock ∨ v'.ownBlock = some w.heap.size) → wpList Tryd.prog ops Q rest (a.put o.dst v') w') :
    wpList Tryd.prog ops Q (o :: rest) a w := by
  refine wpList_plain hgd fun K hK => ?_
  obtain ⟨i0, hi, hz0, hz1, hz2⟩ := info_parts info44
  obtain ⟨v', w', hr, h2, h3, -, h5⟩ := run_append_own_at (P := Tryd.prog) w base 44 o.type 32 i0 (.slice none 0 0) 1 24 Tryd.underlying44 hi hz0 hz1 hz2 rfl (by decide) v n xs hown ad 1 c [y] rfl hy (fun u hu => by rw [List.mem_singleton.1 hu]; exact h1) (by unfold maxLen; omega) (by omega) hbase
  unfold Oper.wp execOp
  simp only [ho, resolve, invoke, builtin, Sem.run_bind, Sem.run_pure, Result.andThen_ok, List.map_toArray, List.map_cons, List.map_nil, hs, hx, hr]
  exact hK _ _ (h v' w' h2 h3 h5)
theorem Hd.cm {B1 k j : Nat} {U : Nat → Prop} {cv wv lv : Nat → Value} {cl : Nat → List Int} {gcm gwt : Nat} {vl : Value} {W : World} (h : Hd B1 k U cv wv lv cl gcm gwt vl W) (hj : j < 3) : W.cell? ⟨gcm, j, none⟩ = some (cv j) ∧ W.cell? ⟨gwt, j, none⟩ = some (wv j) := by
  rw [cell_of_row W _ _ _ 32 (0, 0) h.came, cell_of_row W _ _ _ 32 (0, 0) h.want]
  match j, hj with
  | 0, _ => exact ⟨rfl, rfl⟩
  | 1, _ => exact ⟨rfl, rfl⟩
  | 2, _ => exact ⟨rfl, rfl⟩
theorem rd_step {W W' : World} {B n m : Nat} {vk v39 : Value} {x : Int} (h : RdU (fun g => vk.ownBlock = some g) W vk n x ∧ ∀ g, vk.ownBlock = some g → IsI W g) (hnm : n ≤ m) (hg : W.grownBy W' v39.ownBlock) (hk : W'.ownsRow B 3 1 v39 m (zq (List.replicate m x))) : RdU (fun g => vk.ownBlock = some g) W' vk n x ∧ ∀ g, vk.ownBlock = some g → IsI W' g := by
  obtain ⟨⟨a, c, h1, h2, h3, h4⟩, h5⟩ := h
  refine ⟨⟨a, c, h1, h2, h3, fun h0 => ?_⟩, fun g e => ?_⟩
  · obtain ⟨g, k1, k2, k3⟩ := h4 h0
    refine ⟨g, k1, k2, fun i hi => ?_⟩
    by_cases e : v39.ownBlock = some g
    · obtain ⟨g', c', e', -, -⟩ := own_form hk (by omega)
      subst e'
      obtain rfl : g' = g := by simpa [Value.ownBlock] using e
      rw [hk.cellAt i (by omega)]
      unfold zq
      rw [List.map_replicate, List.getElem?_replicate, if_pos (by omega)]
    · exact (mv_grown hg).cell (k3 i hi) e
  · by_cases e' : v39.ownBlock = some g
    · exact own_blk2 hk e'
    · obtain ⟨cs, hc⟩ := h5 g e
      exact ⟨cs, (mv_grown hg).at hc e'⟩
theorem zq_rep (m : Nat) (x : Int) : zq (List.replicate m x) ++ [.int .i64 x] = zq (List.replicate (m + 1) x) := by
  rw [List.replicate_succ']
  simp [zq]
set_option maxHeartbeats 16000000 in
theorem depthslaw_any {Q : Nat → Prop} {w : World} {vs vf vcr vce : Value} {sys : List Sy} {fns : List Rt} {cr ce : List Ins} (nmr nme : ByteArray) (par lor pae loe : Int)
    (hS : Sys Q w vs sys) (hF : Rts Q w vf fns) (hr : Il Q w vcr cr) (he : Il Q w vce ce) (ht : Tb w) (hn1 : sys.length ≤ 930000000000) (hn2 : fns.length ≤ 2600000000000) (hz1 : ∀ s ∈ sys, Wd.Small5 s) (hz2 : ∀ r ∈ fns, r.code.length ≤ 8800000000000) (hz3 : cr.length ≤ 8800000000000) :
    Calls Tryd.prog 3 #[.agg #[vs, vf], .agg #[.string nmr, .int .i64 par, .int .i64 lor, vcr], .agg #[.string nme, .int .i64 pae, .int .i64 loe, vce]] w fun e w' => e = .returned (.bool true) ∧ Below w.heap.size w w' := by
  have JS : Hid (∀ V, Below w.heap.size w V → Calls Tryd.prog 6 #[] V fun e w' => e = .returned (.bool true) ∧ Below V.heap.size V w') := fun V hV => shown_any V (ht.later hV)
  have JC : Hid (∀ V vqs vqf nm pa lo vc c, Below w.heap.size w V → (∃ a n c, vqs = .slice a n c) → Rts (fun _ => True) V vqf fns → Il (fun _ => True) V vc c → Calls Tryd.prog 9 #[.agg #[vqs, vqf], .agg #[.string nm, .int .i64 pa, .int .i64 lo, vc]] V fun e w' => ∃ v ve at_ er l o, e = .returned (.tuple #[v, ve]) ∧ DA fns c at_ er l ∧ w'.ownsRow V.heap.size 3 1 v l.length (zq l) ∧ Flt w' ve o ∧ lfV o = .tuple #[.int .i64 at_, .int .i64 er, .bool true] ∧ Below V.heap.size V w') := fun V vqs vqf nm pa lo vc c hV h1 h2 h3 => (depthsof_any nm pa lo h1 h3 h2 (ht.later hV)).mono (by
    rintro e w' ⟨v, ve, rfl, hd, hb⟩
    obtain ⟨at_, er, l, o, k1, k2, k3, k4⟩ := dps_da hd
    exact ⟨v, ve, at_, er, l, o, rfl, k1, k2, k3, k4, hb⟩)
  have JD : Hid (∀ V nm pa lo vc c, Below w.heap.size w V → Il (fun _ => True) V vc c → Calls Tryd.prog 12 #[.agg #[vs, vf], .agg #[.string nm, .int .i64 pa, .int .i64 lo, vc]] V fun e w' => ∃ v at_ er l, e = .returned (.tuple #[v, .int .i64 at_, .int .i64 er]) ∧ DA fns c at_ er l ∧ w'.ownsRow V.heap.size 3 1 v l.length (zq l) ∧ Below V.heap.size V w') := fun V nm pa lo vc c hV h3 => (ddepths_any nm pa lo (by obtain ⟨a, n, e, -⟩ := hS; exact ⟨a, _, n, e⟩) h3 ((hF.later hV).mono (fun _ _ => trivial))).mono (by
    rintro e w' ⟨⟨v, at_, er, l, k1, k2, k3⟩, hb⟩
    exact ⟨v, at_, er, l, k1, k2, k3, hb⟩)
  have JF : Hid (∀ V ve o at_ er, Flt V ve o → lfV o = .tuple #[.int .i64 at_, .int .i64 er, .bool true] → Calls Tryd.prog 13 #[ve] V fun e w' => e = .returned (.tuple #[.int .i64 at_, .int .i64 er, .bool true]) ∧ Below V.heap.size V w') := fun V ve o at_ er h1 h2 => (lfault_any h1).mono fun e w' ⟨a, b⟩ => ⟨by rw [a, h2], b⟩
  have JM : Hid (∀ (Q Q' : Nat → Prop) (V : World) va vb l, Nl Q V va l → Nl Q' V vb l → Calls Tryd.prog 14 #[va, vb] V fun e w' => e = .returned (.bool true) ∧ Below V.heap.size V w') := fun _ _ _ _ _ _ a b => lsame_any a b
  have JR : Hid (∀ (Q Q' : Nat → Prop) (V : World) va vb l, Ix Q V va l → Il Q' V vb l → Calls Tryd.prog 11 #[va, vb] V fun e w' => e = .returned (.bool true) ∧ Below V.heap.size V w') := fun _ _ _ _ _ _ a b => lsamerow_any a b
  have HS := hide hS
  have HF := hide hF
  have HR := hide hr
  have HE := hide he
  have HT := hide ht
  obtain ⟨sa, sc, rfl, s1, s2⟩ := hS.at
  obtain ⟨fa, fc, rfl, f1, f2⟩ := hF.at
  obtain ⟨ra, rc, rfl, r1, r2⟩ := hr.at
  obtain ⟨ea, ec, rfl, x1, x2⟩ := he.at
  have JL : Hid (∀ V, Below w.heap.size w V → Calls Tryd.prog 7 #[.agg #[.slice sa sys.length sc, .slice fa fns.length fc]] V fun e w' => ∃ gs gf c1 c2 ls lf, e = .returned (.agg #[.slice (some ⟨gs, 0, none⟩) sys.length c1, .slice (some ⟨gf, 0, none⟩) fns.length c2]) ∧ Lnt V.heap.size w' gs c1 gf c2 sys.length fns.length ls lf ∧ ls.map Prod.fst = sys ∧ lf.map Prod.fst = fns ∧ Below V.heap.size V w') := fun V hV => (Wd.lent_any sys fns rfl rfl s1 s2 f1 f2 (hS.later hV) (hF.later hV) hn1 hn2 hz1 hz2).mono (by
    rintro e w' ⟨gs, gf, c1, c2, ls, lf, rfl, k1, k2, k3, k4, ⟨k5, k6, k7, k8, k9, k10⟩, k11⟩
    exact ⟨gs, gf, c1, c2, ls, lf, rfl, ⟨k1, k2, k5, k6, ⟨k7, k9⟩, ⟨k8, k10⟩, by rw [← k3, List.length_map], by rw [← k4, List.length_map]⟩, k3, k4, k11⟩)
  have JW : Hid (∀ V, Below w.heap.size w V → Calls Tryd.prog 8 #[.slice ra cr.length rc] V fun e w' => ∃ g c', e = .returned (.slice (some ⟨g, 0, none⟩) cr.length c') ∧ Lk 47 V.heap.size w' g ∧ Ix (fun j => j = g) w' (.slice (some ⟨g, 0, none⟩) cr.length c') cr ∧ cr.length ≤ c' ∧ c' ≤ 9223372036854775807 ∧ Below V.heap.size V w') := fun V hV => lrowW_any cr (hr.later hV) rfl (by omega)
  have JT : Hid (∀ V N gs c1 gf c2 ls lf, Below w.heap.size w V → Lnt N V gs c1 gf c2 sys.length fns.length ls lf → ls.map Prod.fst = sys → lf.map Prod.fst = fns → Calls Tryd.prog 10 #[.agg #[.slice (some ⟨gs, 0, none⟩) sys.length c1, .slice (some ⟨gf, 0, none⟩) fns.length c2], .agg #[.slice sa sys.length sc, .slice fa fns.length fc]] V fun e w' => e = .returned (.bool true) ∧ Below V.heap.size V w') := fun V N gs c1 gf c2 ls lf hV h1 h2 h3 => lstill_any h1 (by rw [h2]; exact hS.later hV) (by rw [h3]; exact hF.later hV) s1 s2 f1 f2
  obtain ⟨ns, hns⟩ : ∃ n, n = sys.length := ⟨_, rfl⟩
  obtain ⟨nf, hnf⟩ : ∃ n, n = fns.length := ⟨_, rfl⟩
  obtain ⟨nr, hnr⟩ : ∃ n, n = cr.length := ⟨_, rfl⟩
  obtain ⟨ne, hne⟩ : ∃ n, n = ce.length := ⟨_, rfl⟩
  have HNR := hide hnr
  have HNE := hide hne
  have HZ3 := hide hz3
  rw [← hns, ← hnf] at JL JT JD
  rw [← hns] at s1
  rw [← hnf] at f1 HF
  rw [← hnr] at JW r1 HR
  rw [← hne] at x1 HE
  rw [← hns, ← hnf, ← hnr, ← hne]
  clear hS hF hr he ht hn1 hn2 hz1 hz2 hz3 hns hnf hnr hne
  obtain ⟨W1, hW1⟩ : ∃ X, X = ((w.alloc (.cells #[.slice sa ns sc, .slice fa nf fc] 25)).alloc (.cells #[.string nmr, .int .i64 par, .int .i64 lor, .slice ra nr rc] 28)).alloc (.cells #[.string nme, .int .i64 pae, .int .i64 loe, .slice ea ne ec] 28) := ⟨_, rfl⟩
  have bw1 : Below w.heap.size w W1 := by rw [hW1]; exact below_on (below_on (below_alloc w _) (below_alloc _ _)) (below_alloc _ _)
  have kp : W1.heap[w.heap.size]? = some (.cells #[.slice sa ns sc, .slice fa nf fc] 25 (0, 0)) := by
    rw [hW1]
    exact ((below_on (below_alloc (w.alloc (.cells #[.slice sa ns sc, .slice fa nf fc] 25)) _) (below_alloc _ _)).block w.heap.size (by simp)).trans (heap_alloc_new w _)
  have kr : W1.heap[w.heap.size + 1]? = some (.cells #[.string nmr, .int .i64 par, .int .i64 lor, .slice ra nr rc] 28 (0, 0)) := by
    rw [hW1]
    refine ((below_alloc ((w.alloc (.cells #[.slice sa ns sc, .slice fa nf fc] 25)).alloc (.cells #[.string nmr, .int .i64 par, .int .i64 lor, .slice ra nr rc] 28)) _).block (w.heap.size + 1) (by simp)).trans ?_
    have := heap_alloc_new (w.alloc (.cells #[.slice sa ns sc, .slice fa nf fc] 25)) (.cells #[.string nmr, .int .i64 par, .int .i64 lor, .slice ra nr rc] 28)
    simpa using this
  have ke : W1.heap[w.heap.size + 1 + 1]? = some (.cells #[.string nme, .int .i64 pae, .int .i64 loe, .slice ea ne ec] 28 (0, 0)) := by
    rw [hW1]
    have := heap_alloc_new ((w.alloc (.cells #[.slice sa ns sc, .slice fa nf fc] 25)).alloc (.cells #[.string nmr, .int .i64 par, .int .i64 lor, .slice ra nr rc] 28)) (.cells #[.string nme, .int .i64 pae, .int .i64 loe, .slice ea ne ec] 28)
    simpa using this
  obtain ⟨gp, hgp⟩ : ∃ x, x = w.heap.size := ⟨_, rfl⟩
  obtain ⟨gr, hgr⟩ : ∃ x, x = w.heap.size + 1 := ⟨_, rfl⟩
  obtain ⟨ge, hge⟩ : ∃ x, x = w.heap.size + 1 + 1 := ⟨_, rfl⟩
  rw [← hgp] at kp
  rw [← hgr] at kr
  rw [← hge] at ke
  have HG : Hid (w.heap.size ≤ gp ∧ gp < gr ∧ gr < ge) := ⟨by omega, by omega, by omega⟩
  have KW : Hid (∀ V, Below W1.heap.size W1 V → V.heap[gp]? = some (.cells #[.slice sa ns sc, .slice fa nf fc] 25 (0, 0)) ∧ V.heap[gr]? = some (.cells #[.string nmr, .int .i64 par, .int .i64 lor, .slice ra nr rc] 28 (0, 0)) ∧ V.heap[ge]? = some (.cells #[.string nme, .int .i64 pae, .int .i64 loe, .slice ea ne ec] 28 (0, 0))) := fun V hV => ⟨(hV.block _ (lt_of_block kp)).trans kp, (hV.block _ (lt_of_block kr)).trans kr, (hV.block _ (lt_of_block ke)).trans ke⟩
  have B1 := hide bw1
  have J1 := hide (JS.out W1 bw1)
  go_enter Tryd.func3, Tryd.ntmps3
  go_upto_region 1 with fail
  rw [← hW1, ← hge, ← hgr, ← hgp]
  clear hW1 hge hgr hgp bw1 kp kr ke
  go_wp2_with fail
  refine J1.out.mono ?_
  rintro e W2 ⟨rfl, b2⟩
  have B2 := hide b2
  have Bw2 := hide (below_on B1.out b2)
  obtain ⟨k1, k2, k3⟩ := KW.out W2 b2
  obtain ⟨p0, p1⟩ := cells2 k1
  have J2 := hide (JL.out W2 Bw2.out)
  clear J1 b2 k1 k2 k3 JS
  go_wp2_with fail
  refine J2.out.mono ?_
  rintro e W3 ⟨gs, gf, c1, c2, ls, lf, rfl, hL, hl1, hl2, b3⟩
  obtain ⟨W4, hW4⟩ : ∃ X, X = W3.alloc (.cells #[.slice (some ⟨gs, 0, none⟩) ns c1, .slice (some ⟨gf, 0, none⟩) nf c2] 25) := ⟨_, rfl⟩
  obtain ⟨gq, hgq⟩ : ∃ x, x = W3.heap.size := ⟨_, rfl⟩
  have b4 : Below W3.heap.size W3 W4 := hW4 ▸ below_alloc W3 _
  have kq : W4.heap[gq]? = some (.cells #[.slice (some ⟨gs, 0, none⟩) ns c1, .slice (some ⟨gf, 0, none⟩) nf c2] 25 (0, 0)) := by rw [hW4, hgq]; exact heap_alloc_new W3 _
  have hL4 := hL.later b4
  have B24 := below_on (below_on B2.out b3) b4
  have QF4 : Rts (fun j => j < gq) W4 (.slice (some ⟨gf, 0, none⟩) nf c2) fns := by
    have := hL.f.rts.lt
    rw [hl2, ← hgq] at this
    exact this.later b4
  obtain ⟨k1, k2, k3⟩ := KW.out W4 B24
  obtain ⟨y1, y2, y3, y4⟩ := cells4 k2
  obtain ⟨W5, hW5⟩ : ∃ X, X = W4.alloc (.cells #[.string nmr, .int .i64 par, .int .i64 lor, .slice ra nr rc] 28) := ⟨_, rfl⟩
  obtain ⟨gx, hgx⟩ : ∃ x, x = W4.heap.size := ⟨_, rfl⟩
  have b5 : Below W4.heap.size W4 W5 := hW5 ▸ below_alloc W4 _
  have kx5 : W5.heap[gx]? = some (.cells #[.string nmr, .int .i64 par, .int .i64 lor, .slice ra nr rc] 28 (0, 0)) := by rw [hW5, hgx]; exact heap_alloc_new W4 _
  have B25 := below_on B24 b5
  have Bw5 := hide (below_on B1.out B25)
  have J3 := hide (JW.out W5 Bw5.out)
  obtain ⟨k1', k2', k3'⟩ := KW.out W5 B25
  obtain ⟨z1, z2, z3, z4⟩ := cells4 k2'
  have PH : Hid ((Lnt W2.heap.size W4 gs c1 gf c2 ns nf ls lf ∧ ls.map Prod.fst = sys ∧ lf.map Prod.fst = fns ∧ Rts (fun j => j < gq) W4 (.slice (some ⟨gf, 0, none⟩) nf c2) fns) ∧ W4.heap[gq]? = some (.cells #[.slice (some ⟨gs, 0, none⟩) ns c1, .slice (some ⟨gf, 0, none⟩) nf c2] 25 (0, 0)) ∧ Below W1.heap.size W1 W4 ∧ Below W4.heap.size W4 W5 ∧ W5.heap[gx]? = some (.cells #[.string nmr, .int .i64 par, .int .i64 lor, .slice ra nr rc] 28 (0, 0)) ∧ gq < W4.heap.size ∧ gx = W4.heap.size ∧ ge < gq) := ⟨⟨hL4, hl1, hl2, QF4⟩, kq, B24, b5, kx5, lt_of_block kq, hgx, by have h1 := lt_of_block (KW.out W2 B2.out).2.2; have h2 := b3.size; omega⟩
  clear p0 p1 J2 JL hL hl1 hl2 b3 b4 kq hL4 B24 QF4 k1 k2 k3 b5 kx5 B25 k1' k2' k3'
  go_upto_region 3 with fail
  rw [← hW4, ← hgq]
  clear hW4 hgq
  go_upto_region 4 with fail
  rw [← hW5, ← hgx]
  clear hW5 hgx y1 y2 y3 y4
  go_wp2_with fail
  refine J3.out.mono ?_
  rintro e W6 ⟨gc, cx, rfl, hlk, hix, hq1, hq2, b6⟩
  have CX1 : nr ≤ cx := hq1
  have CX2 : cx ≤ 9223372036854775807 := hq2
  obtain ⟨⟨hL4, hl1, hl2, QF4⟩, kq, B24, b5, kx5, hgq4, hgx4, hge4⟩ := PH.out
  have kx6 := (b6.block gx (lt_of_block kx5)).trans kx5
  obtain ⟨v1, v2, v3, v4⟩ := cells4 kx6
  have vfr := frozen_of_row W6 gx 3 _ 28 kx6
  obtain ⟨W7, hW7⟩ : ∃ X, X = W6.setCell ⟨gx, 3, none⟩ (.slice (some ⟨gc, 0, none⟩) nr cx) := ⟨_, rfl⟩
  have b47 : Below W4.heap.size W4 W7 := by rw [hW7]; exact (below_on b5 b6).setCell (by show _ ≤ gx; omega) _
  have hgc : gx < gc := by have h1 := hlk.1; have h2 := lt_of_block kx5; omega
  have m67 : Mv W6 W7 (fun j => j = gx) := by rw [hW7]; exact mv_set W6 gx 3 _
  have kx7 : W7.heap[gx]? = some (.cells #[.string nmr, .int .i64 par, .int .i64 lor, .slice (some ⟨gc, 0, none⟩) nr cx] 28 (0, 0)) := by rw [hW7, heap_setCell_same W6 gx 3 _ 28 _ kx6]; rfl
  have hix7 := hix.mv m67 (fun j e => by omega)
  have kc7 : ∃ cs, W7.heap[gc]? = some (Obj.cells cs 47 (0, 0)) := by
    obtain ⟨-, cs, hcs⟩ := hlk
    exact ⟨cs, m67.at hcs (by omega)⟩
  have b17 := below_on B24 b47
  have CL : Hid (∀ V, Below W7.heap.size W7 V → ((Lnt W2.heap.size V gs c1 gf c2 ns nf ls lf ∧ Rts (fun j => j < gq) V (.slice (some ⟨gf, 0, none⟩) nf c2) fns) ∧ Ix (fun j => j = gc) V (.slice (some ⟨gc, 0, none⟩) nr cx) cr ∧ Below w.heap.size w V) ∧ (V.heap[gp]? = some (.cells #[.slice sa ns sc, .slice fa nf fc] 25 (0, 0)) ∧ V.heap[gr]? = some (.cells #[.string nmr, .int .i64 par, .int .i64 lor, .slice ra nr rc] 28 (0, 0)) ∧ V.heap[ge]? = some (.cells #[.string nme, .int .i64 pae, .int .i64 loe, .slice ea ne ec] 28 (0, 0))) ∧ V.heap[gq]? = some (.cells #[.slice (some ⟨gs, 0, none⟩) ns c1, .slice (some ⟨gf, 0, none⟩) nf c2] 25 (0, 0)) ∧ V.heap[gx]? = some (.cells #[.string nmr, .int .i64 par, .int .i64 lor, .slice (some ⟨gc, 0, none⟩) nr cx] 28 (0, 0))) := fun V hV => by
    have h4 := below_on b47 hV
    exact ⟨⟨⟨hL4.later h4, QF4.later h4⟩, hix7.later hV, below_on B1.out (below_on b17 hV)⟩, KW.out V (below_on b17 hV), (h4.block gq hgq4).trans kq, (hV.block gx (lt_of_block kx7)).trans kx7⟩
  have HLF : Hid (ls.map Prod.fst = sys ∧ lf.map Prod.fst = fns) := ⟨hl1, hl2⟩
  have HGC : Hid ((∃ cs, W7.heap[gc]? = some (Obj.cells cs 47 (0, 0))) ∧ gx < gc ∧ gq < gx ∧ gc < W7.heap.size ∧ ge < gq ∧ w.heap.size ≤ gp ∧ gp < gr ∧ gr < ge) := by
    obtain ⟨cs, hcs⟩ := kc7
    have hge := lt_of_block (KW.out W4 B24).2.2
    have hgg := HG.out
    have hge3 : ge < gq := hge4
    exact ⟨⟨cs, hcs⟩, hgc, by omega, lt_of_block hcs, hge3, hgg.1, hgg.2.1, hgg.2.2⟩
  clear J3 hlk hix hq1 hq2 b6 hL4 hl1 hl2 QF4 kq B24 b5 kx5 kx6 b47 hgc m67 kx7 hix7 kc7 b17 hgq4 hgx4 hge4 PH z1 z2 z3 z4 JW
  go_upto_region 5 with fail
  rw [← hW7]
  clear hW7 v1 v2 v3 v4 vfr
  obtain ⟨X0, hX0⟩ : ∃ X, X = W7 := ⟨_, rfl⟩
  have BX0 : Hid (Below W7.heap.size W7 X0) := by rw [hX0]; exact Below.refl _ _
  have HX0 := hide hX0
  rw [← hX0]
  clear hX0
  obtain ⟨⟨⟨-, qf⟩, ix, bw⟩, ⟨k1, k2, k3⟩, k4, k5⟩ := CL.out X0 BX0.out
  obtain ⟨y1, y2⟩ := cells2 k4
  obtain ⟨y3, y4, y5, y6⟩ := cells4 k5
  have J := hide (JC.out X0 (.slice (some ⟨gs, 0, none⟩) ns c1) (.slice (some ⟨gf, 0, none⟩) nf c2) nmr par lor (.slice (some ⟨gc, 0, none⟩) nr cx) cr bw ⟨_, _, _, rfl⟩ (qf.mono (fun _ _ => trivial)) (ix.il.mono (fun _ _ => trivial)))
  clear qf ix bw k1 k2 k3 k4 k5
  go_wp2_with fail
  refine J.out.mono ?_
  rintro e X1 ⟨vA, veA, atA, erA, lA, oA, rfl, hdA, hoA, hfA, hlA, bx⟩
  have BX1 := hide (below_on BX0.out bx)
  have DAA := hide hdA
  have HOA := hide hoA
  have HFA := hide hfA
  have HLA := hide hlA
  have BB1 := hide bx
  obtain ⟨aaA, caA, hvA⟩ := own_len hoA
  clear J hdA hoA hfA hlA bx y1 y2 y3 y4 y5 y6
  subst hvA
  obtain ⟨⟨⟨-, qf⟩, ix, bw⟩, ⟨k1, k2, k3⟩, k4, k5⟩ := CL.out X1 BX1.out
  obtain ⟨y1, y2⟩ := cells2 k4
  obtain ⟨y3, y4, y5, y6⟩ := cells4 k3
  have J := hide (JC.out X1 (.slice (some ⟨gs, 0, none⟩) ns c1) (.slice (some ⟨gf, 0, none⟩) nf c2) nme pae loe (.slice ea ne ec) ce bw ⟨_, _, _, rfl⟩ (qf.mono (fun _ _ => trivial)) ((HE.out.later bw).mono (fun _ _ => trivial)))
  clear qf ix bw k1 k2 k3 k4 k5
  go_wp2_with fail
  refine J.out.mono ?_
  rintro e X2 ⟨vB, veB, atB, erB, lB, oB, rfl, hdB, hoB, hfB, hlB, bx⟩
  have BX2 := hide (below_on BX1.out bx)
  have DAB := hide hdB
  have HOB := hide hoB
  have HFB := hide hfB
  have HLB := hide hlB
  have BB2 := hide bx
  obtain ⟨aaB, caB, hvB⟩ := own_len hoB
  clear J hdB hoB hfB hlB bx y1 y2 y3 y4 y5 y6
  subst hvB
  obtain ⟨⟨⟨-, qf⟩, ix, bw⟩, ⟨k1, k2, k3⟩, k4, k5⟩ := CL.out X2 BX2.out
  obtain ⟨y1, y2⟩ := cells2 k4
  obtain ⟨y3, y4, y5, y6⟩ := cells4 k5
  have J := hide (JC.out X2 (.slice (some ⟨gs, 0, none⟩) ns c1) (.slice (some ⟨gf, 0, none⟩) nf c2) nmr par lor (.slice (some ⟨gc, 0, none⟩) nr cx) cr bw ⟨_, _, _, rfl⟩ (qf.mono (fun _ _ => trivial)) (ix.il.mono (fun _ _ => trivial)))
  clear qf ix bw k1 k2 k3 k4 k5
  go_wp2_with fail
  refine J.out.mono ?_
  rintro e X3 ⟨vC, veC, atC, erC, lC, oC, rfl, hdC, hoC, hfC, hlC, bx⟩
  have BX3 := hide (below_on BX2.out bx)
  have DAC := hide hdC
  have HOC := hide hoC
  have HFC := hide hfC
  have HLC := hide hlC
  have BB3 := hide bx
  obtain ⟨aaC, caC, hvC⟩ := own_len hoC
  clear J hdC hoC hfC hlC bx y1 y2 y3 y4 y5 y6
  subst hvC
  obtain ⟨⟨⟨hln, qf⟩, ix, bw⟩, ⟨k1, k2, k3⟩, k4, k5⟩ := CL.out X3 BX3.out
  obtain ⟨y1, y2⟩ := cells2 k4
  obtain ⟨y3, y4⟩ := cells2 k1
  have J := hide (JT.out X3 _ gs c1 gf c2 ls lf bw hln HLF.out.1 HLF.out.2)
  clear hln qf ix bw k1 k2 k3 k4 k5
  go_wp2_with fail
  refine J.out.mono ?_
  rintro e X4 ⟨rfl, bx⟩
  have BX4 := hide (below_on BX3.out bx)
  have BB4 := hide bx
  clear J bx y1 y2 y3 y4
  obtain ⟨⟨-, ix, bw⟩, ⟨k1, k2, k3⟩, k4, k5⟩ := CL.out X4 BX4.out
  obtain ⟨y1, y2, y3, y4⟩ := cells4 k5
  obtain ⟨y5, y6, y7, y8⟩ := cells4 k2
  have J := hide (JR.out _ _ X4 _ _ cr ix (HR.out.later bw))
  clear ix bw k1 k2 k3 k4 k5
  go_wp2_with fail
  refine J.out.mono ?_
  rintro e X5 ⟨rfl, bx⟩
  have BX5 := hide (below_on BX4.out bx)
  have BB5 := hide bx
  clear J bx y1 y2 y3 y4 y5 y6 y7 y8
  obtain ⟨⟨-, ix, bw⟩, ⟨k1, k2, k3⟩, k4, k5⟩ := CL.out X5 BX5.out
  obtain ⟨y1, y2⟩ := cells2 k1
  obtain ⟨y3, y4, y5, y6⟩ := cells4 k2
  have J := hide (JD.out X5 nmr par lor (.slice ra nr rc) cr bw ((HR.out.later bw).mono (fun _ _ => trivial)))
  clear ix bw k1 k2 k3 k4 k5
  go_wp2_with fail
  refine J.out.mono ?_
  rintro e X6 ⟨vU, atU, erU, lU, rfl, hdU, hoU, bx⟩
  have BX6 := hide (below_on BX5.out bx)
  have DAU := hide hdU
  have HOU := hide hoU
  have BB6 := hide bx
  obtain ⟨aaU, caU, hvU⟩ := own_len hoU
  clear J hdU hoU bx y1 y2 y3 y4 y5 y6
  subst hvU
  obtain ⟨⟨-, ix, bw⟩, ⟨k1, k2, k3⟩, k4, k5⟩ := CL.out X6 BX6.out
  obtain ⟨y1, y2⟩ := cells2 k1
  obtain ⟨y3, y4, y5, y6⟩ := cells4 k3
  have J := hide (JD.out X6 nme pae loe (.slice ea ne ec) ce bw ((HE.out.later bw).mono (fun _ _ => trivial)))
  clear ix bw k1 k2 k3 k4 k5
  go_wp2_with fail
  refine J.out.mono ?_
  rintro e X7 ⟨vV, atV, erV, lV, rfl, hdV, hoV, bx⟩
  have BX7 := hide (below_on BX6.out bx)
  have DAV := hide hdV
  have HOV := hide hoV
  have BB7 := hide bx
  obtain ⟨aaV, caV, hvV⟩ := own_len hoV
  clear J hdV hoV bx y1 y2 y3 y4 y5 y6
  subst hvV
  obtain ⟨rfl, rfl, rfl⟩ := DAA.out.unique DAC.out
  obtain ⟨rfl, rfl, rfl⟩ := DAA.out.unique DAU.out
  obtain ⟨rfl, rfl, rfl⟩ := DAB.out.unique DAV.out
  have LA := hide DAA.out.len
  have LB := hide DAB.out.len
  have J := hide (JF.out X7 _ _ atA erA (HFA.out.later ((below_on (below_on (below_on (below_on (below_on BB2.out BB3.out) BB4.out) BB5.out) BB6.out) BB7.out))) HLA.out)
  go_wp2_with fail
  refine J.out.mono ?_
  rintro e X8 ⟨rfl, bx⟩
  have BX8 := hide (below_on BX7.out bx)
  have BB8 := hide bx
  clear J bx
  have J := hide (JF.out X8 _ _ atB erB (HFB.out.later ((below_on (below_on (below_on (below_on (below_on BB3.out BB4.out) BB5.out) BB6.out) BB7.out) BB8.out))) HLB.out)
  go_wp2_with fail
  refine J.out.mono ?_
  rintro e X9 ⟨rfl, bx⟩
  have BX9 := hide (below_on BX8.out bx)
  have BB9 := hide bx
  clear J bx
  have J := hide (JF.out X9 _ _ atA erA (HFC.out.later ((below_on (below_on (below_on (below_on (below_on BB4.out BB5.out) BB6.out) BB7.out) BB8.out) BB9.out))) HLC.out)
  go_wp2_with fail
  refine J.out.mono ?_
  rintro e X10 ⟨rfl, bx⟩
  have BX10 := hide (below_on BX9.out bx)
  have BB10 := hide bx
  clear J bx
  have tA : ((atA : Int) != atA) = false := by simp
  have tB : ((atB : Int) != atB) = false := by simp
  have tE : ((erA : Int) != erA) = false := by simp
  have tF : ((erB : Int) != erB) = false := by simp
  obtain ⟨cv, hcv⟩ : ∃ f : Nat → Value, f = fun j => if j = 0 then .slice aaA lA.length caA else if j = 1 then .slice aaB lB.length caB else .slice aaC lA.length caC := ⟨_, rfl⟩
  obtain ⟨wv, hwv⟩ : ∃ f : Nat → Value, f = fun j => if j = 1 then .slice aaV lB.length caV else .slice aaU lA.length caU := ⟨_, rfl⟩
  obtain ⟨cl, hcl⟩ : ∃ f : Nat → List Int, f = fun j => if j = 1 then lB else lA := ⟨_, rfl⟩
  obtain ⟨Y1, hY1⟩ : ∃ X, X = X10.alloc (.cells #[.slice aaA lA.length caA, .slice aaB lB.length caB, .slice aaC lA.length caC] 32) := ⟨_, rfl⟩
  obtain ⟨Y2, hY2⟩ : ∃ X, X = Y1.alloc (.cells #[.slice aaU lA.length caU, .slice aaV lB.length caV, .slice aaU lA.length caU] 32) := ⟨_, rfl⟩
  obtain ⟨gcm, hgcm⟩ : ∃ x, x = X10.heap.size := ⟨_, rfl⟩
  obtain ⟨gwt, hgwt⟩ : ∃ x, x = Y1.heap.size := ⟨_, rfl⟩
  obtain ⟨B7, hB7⟩ : ∃ x, x = W7.heap.size := ⟨_, rfl⟩
  have by1 : Below X10.heap.size X10 Y1 := hY1 ▸ below_alloc X10 _
  have by2 : Below Y1.heap.size Y1 Y2 := hY2 ▸ below_alloc Y1 _
  have bA : Below X1.heap.size X1 Y2 := below_on (below_on ((below_on (below_on (below_on (below_on (below_on (below_on (below_on (below_on BB2.out BB3.out) BB4.out) BB5.out) BB6.out) BB7.out) BB8.out) BB9.out) BB10.out)) by1) by2
  have bB : Below X2.heap.size X2 Y2 := below_on (below_on ((below_on (below_on (below_on (below_on (below_on (below_on (below_on BB3.out BB4.out) BB5.out) BB6.out) BB7.out) BB8.out) BB9.out) BB10.out)) by1) by2
  have bC : Below X3.heap.size X3 Y2 := below_on (below_on ((below_on (below_on (below_on (below_on (below_on (below_on BB4.out BB5.out) BB6.out) BB7.out) BB8.out) BB9.out) BB10.out)) by1) by2
  have bU : Below X6.heap.size X6 Y2 := below_on (below_on ((below_on (below_on (below_on BB7.out BB8.out) BB9.out) BB10.out)) by1) by2
  have bV : Below X7.heap.size X7 Y2 := below_on (below_on ((below_on (below_on BB8.out BB9.out) BB10.out)) by1) by2
  have BY : Hid (Below W7.heap.size W7 Y2) := below_on (below_on BX10.out by1) by2
  have HD0 : Hid (Hd B7 0 (fun g => (Value.slice aaU lA.length caU).ownBlock = some g ∨ (Value.slice aaV lB.length caV).ownBlock = some g) cv wv (fun _ => .slice none 0 0) cl gcm gwt (.slice none 0 0) Y2) := by
    have z0 : X0.heap.size = B7 := by rw [HX0.out, hB7]
    have q1 := BB1.out.size
    have q2 := BB2.out.size
    have q3 := BB3.out.size
    have q4 := BB4.out.size
    have q5 := BB5.out.size
    have q6 := BB6.out.size
    have oA := own_lower (own_later HOA.out bA) (show B7 ≤ _ by omega)
    have oB := own_lower (own_later HOB.out bB) (show B7 ≤ _ by omega)
    have oC := own_lower (own_later HOC.out bC) (show B7 ≤ _ by omega)
    have oU := own_later HOU.out bU
    have oV := own_later HOV.out bV
    have rA : ∀ g, (Value.slice aaA lA.length caA).ownBlock = some g → X0.heap.size ≤ g ∧ g < X1.heap.size := fun g e => HOA.out.lt g e
    have rB : ∀ g, (Value.slice aaB lB.length caB).ownBlock = some g → X1.heap.size ≤ g ∧ g < X2.heap.size := fun g e => HOB.out.lt g e
    have rC : ∀ g, (Value.slice aaC lA.length caC).ownBlock = some g → X2.heap.size ≤ g ∧ g < X3.heap.size := fun g e => HOC.out.lt g e
    have rU : ∀ g, (Value.slice aaU lA.length caU).ownBlock = some g → X5.heap.size ≤ g ∧ g < X6.heap.size := fun g e => HOU.out.lt g e
    have rV : ∀ g, (Value.slice aaV lB.length caV).ownBlock = some g → X6.heap.size ≤ g ∧ g < X7.heap.size := fun g e => HOV.out.lt g e
    have cv0 : cv 0 = .slice aaA lA.length caA := by rw [hcv]; rfl
    have cv1 : cv 1 = .slice aaB lB.length caB := by rw [hcv]; rfl
    have cv2 : cv 2 = .slice aaC lA.length caC := by rw [hcv]; rfl
    have wv0 : wv 0 = .slice aaU lA.length caU := by rw [hwv]; rfl
    have wv1 : wv 1 = .slice aaV lB.length caV := by rw [hwv]; rfl
    have wv2 : wv 2 = .slice aaU lA.length caU := by rw [hwv]; rfl
    have cl0 : cl 0 = lA := by rw [hcl]; rfl
    have cl1 : cl 1 = lB := by rw [hcl]; rfl
    have cl2 : cl 2 = lA := by rw [hcl]; rfl
    have i6A : ∀ x ∈ lA, I6 x := fun x hx => by have := LA.out.2.2.2 x hx; unfold I6; omega
    have i6B : ∀ x ∈ lB, I6 x := fun x hx => by have := LB.out.2.2.2 x hx; unfold I6; omega
    have range : ∀ j, j < 3 → ∃ lo hi, (∀ g, (cv j).ownBlock = some g → lo ≤ g ∧ g < hi) ∧ ((j = 0 ∧ lo = X0.heap.size ∧ hi = X1.heap.size) ∨ (j = 1 ∧ lo = X1.heap.size ∧ hi = X2.heap.size) ∨ (j = 2 ∧ lo = X2.heap.size ∧ hi = X3.heap.size)) := fun j hj => by
      match j, hj with
      | 0, _ => exact ⟨_, _, by rw [cv0]; exact rA, .inl ⟨rfl, rfl, rfl⟩⟩
      | 1, _ => exact ⟨_, _, by rw [cv1]; exact rB, .inr (.inl ⟨rfl, rfl, rfl⟩)⟩
      | 2, _ => exact ⟨_, _, by rw [cv2]; exact rC, .inr (.inr ⟨rfl, rfl, rfl⟩)⟩
    refine ⟨fun g e => ?_, fun j _ hj => ⟨?_, fun g e => ?_⟩, fun i j _ hi _ hj hij g e e' => ?_, fun j hj => absurd hj (by omega), fun j hj => ?_, ?_, ?_, World.ownsRow_nil _ _ _ _, by simp [Value.ownBlock]⟩
    · rcases e with e | e
      · exact own_blk2 oU e
      · exact own_blk2 oV e
    · match j, hj with
      | 0, _ => rw [cv0, cl0]; exact oA
      | 1, _ => rw [cv1, cl1]; exact oB
      | 2, _ => rw [cv2, cl2]; exact oC
    · obtain ⟨lo, hi, h1, h2⟩ := range j hj
      have := h1 g e
      rintro (e' | e')
      · have := rU g e'
        omega
      · have := rV g e'
        omega
    · obtain ⟨lo, hi', h1, h2⟩ := range i hi
      obtain ⟨lo', hi'', h3, h4⟩ := range j hj
      have := h1 g e
      have := h3 g e'
      omega
    · match j, hj with
      | 0, _ => rw [wv0, cl0]; exact (own_nlU oU i6A).mono (fun _ => .inl)
      | 1, _ => rw [wv1, cl1]; exact (own_nlU oV i6B).mono (fun _ => .inr)
      | 2, _ => rw [wv2, cl2]; exact (own_nlU oU i6A).mono (fun _ => .inl)
    · rw [cv0, cv1, cv2]
      exact (by2.block gcm (by rw [hgcm]; have := lt_of_block (heap_alloc_new X10 (.cells #[.slice aaA lA.length caA, .slice aaB lB.length caB, .slice aaC lA.length caC] 32)); rw [hY1]; exact this)).trans (by rw [hgcm, hY1]; exact heap_alloc_new X10 _)
    · rw [wv0, wv1, wv2, hgwt, hY2]
      exact heap_alloc_new Y1 _
  have HCV : Hid (cv 0 = .slice aaA lA.length caA ∧ cv 1 = .slice aaB lB.length caB ∧ cv 2 = .slice aaC lA.length caC) := by rw [hcv]; exact ⟨rfl, rfl, rfl⟩
  have HCL : Hid (cl 0 = lA ∧ cl 1 = lB ∧ cl 2 = lA) := by rw [hcl]; exact ⟨rfl, rfl, rfl⟩
  have HWV : Hid (wv 0 = .slice aaU lA.length caU ∧ wv 1 = .slice aaV lB.length caV ∧ wv 2 = .slice aaU lA.length caU) := by rw [hwv]; exact ⟨rfl, rfl, rfl⟩
  have HNL : Hid (∀ j, j < 3 → (cl j).length ≤ 2000) := fun j hj => by
    have h1 := LA.out.1
    have h2 := LB.out.1
    rw [hcl]
    dsimp only
    split <;> assumption
  have HB7 := hide hB7
  obtain ⟨nA, hnA⟩ : ∃ n, n = lA.length := ⟨_, rfl⟩
  obtain ⟨nB, hnB⟩ : ∃ n, n = lB.length := ⟨_, rfl⟩
  rw [← hnA, ← hnB] at HCV HWV hY1 hY2 HD0 ⊢
  have HNA : Hid (nA = lA.length ∧ nB = lB.length) := ⟨hnA, hnB⟩
  clear hcv hwv hcl by1 by2 bA bB bC bU bV hB7 hnA hnB
  go_upto_region 17 with fail
  go_upto_region 18 with fail
  rw [← hY1, ← hgcm]
  clear hY1 hgcm
  go_upto_region 19 with fail
  rw [← hY2, ← hgwt]
  clear hY2 hgwt tA tB tE tF HFA HFB HFC HLA HLB HLC HOA HOB HOC BB1 BB2 BB3 BB4 BB5 BB6 BB7 BB8 BB9 BB10
  go_wp2_with fail
  go_loopw [35, 36] (fun v35 v36 W => ∃ (U : Nat → Prop) (lv : Nat → Value) (k : Nat), k ≤ 3 ∧ v36 = .int .i64 (k : Int) ∧ Hid (Hd B7 k U cv wv lv cl gcm gwt v35 W) ∧ Hid (Below W7.heap.size W7 W)) (fun _ v36 _ => 3 - (intOf v36).toNat)
  case atStart => exact ⟨_, _, 0, by omega, rfl, HD0, BY⟩
  case round =>
    obtain ⟨U, lv, k, hk, rfl, HH, HBW⟩ := hrel
    clear HD0 BY
    obtain ⟨al, cal, rfl⟩ := own_len HH.out.long
    by_cases hlt : k < 3
    · have hki : (k : Int) < 3 := by omega
      have HH0 := HH
      have HBW0 := HBW
      go_wp2_with fail
      go_loopw [37] (fun v37 W => ∃ j : Nat, k ≤ j ∧ j ≤ 3 ∧ v37 = .int .i64 (j : Int) ∧ Hid (Hd B7 k U cv wv lv cl gcm gwt (.slice al k cal) W) ∧ Hid (Below W7.heap.size W7 W)) (fun v37 _ => 3 - (intOf v37).toNat)
      case atStart => exact ⟨k, Nat.le_refl _, hk, rfl, HH0, HBW0⟩
      case round =>
        obtain ⟨j, hkj, hj3, rfl, HI2, HBI⟩ := hrel
        clear HH HBW HH0 HBW0
        by_cases hj : j < 3
        · have hji : (j : Int) < 3 := by omega
          obtain ⟨z1, z2⟩ := HI2.out.cm hj
          have hdr := below_drew wr
          have S0 : Hid (wr.drew.cell? ⟨gcm, j, none⟩ = some (cv j) ∧ wr.drew.cell? ⟨gwt, j, none⟩ = some (wv j)) := ⟨z1, z2⟩
          have HI3 := hide (HI2.out.later hdr)
          have J := hide (JM.out _ _ wr.drew (cv j) (wv j) (cl j) (own_nlU (HI3.out.und j hkj hj).1 (HI3.out.wn j hj).six) (HI3.out.wn j hj))
          clear z1 z2 hdr
          go_upto_region 26 with fail
          go_region_held3 (fun V => V.cell? ⟨gcm, j, none⟩ = some (cv j) ∧ V.cell? ⟨gwt, j, none⟩ = some (wv j)) (first | exact S0.out | exact S1) ((go_at_call 14; refine J.out.mono ?_; rintro e Z1 ⟨rfl, bz⟩; have HI4 := hide (HI3.out.later bz); have HB4 := hide (below_on HBI.out (below_on (below_drew wr) bz)); have S1 := HI4.out.cm hj; clear bz))
          clear S0 S1 J HI2 HI3 HBI
          go_wp2_with fail
          go_roundw
          case rel => exact ⟨j + 1, by omega, by omega, by go_num, HI4, HB4⟩
          case measure => simp [intOf]; omega
        · have hji : ¬ (j : Int) < 3 := by omega
          obtain ⟨z1, -⟩ := HI2.out.cm hlt
          obtain ⟨ho0, hu0⟩ := HI2.out.und k (Nat.le_refl _) hlt
          obtain ⟨OT0, NU⟩ := HI2.out.enter hlt
          have HKU := hide hu0
          have HAP := hide HI2.out.ap
          have HUD : Hid (∀ j, k ≤ j → j < 3 → ∀ g, (cv j).ownBlock = some g → ¬ U g) := fun j h1 h2 => (HI2.out.und j h1 h2).2
          have HDN := hide HI2.out.don
          have HWN := hide HI2.out.wn
          have HUI := hide HI2.out.uk
          obtain ⟨ak, ck, hck⟩ := own_len ho0
          have hn2 := HNL.out k hlt
          obtain ⟨n, hn⟩ : ∃ n, n = (cl k).length := ⟨_, rfl⟩
          rw [← hn] at hck ho0 hn2
          have HN := hide hn
          rw [hck] at z1 ho0 NU
          have HCK := hide hck
          obtain ⟨q1, q2⟩ := own_cap ho0
          have OW0 : Hid (wr.ownsRow B7 3 1 (.slice ak n ck) n (zq (List.replicate 0 (1000 + (k : Int)) ++ (cl k).drop 0))) := by unfold Hid; simpa using ho0
          have OT1 := hide OT0
          have HNU := hide NU
          have tk : IntKind.i64.wrap (1000 + (k : Int)) = 1000 + (k : Int) := by rw [IntKind.wrap_i64]; omega
          clear HI2 ho0 hu0 OT0 NU hn hck
          go_upto_region 30 with fail
          clear z1
          go_wp2_with fail
          have HB1 := HBI
          go_loopw [40] (fun v40 W => ∃ i : Nat, i ≤ n ∧ v40 = .int .i64 (i : Int) ∧ Hid (W.ownsRow B7 3 1 (.slice ak n ck) n (zq (List.replicate i (1000 + (k : Int)) ++ (cl k).drop i))) ∧ Hid (Ot B7 k (Uk k U cv) cv wv lv cl gcm gwt (.slice al k cal) W ∧ (∀ j, j < k → RdU U W (cv j) (cl j).length (1000 + (j : Int)) ∧ RdU U W (lv j) ((cl j).length + 70) (1000 + (j : Int))) ∧ (∀ j, j < 3 → Nl U W (wv j) (cl j))) ∧ Hid (Below W7.heap.size W7 W)) (fun v40 _ => n - (intOf v40).toNat)
          case atStart => exact ⟨0, Nat.zero_le _, rfl, OW0, ⟨OT1.out, HDN.out, HWN.out⟩, HB1⟩
          case round =>
            obtain ⟨i, hi, rfl, HOW, HOT, HB⟩ := hrel
            clear OW0 OT1 HB1 HBI HDN HWN
            by_cases hin : i < n
            · have hii : (i : Int) < (n : Int) := by omega
              obtain ⟨g, cg, eg, -, -⟩ := own_form HOW.out (by omega)
              simp only [Value.slice.injEq, true_and] at eg
              obtain ⟨rfl, rfl⟩ := eg
              have hgU : ¬ Uk k U cv g := HNU.out g rfl
              have hgI : IsI wr g := own_blk2 HOW.out rfl
              have hm := mv_set wr g i (.int .i64 (1000 + (k : Int)))
              have hsU : ∀ x, Uk k U cv x → ¬ x = g := fun x e e' => hgU (e' ▸ e)
              have hil : i < (cl k).length := by have := HN.out; omega
              have RO : Hid ((wr.setCell ⟨g, i, none⟩ (.int .i64 (1000 + (k : Int)))).ownsRow B7 3 1 (.slice (some ⟨g, 0, none⟩) n ck) n (zq (List.replicate (i + 1) (1000 + (k : Int)) ++ (cl k).drop (i + 1)))) := by
                unfold Hid
                rw [← rep_set _ _ _ hil, ← zq_set]
                exact own_put HOW.out
              have RT : Hid (Ot B7 k (Uk k U cv) cv wv lv cl gcm gwt (.slice al k cal) (wr.setCell ⟨g, i, none⟩ (.int .i64 (1000 + (k : Int)))) ∧ (∀ j, j < k → RdU U (wr.setCell ⟨g, i, none⟩ (.int .i64 (1000 + (k : Int)))) (cv j) (cl j).length (1000 + (j : Int)) ∧ RdU U (wr.setCell ⟨g, i, none⟩ (.int .i64 (1000 + (k : Int)))) (lv j) ((cl j).length + 70) (1000 + (j : Int))) ∧ (∀ j, j < 3 → Nl U (wr.setCell ⟨g, i, none⟩ (.int .i64 (1000 + (k : Int)))) (wv j) (cl j))) :=
                ⟨HOT.out.1.mv hm hsU (fun x e _ => e ▸ hgI), fun j hj => ⟨(HOT.out.2.1 j hj).1.mv hm (fun x e => hsU x (.inl e)), (HOT.out.2.1 j hj).2.mv hm (fun x e => hsU x (.inl e))⟩, fun j hj => (HOT.out.2.2 j hj).mv' hm (fun x e => hsU x (.inl e))⟩
              have RB : Hid (Below W7.heap.size W7 (wr.setCell ⟨g, i, none⟩ (.int .i64 (1000 + (k : Int))))) := HB.out.setCell (by show _ ≤ g; have := (HOW.out.lt g rfl).1; have := HB7.out; omega) _
              have x0 : ∃ x, wr.cell? ⟨g, i, none⟩ = some x := by
                rw [HOW.out.cellAt i (by omega)]
                exact ⟨_, List.getElem?_eq_getElem (by have := HOW.out.1; omega)⟩
              obtain ⟨x, x0⟩ := x0
              have x1 := HOW.out.frozenAt i
              clear hgU hgI hm hsU HOW HOT HB
              go_wp2_with fail
              go_roundw
              case rel => exact ⟨i + 1, by omega, by go_num, RO, RT, RB⟩
              case measure => simp [intOf]; omega
            · have hii : ¬ (i : Int) < (n : Int) := by omega
              have hin' : i = n := by omega
              have OWn : Hid (wr.ownsRow B7 3 1 (.slice ak n ck) n (zq (List.replicate n (1000 + (k : Int))))) := by
                have := HOW.out
                rw [hin', List.drop_eq_nil_of_le (by have := HN.out; omega), List.append_nil] at this
                exact this
              have OTn := HOT
              have HBn := HB
              have RDn : Hid (RdU (fun g => (Value.slice ak n ck).ownBlock = some g) wr (.slice ak n ck) n (1000 + (k : Int)) ∧ ∀ g, (Value.slice ak n ck).ownBlock = some g → IsI wr g) := ⟨own_rdU OWn.out, fun g e => own_blk2 OWn.out e⟩
              clear HOW HOT HB hin'
              go_wp2_with fail
              go_loopw [39, 41] (fun v39 v41 W => ∃ i : Nat, i ≤ 70 ∧ v41 = .int .i64 (i : Int) ∧ Hid (W.ownsRow B7 3 1 v39 (n + i) (zq (List.replicate (n + i) (1000 + (k : Int)))) ∧ ∀ g, v39.ownBlock = some g → ¬ Uk k U cv g) ∧ Hid (RdU (fun g => (Value.slice ak n ck).ownBlock = some g) W (.slice ak n ck) n (1000 + (k : Int)) ∧ ∀ g, (Value.slice ak n ck).ownBlock = some g → IsI W g) ∧ Hid (Ot B7 k (Uk k U cv) cv wv lv cl gcm gwt (.slice al k cal) W ∧ (∀ j, j < k → RdU U W (cv j) (cl j).length (1000 + (j : Int)) ∧ RdU U W (lv j) ((cl j).length + 70) (1000 + (j : Int))) ∧ (∀ j, j < 3 → Nl U W (wv j) (cl j))) ∧ Hid (Below W7.heap.size W7 W)) (fun _ v41 _ => 70 - (intOf v41).toNat)
              case atStart => exact ⟨0, by omega, rfl, ⟨OWn.out, HNU.out⟩, RDn, OTn, HBn⟩
              case round =>
                obtain ⟨i, hi, rfl, HOW, HRD, HOT, HB⟩ := hrel
                clear OWn OTn HBn RDn
                obtain ⟨m, hm⟩ : ∃ m, m = n + i := ⟨_, rfl⟩
                rw [← hm] at HOW
                have HM := hide hm
                have hm2 : m ≤ 2070 := by omega
                obtain ⟨a9, c9, rfl⟩ := own_len HOW.out.1
                clear hm
                by_cases hi7 : i < 70
                · have hii : (i : Int) < 70 := by omega
                  have BA : Hid (Below wr.heap.size wr (wr.alloc (.cells #[.int .i64 (1000 + (k : Int))] 3))) := below_alloc wr _
                  go_wp2_with (at_builtin; refine appendKept rfl _ _ rfl B7 _ m (zq (List.replicate m (1000 + (k : Int)))) rfl ?k1 ⟨wr.heap.size, 0, none⟩ 1 (1000 + (k : Int)) rfl (cell_one_new _ _ _) ?k3 ?k4 ?_)
                  case k1 => exact own_later HOW.out.1 BA.out
                  case k3 => omega
                  case k4 => have h1 := HB.out.size; have h2 := BA.out.size; have h3 := HB7.out; omega
                  intro v' w9 ho9 hg9 hat9 hk9
                  have HO2 : Hid (w9.ownsRow B7 3 1 v' (n + (i + 1)) (zq (List.replicate (n + (i + 1)) (1000 + (k : Int)))) ∧ ∀ g, v'.ownBlock = some g → ¬ Uk k U cv g) := by
                    refine ⟨?_, fun g e e' => ?_⟩
                    · rw [show n + (i + 1) = m + 1 by have := HM.out; omega, ← zq_rep]
                      exact ho9
                    · rcases hat9 with h | h
                      · exact HOW.out.2 g (h ▸ e) e'
                      · have h1 : g = wr.heap.size + 1 := by rw [h] at e; injection e with e; exact e.symm
                        obtain ⟨cs, hcs⟩ := HOT.out.1.uk g e'
                        have h2 := lt_of_block hcs
                        have h3 := BA.out.size
                        omega
                  have mvB := Mv.of_below BA.out (fun _ => False)
                  have HR2 : Hid (RdU (fun g => (Value.slice ak n ck).ownBlock = some g) w9 (.slice ak n ck) n (1000 + (k : Int)) ∧ ∀ g, (Value.slice ak n ck).ownBlock = some g → IsI w9 g) := rd_step ⟨HRD.out.1.mv mvB (fun _ _ e => e), fun g e => (by obtain ⟨cs, hcs⟩ := HRD.out.2 g e; exact ⟨cs, mvB.at hcs id⟩)⟩ (by have := HM.out; omega) hg9 hk9
                  have mv9 := mv_grown hg9
                  have hsU : ∀ g, Uk k U cv g → ¬ (Value.slice a9 m c9).ownBlock = some g := fun g e e' => HOW.out.2 g e' e
                  have OA := HOT.out.1.later BA.out
                  have OWA := own_later HOW.out.1 BA.out
                  have HT2 : Hid (Ot B7 k (Uk k U cv) cv wv lv cl gcm gwt (.slice al k cal) w9 ∧ (∀ j, j < k → RdU U w9 (cv j) (cl j).length (1000 + (j : Int)) ∧ RdU U w9 (lv j) ((cl j).length + 70) (1000 + (j : Int))) ∧ (∀ j, j < 3 → Nl U w9 (wv j) (cl j))) :=
                    ⟨OA.mv mv9 hsU (fun g e _ => own_blk2 OWA e), fun j hj => ⟨((HOT.out.2.1 j hj).1.mv mvB (fun _ _ e => e)).mv mv9 (fun g e => hsU g (.inl e)), ((HOT.out.2.1 j hj).2.mv mvB (fun _ _ e => e)).mv mv9 (fun g e => hsU g (.inl e))⟩, fun j hj => ((HOT.out.2.2 j hj).mv' mvB (fun _ _ e => e)).mv' mv9 (fun g e => hsU g (.inl e))⟩
                  have HB2 : Hid (Below W7.heap.size W7 w9) := by
                    have bb := below_on HB.out BA.out
                    exact bb.grown hg9 bb.size (fun g e => by have h1 := (OWA.lt g e).1; have h2 := HB7.out; omega)
                  obtain ⟨a8, c8, rfl⟩ := own_len ho9
                  clear ho9 hg9 hat9 hk9 mvB mv9 hsU OA OWA HOW HRD HOT HB BA
                  go_wp2_with fail
                  go_roundw
                  case rel => exact ⟨i + 1, by omega, by go_num, HO2, HR2, HT2, HB2⟩
                  case measure => simp [intOf]; omega
                · have hii : ¬ (i : Int) < 70 := by omega
                  have hm70 : m = n + 70 := by have := HM.out; omega
                  have HM7 := hide hm70
                  clear hm70 HM
                  have BA : Hid (Below wr.heap.size wr (wr.alloc (.cells #[.slice a9 m c9] 32))) := below_alloc wr _
                  go_wp2_with (at_builtin; refine appendLong rfl _ _ rfl B7 _ k ((List.range k).map lv) rfl ?k1 ⟨wr.heap.size, 0, none⟩ 1 (.slice a9 m c9) rfl rfl (cell_one_new _ _ _) ?k3 ?k4 ?_)
                  case k1 => exact own_later HOT.out.1.long BA.out
                  case k3 => omega
                  case k4 => have h1 := HB.out.size; have h2 := BA.out.size; have h3 := HB7.out; omega
                  intro v' w9 ho9 hg9 hat9
                  have RN : Hid (Hd B7 (k + 1) (fun g => U g ∨ (cv k).ownBlock = some g ∨ (Value.slice a9 m c9).ownBlock = some g) cv wv (upd lv k (.slice a9 m c9)) cl gcm gwt v' w9) := by
                    have mvB := Mv.of_below BA.out (fun _ => False)
                    have OWA := own_later HOW.out.1 BA.out
                    refine (HOT.out.1.later BA.out).leave HUD.out HAP.out (fun j hj => ⟨(HOT.out.2.1 j hj).1.mv mvB (fun _ _ e => e), (HOT.out.2.1 j hj).2.mv mvB (fun _ _ e => e)⟩) (fun j hj => (HOT.out.2.2 j hj).mv' mvB (fun _ _ e => e)) (fun g e => ⟨HOW.out.2 g e, own_blk2 OWA e⟩) ?_ ?_ ?_ hg9 ho9 (hat9.imp id (fun e => by rw [e]; simp)) hlt
                    · rw [HCK.out]
                      intro g e
                      obtain ⟨cs, hcs⟩ := HRD.out.2 g e
                      exact ⟨cs, mvB.at hcs id⟩
                    · rw [HCK.out, ← HN.out]
                      exact HRD.out.1.mv mvB (fun _ _ e => e)
                    · rw [← HN.out]
                      have := own_rdU OWA
                      rw [HM7.out] at this ⊢
                      exact this
                  have RB : Hid (Below W7.heap.size W7 w9) := by
                    have bb := below_on HB.out BA.out
                    exact bb.grown hg9 bb.size (fun g e => by have h1 := (HOT.out.1.long.lt g e).1; have h2 := HB7.out; omega)
                  obtain ⟨a8, c8, rfl⟩ := own_len ho9
                  clear ho9 hg9 hat9 HOW HRD HOT HB BA
                  go_wp2_with fail
                  go_roundw
                  case rel => exact ⟨_, _, k + 1, by omega, by go_num, RN, RB⟩
                  case measure => simp [intOf]; omega
    · have hki : ¬ (k : Int) < 3 := by omega
      obtain rfl : k = 3 := by omega
      obtain ⟨WZ, hWZ⟩ : ∃ X, X = wr := ⟨_, rfl⟩
      rw [← hWZ] at HH HBW ⊢
      clear hWZ hk hki hlt
      obtain ⟨gl, cl_, el, -, -⟩ := own_form HH.out.long (by omega)
      simp only [Value.slice.injEq, true_and] at el
      obtain ⟨rfl, rfl⟩ := el
      obtain ⟨ql1, ql2⟩ := own_cap HH.out.long
      have HLN : Hid (∀ j, j < 3 → WZ.cell? ⟨gl, j, none⟩ = some (lv j)) := fun j hj => by
        rw [HH.out.long.cellAt j (by omega)]
        simp [hj]
      have e3 : ((3 : Nat) : Int) = 3 := rfl
      rw [e3]
      clear e3
      go_wp2_with fail
      go_loopw [42] (fun v42 W => ∃ k : Nat, k ≤ 3 ∧ v42 = .int .i64 (k : Int) ∧ W = WZ) (fun v42 _ => 3 - (intOf v42).toNat)
      case atStart => exact ⟨0, by omega, rfl, rfl⟩
      case round =>
        obtain ⟨k, hk, rfl, hW⟩ := hrel
        subst hW
        by_cases hlt : k < 3
        · have hki : (k : Int) < 3 := by omega
          have hk3 : (k : Int) < ((3 : Nat) : Int) := by omega
          obtain ⟨⟨a1, d1, e1, g1, g2, g3⟩, a2, d2, e2, g4, g5, g6⟩ := HH.out.don k hlt
          obtain ⟨y1, -⟩ := HH.out.cm hlt
          have y2 := HLN.out k hlt
          rw [e1] at y1
          rw [e2] at y2
          have hn2 := HNL.out k hlt
          obtain ⟨n, hn⟩ : ∃ n, n = (cl k).length := ⟨_, rfl⟩
          rw [← hn] at y1 y2 g1 g3 g4 g6 hn2
          obtain ⟨gg, rfl, -, hcc⟩ := g6 (by omega)
          obtain ⟨m, hm⟩ : ∃ m, m = n + 70 := ⟨_, rfl⟩
          rw [← hm] at y2 hcc g4
          have HM := hide hm
          have G3 := hide g3
          have HCC := hide hcc
          have tk : IntKind.i64.wrap (1000 + (k : Int)) = 1000 + (k : Int) := by rw [IntKind.wrap_i64]; omega
          have txx : ((1000 + (k : Int)) != (1000 + (k : Int))) = false := by simp
          clear e1 e2 hn hm g3 g6 hcc
          go_wp2_with fail
          go_loopw [43] (fun v43 W => ∃ j : Nat, j ≤ m ∧ v43 = .int .i64 (j : Int) ∧ W = wr) (fun v43 _ => m - (intOf v43).toNat)
          case atStart => exact ⟨0, Nat.zero_le _, rfl, rfl⟩
          case round =>
            obtain ⟨j, hj, rfl, hW⟩ := hrel
            subst hW
            by_cases hjm : j < m
            · have hjj : (j : Int) < (m : Int) := by omega
              have x1 := HCC.out j hjm
              by_cases hjn : j < n
              · have hjn' : (j : Int) < (n : Int) := by omega
                obtain ⟨g7, rfl, -, hc7⟩ := G3.out (by omega)
                have x2 := hc7 j hjn
                clear hc7
                go_wp2_with fail
                go_roundw
                case rel => exact ⟨j + 1, by omega, by go_num, trivial⟩
                case measure => simp [intOf]; omega
              · have hjn' : ¬ (j : Int) < (n : Int) := by omega
                go_wp2_with fail
                go_roundw
                case rel => exact ⟨j + 1, by omega, by go_num, trivial⟩
                case measure => simp [intOf]; omega
            · have hjj : ¬ (j : Int) < (m : Int) := by omega
              go_wp2_with fail
              go_roundw
              case rel => exact ⟨k + 1, by omega, by go_num, trivial⟩
              case measure => simp [intOf]; omega
        · have hki : ¬ (k : Int) < 3 := by omega
          have HBZ := HBW
          have UW : Hid (Nl U _ (wv 0) (cl 0)) := HH.out.wn 0 (by omega)
          rw [HWV.out.1, HCL.out.1] at UW
          have HNA1 := hide HNA.out.1
          clear HH HBW HLN ql1 ql2 hk hlt HWV HCV HCL HNL
          go_upto_region 47 with fail
          rename_i K4 hK4
          exact dep47 rfl rfl rfl rfl rfl rfl rfl JC JD JF JM CL HBZ UW DAA HNA1 HGC HNR HZ3 CX1 CX2 hK4
end Go.Proofs.YtklamaibinjcmaaDoor
