/-
  Plan: Legal.
-/
import Derived.Test.YthgjdmomcpcolaaCo
namespace Go.Proofs.Ythgjdmomcpcolaa
open Go.RowKit
set_option maxRecDepth 100000
theorem info4 : (Try.prog.info? 4).map (fun i => (i.zero, i.size, i.bytes)) = some (some (.bool false), 1, 1) := by kernel_rfl
/-! ### Plain -/
def LgP (L : List Sy) (o : List Int) : Prop := (∀ x ∈ o, 0 ≤ x ∧ x < L.length) ∧ o.Pairwise (Ah L)
theorem LgP.nil (L : List Sy) : LgP L [] := ⟨fun x hx => (by cases hx), List.Pairwise.nil⟩
theorem LgP.add {L : List Sy} {o : List Int} {x : Int} : LgP L (o ++ [x]) ↔ LgP L o ∧ (0 ≤ x ∧ x < L.length) ∧ ∀ y ∈ o, Ah L y x := by
  unfold LgP
  rw [List.pairwise_append]
  simp only [List.mem_append, List.mem_singleton]
  constructor
  · rintro ⟨h1, h2, -, h4⟩
    exact ⟨⟨fun y hy => h1 y (.inl hy), h2⟩, h1 x (.inr rfl), fun y hy => h4 y hy x rfl⟩
  · rintro ⟨⟨h1, h2⟩, h3, h4⟩
    refine ⟨fun y hy => ?_, h2, by simp, fun y hy z hz => by rw [hz]; exact h4 y hy⟩
    rcases hy with hy | rfl
    · exact h1 y hy
    · exact h3
theorem Lg.pre {L : List Sy} {o : List Int} (h : Lg L o) (i : Nat) : LgP L (o.take i) := ⟨fun x hx => h.2.1 x (List.mem_of_mem_take hx), h.2.2.sublist (List.take_sublist _ _)⟩
theorem Lg.of {L : List Sy} {o : List Int} (hl : o.length = L.length) (h : LgP L o) : Lg L o := ⟨hl, h.1, h.2⟩
/-- The marks of those that were looked at. -/
def mko (L : List Sy) (o : List Int) : Mk := o.map fun x => (L.getD x.toNat default, x.toNat + 1)
theorem mko_add (L : List Sy) (o : List Int) (x : Int) : mko L (o ++ [x]) = mko L o ++ [(L.getD x.toNat default, x.toNat + 1)] := by simp [mko]
/-- Whether one that conflicts stands ahead, and should not. -/
theorem mko_grt {L : List Sy} {o : List Int} {k : Nat} (h : LgP L o) (_hk : k < L.length) (hn : (k : Int) ∉ o) : grt (mko L o) (L.getD k default) ≤ k ↔ ∀ y ∈ o, Ah L y (k : Int) := by
  unfold grt
  rw [gt_le]
  constructor
  · intro hh y hy
    have hy2 := h.1 y hy
    refine ⟨fun e => hn (e ▸ hy), fun hc => ?_⟩
    have := hh (L.getD y.toNat default, y.toNat + 1) (List.mem_map.2 ⟨y, hy, rfl⟩) hc
    dsimp only at this
    omega
  · intro hh x hx hc
    obtain ⟨y, hy, rfl⟩ := List.mem_map.1 hx
    have hy2 := h.1 y hy
    have := (hh y hy).2 hc
    dsimp only
    omega
theorem mko_le {L : List Sy} {o : List Int} (h : LgP L o) : ∀ x ∈ mko L o, x.2 ≤ L.length := fun x hx => by
  obtain ⟨y, hy, rfl⟩ := List.mem_map.1 hx
  have hy2 := h.1 y hy
  dsimp only
  omega
/-! ### Who has been -/
def bc (l : List Bool) : List Value := l.map fun b => Value.bool b
theorem bc_len (l : List Bool) : (bc l).length = l.length := by simp [bc]
theorem bc_at (l : List Bool) (i : Nat) (h : i < l.length) : (bc l)[i]? = some (.bool l[i]) := by simp [bc, h]
theorem bc_set (l : List Bool) (i : Nat) (b : Bool) : (bc l).set i (.bool b) = bc (l.set i b) := by simp [bc, List.map_set]
/-- Under way: the first i were looked at. -/
def Lw (w : World) (gb ga g1 g2 : Nat) (L : List Sy) (o : List Int) (W : World) : Prop :=
  (∃ bl : List Bool, bl.length = L.length ∧ (∀ k (h : k < bl.length), bl[k] = true ↔ (k : Int) ∈ o) ∧ W.ownsRow w.heap.size 4 1 (.slice (some ⟨gb, 0, none⟩) L.length L.length) L.length (bc bl)) ∧ Mm W g1 g2 (o.length * 2000) (mko L o) ∧ W.heap[ga]? = some (.cells #[.map (some g1), .map (some g2)] 69 (0, 0)) ∧ LgP L o ∧ Below w.heap.size w W ∧ w.heap.size ≤ gb ∧ w.heap.size ≤ ga ∧ w.heap.size ≤ g1 ∧ w.heap.size ≤ g2
/-- One more has been. -/
theorem Lw.been {w W : World} {gb ga g1 g2 : Nat} {L : List Sy} {o : List Int} (h : Lw w gb ga g1 g2 L o W) (k : Nat) (_hk : k < L.length) :
    (∃ bl : List Bool, bl.length = L.length ∧ (∀ j (h : j < bl.length), bl[j] = true ↔ (j : Int) ∈ o ++ [(k : Int)]) ∧ (W.setCell ⟨gb, k, none⟩ (.bool true)).ownsRow w.heap.size 4 1 (.slice (some ⟨gb, 0, none⟩) L.length L.length) L.length (bc bl)) ∧ Mm (W.setCell ⟨gb, k, none⟩ (.bool true)) g1 g2 (o.length * 2000) (mko L o) ∧ (W.setCell ⟨gb, k, none⟩ (.bool true)).heap[ga]? = some (.cells #[.map (some g1), .map (some g2)] 69 (0, 0)) ∧ Below w.heap.size w (W.setCell ⟨gb, k, none⟩ (.bool true)) := by
  obtain ⟨⟨bl, h1, h2, h3⟩, h4, h5, h6, h7, h8, h9, h10, h11⟩ := h
  have hmv : Mv W (W.setCell ⟨gb, k, none⟩ (.bool true)) (fun q => q = gb) := (Mv.refl W (fun q => q = gb)).set (g := gb) rfl k _
  obtain ⟨cur, hcur⟩ := own_block h3 (g := gb) rfl
  refine ⟨⟨bl.set k true, by simp [h1], fun j hj => ?_, ?_⟩, ?_, ?_, ?_⟩
  · rw [List.getElem_set]
    by_cases e : k = j
    · subst e
      simp
    · rw [if_neg e, h2 j (by simpa using hj)]
      simp only [List.mem_append, List.mem_singleton]
      constructor
      · exact fun h => .inl h
      · rintro (h | h)
        · exact h
        · omega
  · have := (h3.stored k (.bool true)).1
    rwa [bc_set] at this
  · have hh : ∀ {gm m : Nat} {f : Int → Nat}, Mz W gm m f → Mz (W.setCell ⟨gb, k, none⟩ (.bool true)) gm m f := fun hz => by
      refine hz.same (hmv.2.2.2.2 _ hz.lt (fun e => ?_))
      obtain ⟨D, m, -, ⟨es, ck, q1, -⟩, -⟩ := hz
      rw [e, hcur] at q1
      cases q1
    exact ⟨h4.1, hh h4.2.1, hh h4.2.2⟩
  · refine hmv.at h5 (fun e => ?_)
    rw [e, hcur] at h5
    simp at h5
  · exact h7.trans (hmv.below h7.size (fun q e => by rw [e]; exact h8))
theorem Lw.next {w V W' : World} {gb ga g1 g2 n : Nat} {L : List Sy} {o : List Int} {k : Nat} {bl : List Bool} (hP : LgP L (o ++ [(k : Int)])) (hbl : bl.length = L.length) (hb : ∀ j (h : j < bl.length), bl[j] = true ↔ (j : Int) ∈ o ++ [(k : Int)]) (hr : V.ownsRow w.heap.size 4 1 (.slice (some ⟨gb, 0, none⟩) L.length L.length) L.length (bc bl)) (hM : Mm V g1 g2 (o.length * 2000) (mko L o)) (hga : V.heap[ga]? = some (.cells #[.map (some g1), .map (some g2)] 69 (0, 0))) (hB : Below w.heap.size w V) (hq : w.heap.size ≤ gb ∧ w.heap.size ≤ ga ∧ w.heap.size ≤ g1 ∧ w.heap.size ≤ g2)
    (hM' : Mm W' g1 g2 n (mko L o ++ [(L.getD k default, k + 1)])) (hn : n ≤ (o.length + 1) * 2000) (hm : Mv V W' (fun q => q = g1 ∨ q = g2)) : Lw w gb ga g1 g2 L (o ++ [(k : Int)]) W' := by
  have nm : ∀ q cur t, V.heap[q]? = some (.cells cur t (0, 0)) → ¬ (q = g1 ∨ q = g2) := fun q cur t hc e => by
    rcases e with e | e
    · obtain ⟨D, m, -, ⟨es, ck, q1, -⟩, -⟩ := hM.2.1
      rw [← e, hc] at q1
      cases q1
    · obtain ⟨D, m, -, ⟨es, ck, q1, -⟩, -⟩ := hM.2.2
      rw [← e, hc] at q1
      cases q1
  obtain ⟨cur, hcur⟩ := own_block hr (g := gb) rfl
  refine ⟨⟨bl, hbl, hb, hm.own hr (fun q hq e => ?_)⟩, ?_, hm.at hga (nm _ _ _ hga), hP, ?_, hq⟩
  · simp only [Value.ownBlock, Option.some.injEq] at hq
    subst hq
    exact nm _ _ _ hcur e
  · rw [mko_add, Int.toNat_natCast, List.length_append, List.length_singleton]
    exact ⟨hM'.1, hM'.2.1.mono hn, hM'.2.2.mono hn⟩
  · exact hB.trans (hm.below hB.size (fun q e => by rcases e with rfl | rfl <;> omega))
theorem cell_nomap {V : World} {b k gm n : Nat} {x : Value} {f : Int → Nat} (hc : V.cell? ⟨b, k, none⟩ = some x) (hz : Mz V gm n f) : b ≠ gm := fun e => by
  obtain ⟨D, m, -, ⟨es, ck, q1, -⟩, -⟩ := hz
  rw [← e] at q1
  simp [World.cell?, q1] at hc
/-- What Legal hands back. -/
def LgOut (w : World) (L : List Sy) (os : List Int) (e : Ending) (w' : World) : Prop := ∃ b : Bool, e = .returned (.bool b) ∧ (b = true ↔ Lg L os) ∧ Below w.heap.size w w'
theorem LgOut.yes {w w' : World} {L : List Sy} {os : List Int} (h : Lg L os) (hb : Below w.heap.size w w') : LgOut w L os (.returned (.bool true)) w' := ⟨true, rfl, ⟨fun _ => h, fun _ => rfl⟩, hb⟩
theorem LgOut.no {w w' : World} {L : List Sy} {os : List Int} (h : ¬ Lg L os) (hb : Below w.heap.size w w') : LgOut w L os (.returned (.bool false)) w' := ⟨false, rfl, ⟨fun h => (by cases h), fun h' => absurd h' h⟩, hb⟩
set_option maxHeartbeats 8000000 in
theorem legal_any {w : World} {B g : Nat} {L : List Sy} {vo : Value} {os : List Int} (h : Pl w B g L) (ho : Rl w vo os) : Calls Try.prog 13 #[.pointer (some ⟨g, 0, none⟩), vo] w fun e w' => LgOut w L os e w' := by
  obtain ⟨aa, ca, vs, c0, hAs, hvl, hca1, hca2⟩ := h.cell
  have hL : L.length ≤ 1000 := by
    obtain ⟨va, vs, vt, rs, sts, -, -, -, -, -, h6, -⟩ := h
    exact h6
  have HC : Hid (∀ W, Below w.heap.size w W → W.cell? ⟨g, 0, none⟩ = some (.slice aa L.length ca)) := fun W hb => (World.cell?_of_block (hb.block g (World.block_lt_of_cell? w _ c0))).trans c0
  have HPL : Hid (∀ W, Below w.heap.size w W → Pl W B g L) := fun W hb => h.later hb
  have HAS := hide hAs
  have HL := hide hL
  have HO := hide ho
  have HVL := hide hvl
  obtain ⟨ap, cp, rfl, hp1, hp2, -⟩ := ho
  obtain ⟨i0, hi0, hz0, hz1, hz2⟩ := info_parts info4
  clear h hAs hL hvl
  by_cases hn : os.length = L.length
  · have HN := hide hn
    rw [hn] at HO hp1 ⊢
    have tn : (L.length : Int) = (L.length : Int) := rfl
    clear tn hn
    go_enter Try.func13, Try.ntmps13
    go_wp2_with (at_make; refine wpList_make_full _ rfl _ _ 47 rfl w.heap.size 4 i0 (.bool false) 1 Try.underlying47 hi0 hz0 hz1 .i64 .i64 _ _ L.length rfl rfl ?c1 ?c2 ?c3 ?c4 ?c5 ?_)
    case c1 => rfl
    case c2 => rfl
    case c3 => have := HL.out; rw [hz2]; omega
    case c4 => have := HL.out; unfold maxLen; omega
    case c5 => omega
    intro w1 hown hgrow
    rw [toList_madeCells_one] at hown
    have hb1 : Below w.heap.size w w1 := (Below.refl _ w).grown hgrow (Nat.le_refl _) (fun k e => by cases e)
    have JM := hide (nomarks_any w1)
    have HOW := hide hown
    have HB1 := hide hb1
    clear hown hgrow hb1 c0
    go_wp2_with fail
    refine JM.out.mono ?_
    rintro e w2 ⟨g1, g2, rfl, hM, hg1, hg2, hb2⟩
    have S0 : Hid (Lw w w.heap.size w2.heap.size g1 g2 L (os.take 0) (w2.alloc (.cells #[.map (some g1), .map (some g2)] 69))) := by
      have b3 := below_alloc w2 (.cells #[.map (some g1), .map (some g2)] 69)
      rw [List.take_zero]
      refine ⟨⟨List.replicate L.length false, by simp, fun k hk => by simp, ?_⟩, ?_, heap_alloc_new w2 _, LgP.nil L, below_on (below_on HB1.out hb2) b3, Nat.le_refl _, Nat.le_trans HB1.out.size hb2.size, Nat.le_trans HB1.out.size hg1, Nat.le_trans HB1.out.size hg2⟩
      · have := own_later HOW.out (below_on hb2 b3)
        simpa [bc] using this
      · simpa [mko] using hM.later b3
    clear JM HOW HB1 hM hg1 hg2 hb2
    go_wp2_with fail
    generalize w2.alloc (.cells #[.map (some g1), .map (some g2)] 69) = w3 at *
    generalize w2.heap.size = ga at *
    obtain ⟨gb, hgb⟩ : ∃ X, X = w.heap.size := ⟨_, rfl⟩
    rw [← hgb]
    have S0 : Hid (Lw w gb ga g1 g2 L (os.take 0) w3) := by rw [hgb]; exact S0.out
    clear hgb
    go_loopw [27] (fun v27 W => ∃ i : Nat, i ≤ L.length ∧ v27 = .int .i64 (i : Int) ∧ Hid (Lw w gb ga g1 g2 L (os.take i) W)) (fun v27 _ => L.length - (intOf v27).toNat)
    case atStart => exact ⟨0, Nat.zero_le _, rfl, S0.out⟩
    case round =>
      obtain ⟨i, hi, rfl, HW⟩ := hrel
      clear S0
      by_cases hlt : i < L.length
      · have t1 : (i : Int) < (L.length : Int) := by omega
        have hio : i < os.length := by have := HN.out; omega
        obtain ⟨-, -, -, hPi, hbw, -⟩ := HW.out
        obtain ⟨ap', cp', ep, -, -, hpc⟩ := HO.out.later hbw
        simp only [Value.slice.injEq] at ep
        obtain ⟨rfl, -, rfl⟩ := ep
        obtain ⟨gp, op, rfl, hpcell⟩ := hpc (by omega)
        have e2 := hpcell i hio
        have JH := hide (has_any (HPL.out wr hbw) os[i])
        have HTK : Hid (os.take (i + 1) = os.take i ++ [os[i]]) := List.take_succ_eq_append_getElem hio
        obtain ⟨z, hz⟩ : ∃ z, z = os[i] := ⟨_, rfl⟩
        rw [← hz] at e2 JH HTK
        have HPI := hide hPi
        have HBW := hide hbw
        clear hpcell hpc hPi hbw hz
        by_cases hr : 0 ≤ z ∧ z < (L.length : Int)
        · rw [decide_eq_true hr] at JH
          obtain ⟨k, rfl⟩ : ∃ k : Nat, z = (k : Int) := ⟨z.toNat, by omega⟩
          have hk : k < L.length := by omega
          have tk : (k : Int) < (L.length : Int) := hr.2
          obtain ⟨⟨bl, hbl, hbm, hbr⟩, -⟩ := HW.out
          have e3 := hbr.cellAt k (by omega)
          rw [bc_at bl k (by omega)] at e3
          have hbk := hbm k (by omega)
          have hfz := hbr.frozenAt k
          cases hbv : bl[k]'(by omega) with
          | true =>
            rw [hbv] at e3 hbk
            have HBD : Hid (¬ Lg L os) := fun hg => by
              have := hg.pre (i + 1)
              rw [HTK.out, LgP.add] at this
              exact (this.2.2 _ (hbk.1 rfl)).1 rfl
            clear hbk hbv hbm hbr hbl hr
            go_wp2_with fail
            refine JH.out.mono ?_
            rintro e w4 ⟨rfl, rfl⟩
            go_wp2_with fail
            go_ret
            exact LgOut.no HBD.out HBW.out
          | false =>
            rw [hbv] at e3 hbk
            have hnk : (k : Int) ∉ os.take i := fun h => by have := hbk.2 h; cases this
            obtain ⟨⟨bl2, n1, n2, n3⟩, n4, n5, n6⟩ := HW.out.been k hk
            have hAV := HAS.out.later n6
            have hvk : k < vs.length := by have := HVL.out; omega
            obtain ⟨gv, cv', e0, -⟩ := own_form hAV.1 (by omega)
            simp only [Value.slice.injEq] at e0
            obtain ⟨rfl, -, rfl⟩ := e0
            obtain ⟨p1, p2⟩ := hAV.at k hvk
            have hAk := hAV.2.2 k hvk hk
            generalize vs[k] = vk at *
            obtain ⟨vk1, vk2⟩ := vk
            dsimp only at p1 p2 hAk
            have hLk : L.getD k default = L[k] := by rw [List.getD_eq_getElem?_getD, List.getElem?_eq_getElem hk]; rfl
            rw [← hLk] at hAk
            have HGR := hide (mko_grt HPI.out hk hnk)
            have HGL := hide (mko_le HPI.out)
            obtain ⟨s, hs⟩ : ∃ s, s = L.getD k default := ⟨_, rfl⟩
            rw [← hs] at hAk HGR
            have HSE := hide hs
            obtain ⟨x1, y1, rfl⟩ := own_len hAk.1
            obtain ⟨x2, y2, rfl⟩ := own_len hAk.2.1
            obtain ⟨V, hV⟩ : ∃ X, X = wr.setCell ⟨gb, k, none⟩ (.bool true) := ⟨_, rfl⟩
            rw [← hV] at p1 p2 hAk n3 n4 n5 n6
            have hAk0 : Ac V 0 (.slice x1 s.1.length y1) (.slice x2 s.2.length y2) s := ⟨own_lower hAk.1 (Nat.zero_le _), own_lower hAk.2.1 (Nat.zero_le _), hAk.2.2⟩
            have SSV : Hid (∀ X, Below V.heap.size V X → (X.cell? ⟨ga, 0, none⟩ = some (.map (some g1)) ∧ X.cell? ⟨ga, 1, none⟩ = some (.map (some g2))) ∧ X.cell? ⟨g, 0, none⟩ = some (.slice (some ⟨gv, 0, none⟩) L.length ca) ∧ X.cell? ⟨gv, k * 2, none⟩ = some (.slice x1 s.1.length y1) ∧ X.cell? ⟨gv, k * 2 + 1, none⟩ = some (.slice x2 s.2.length y2)) := fun X hX => by
              have hc := (hX.block ga (lt_of_block n5)).trans n5
              refine ⟨⟨?_, ?_⟩, HC.out X (below_on n6 hX), (World.cell?_of_block (hX.block gv (World.block_lt_of_cell? V _ p1))).trans p1, (World.cell?_of_block (hX.block gv (World.block_lt_of_cell? V _ p2))).trans p2⟩
              · rw [cell_of_row X _ _ _ 69 (0, 0) hc]; rfl
              · rw [cell_of_row X _ _ _ 69 (0, 0) hc]; rfl
            have SS := hide (SSV.out V (Below.refl _ _))
            have HMM : Hid (∀ X, Below V.heap.size V X → Mm X g1 g2 ((os.take i).length * 2000) (mko L (os.take i))) := fun X hX => n4.later hX
            have JS : Hid (∀ X, Below V.heap.size V X → Calls Try.prog 36 #[.agg #[.map (some g1), .map (some g2)], .agg #[.slice x1 s.1.length y1, .slice x2 s.2.length y2], .int .i64 ((k + 1 : Nat) : Int)] X fun e w' => ∃ r : Nat, e = .returned (.int .i64 (r : Int)) ∧ r ≤ grt (mko L (os.take i)) s ∧ (r = grt (mko L (os.take i)) s ∨ k + 1 ≤ r) ∧ Below X.heap.size X w') := fun X hX => search_any (n4.later hX) (hAk0.later hX) (k + 1) (fun x hx => Nat.le_trans (HGL.out x hx) (by have := HL.out; omega))
            have hlen : (os.take i).length = i := by rw [List.length_take]; omega
            have JL : Hid (∀ X, Below V.heap.size V X → Calls Try.prog 37 #[.agg #[.map (some g1), .map (some g2)], .agg #[.slice x1 s.1.length y1, .slice x2 s.2.length y2], .int .i64 ((k + 1 : Nat) : Int)] X fun e w' => e = .returned (.tuple #[]) ∧ Mm w' g1 g2 ((os.take i).length * 2000 + s.1.length + s.2.length) (mko L (os.take i) ++ [(s, k + 1)]) ∧ Mv X w' (fun q => q = g1 ∨ q = g2)) := fun X hX => leave_any (n4.later hX) (hAk0.later hX) (k + 1) (by have := HL.out; omega) (fun x hx => Nat.le_trans (HGL.out x hx) (by have := HL.out; omega)) (by rw [hlen]; have := HL.out; omega)
            simp only [Int.natCast_succ] at JS JL
            have HLS : Hid (s.1.length ≤ 1000 ∧ s.2.length ≤ 1000) := hAk.2.2.2.2
            have HQ : Hid (w.heap.size ≤ gb ∧ w.heap.size ≤ ga ∧ w.heap.size ≤ g1 ∧ w.heap.size ≤ g2) := HW.out.2.2.2.2.2
            have FIN : Hid (∀ X W', Below V.heap.size V X → LgP L (os.take i ++ [(k : Int)]) → Mm W' g1 g2 ((os.take i).length * 2000 + s.1.length + s.2.length) (mko L (os.take i) ++ [(s, k + 1)]) → Mv X W' (fun q => q = g1 ∨ q = g2) → Lw w gb ga g1 g2 L (os.take (i + 1)) W') := fun X W' hX hP hM' hm' => by
              rw [HTK.out]
              rw [HSE.out] at hM' 
              exact Lw.next hP n1 n2 (own_later n3 hX) (n4.later hX) ((hX.block ga (lt_of_block n5)).trans n5) (below_on n6 hX) HQ.out hM' (by have := HLS.out; rw [HSE.out] at this; omega) hm'
            have HN6 := hide n6
            have hga : ga < V.heap.size := lt_of_block n5
            clear hAk hAk0 n1 n2 n3 n4 n5 n6 p1 p2 hAV hbk hbv hbm hbr hbl hr hlen hLk hs
            go_wp2_with fail
            refine JH.out.mono ?_
            rintro e w4 ⟨rfl, rfl⟩
            go_wp2_with fail
            rw [← hV]
            clear hV
            have hs3 := SS.out
            go_region_held3 (fun X => (X.cell? ⟨ga, 0, none⟩ = some (.map (some g1)) ∧ X.cell? ⟨ga, 1, none⟩ = some (.map (some g2))) ∧ X.cell? ⟨g, 0, none⟩ = some (.slice (some ⟨gv, 0, none⟩) L.length ca) ∧ X.cell? ⟨gv, k * 2, none⟩ = some (.slice x1 s.1.length y1) ∧ X.cell? ⟨gv, k * 2 + 1, none⟩ = some (.slice x2 s.2.length y2)) (first | exact SS.out | exact S5) ((go_at_call 36; refine (JS.out _ (below_drew V)).mono ?_; rintro e w5 ⟨r, rfl, hr1, hr2, b5⟩; have B5 := hide (below_on (below_drew V) b5); have S5 := SSV.out w5 B5.out; have HR := hide (And.intro hr1 hr2); clear hr1 hr2 b5))
            by_cases hge : (r : Int) ≥ (k : Int) + 1
            · have HBD : Hid (¬ Lg L os) := fun hg => by
                have h1 := hg.pre (i + 1)
                rw [HTK.out, LgP.add] at h1
                have h2 := HGR.out.2 h1.2.2
                have := HR.out.1
                omega
              go_wp2_with fail
              go_ret
              exact LgOut.no HBD.out (below_on HN6.out B5.out)
            · have HOK : Hid (LgP L (os.take i ++ [(k : Int)])) := by
                refine LgP.add.2 ⟨HPI.out, ⟨by omega, tk⟩, HGR.out.1 ?_⟩
                have := HR.out.2
                omega
              have S5' := hide S5
              clear S5 hs3 SS
              obtain ⟨⟨j1, j2⟩, j3, j4, j5⟩ := S5'.out
              go_wp2_with fail
              have hS6 := S5'.out
              go_region_held3 (fun X => (X.cell? ⟨ga, 0, none⟩ = some (.map (some g1)) ∧ X.cell? ⟨ga, 1, none⟩ = some (.map (some g2))) ∧ X.cell? ⟨g, 0, none⟩ = some (.slice (some ⟨gv, 0, none⟩) L.length ca) ∧ X.cell? ⟨gv, k * 2, none⟩ = some (.slice x1 s.1.length y1) ∧ X.cell? ⟨gv, k * 2 + 1, none⟩ = some (.slice x2 s.2.length y2)) (first | exact S5'.out | exact S7) ((go_at_call 37; refine (JL.out _ (below_on B5.out (below_drew w5))).mono ?_; rintro e w7 ⟨rfl, hM7, hm7⟩; have hMX := HMM.out _ (below_on B5.out (below_drew w5)); have nmm : ∀ b q x, w5.drew.cell? ⟨b, q, none⟩ = some x → w7.cell? ⟨b, q, none⟩ = some x := fun b q x hx => hm7.cell hx (fun e => e.elim (cell_nomap hx hMX.2.1) (cell_nomap hx hMX.2.2)); have S7 := And.intro (And.intro (nmm _ _ _ S5'.out.1.1) (nmm _ _ _ S5'.out.1.2)) (And.intro (nmm _ _ _ S5'.out.2.1) (And.intro (nmm _ _ _ S5'.out.2.2.1) (nmm _ _ _ S5'.out.2.2.2))); have HF := hide (FIN.out _ w7 (below_on B5.out (below_drew w5)) HOK.out hM7 hm7); clear hM7 hm7 hMX nmm))
              go_wp2_with fail
              go_roundw
              case rel => exact ⟨i + 1, by omega, rfl, HF.out⟩
              case measure => simp only [intOf]; omega
        · rw [decide_eq_false hr] at JH
          have HBD : Hid (¬ Lg L os) := fun hg => by
            have := hg.pre (i + 1)
            rw [HTK.out, LgP.add] at this
            exact hr this.2.1
          clear hr
          go_wp2_with fail
          refine JH.out.mono ?_
          rintro e w4 ⟨rfl, rfl⟩
          go_wp2_with fail
          go_ret
          exact LgOut.no HBD.out HBW.out
      · have t1 : ¬ (i : Int) < (L.length : Int) := by omega
        obtain rfl : i = L.length := by omega
        obtain ⟨-, -, -, hPi, hbw, -⟩ := HW.out
        rw [← HN.out, List.take_length] at hPi
        have HPI := hide hPi
        have HBW := hide hbw
        clear hPi hbw
        go_wp2_with fail
        go_ret
        exact LgOut.yes (Lg.of HN.out HPI.out) HBW.out
  · have tn : ¬ (os.length : Int) = (L.length : Int) := by omega
    have HN := hide hn
    clear hn
    go_enter Try.func13, Try.ntmps13
    go_wp2_with fail
    go_ret
    exact LgOut.no (fun h => HN.out h.1) (Below.refl _ _)
end Go.Proofs.Ythgjdmomcpcolaa
