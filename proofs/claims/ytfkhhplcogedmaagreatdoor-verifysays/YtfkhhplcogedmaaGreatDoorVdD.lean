/-
  Verify: the document's reached.
-/
import Derived.Test.YtfkhhplcogedmaaGreatDoorMgR
import Derived.Test.YtfkhhplcogedmaaGreatDoorRfB
import Derived.Test.YtfkhhplcogedmaaGreatDoorMgU
namespace Go.Proofs.YtfkhhplcogedmaaGreatDoor
open Go.RowKit
set_option maxRecDepth 100000
theorem run_sliceQ (w : World) (g o n c : Nat) (hc : n + 1 ≤ c) : (Instr.slice 157 (.slice (some ⟨g, o, none⟩) (n + 1) c) (some (.int .i64 1)) none none).run Tryz.prog w = .ok (.slice (if c = 1 then some ⟨g, o, none⟩ else some ⟨g, o + 2, none⟩) n (c - 1)) w := by
  obtain ⟨i0, hi, hz0, hz1, hz2⟩ := info_parts info2i
  have hb : (Instr.sliceBounds true (n + 1) c (some (.int .i64 1)) none none).run Tryz.prog w = .ok (1, n + 1, c) w := by
    have := run_sliceBound (P := Tryz.prog) w .i64 1 (n + 1) .sliceB (by omega) (by omega)
    simp [Instr.sliceBounds, this]
  simp only [Instr.slice, Sem.run_bind, run_underlying Tryz.underlying157, Result.andThen_ok, hb, Go.sizeOf, typeInfo, Sem.run_pure]
  by_cases e : c = 1
  · subst e
    simp [hi, hz1]
  · simp [hi, hz1, e, Addr.add_lit]
theorem sliceQ {w : World} {ops : Array Oper} {rest : List Oper} {o : Oper} {a : Act} {Q : Exit → Act → World → Prop} (hgd : o.guard = none) (x : Operand)
    (ho : o.op = .slice 157 x (some (.const (.int .i64 1))) none none)
    (B : Nat) (v : Value) (m : Nat × Nat) (l : List (Nat × Nat)) (hx : a.eval x = v) (hq : Qr w B v (m :: l))
    (h : ∀ v', Qr w B v' l → wpList Tryz.prog ops Q rest (a.put o.dst v') w) :
    wpList Tryz.prog ops Q (o :: rest) a w := by
  refine wpList_plain hgd fun K hK => ?_
  obtain ⟨g, o', c, cs, e, hh⟩ := id hq
  subst e
  rw [List.length_cons] at hx hq hh
  have hr := run_sliceQ w g o' l.length c hh.2.2.1
  have hr2 : (Instr.sliceAt 157 (.slice (some ⟨g, o', none⟩) (l.length + 1) c) (some (.int .i64 1)) none none).run Tryz.prog w = .ok (.slice (if c = 1 then some ⟨g, o', none⟩ else some ⟨g, o' + 2, none⟩) l.length (c - 1)) w := (run_sliceAt_slice (P := Tryz.prog) w _ _ _ _ _ Tryz.underlying157).trans hr
  unfold Oper.wp execOp
  simp only [ho, hx, Option.map, Sem.run_bind, Sem.run_pure]
  rw [show a.eval (.const (.int .i64 1)) = .int .i64 1 from rfl, hr2]
  simp only [Result.andThen_ok]
  refine hK _ _ (h _ ?_)
  by_cases e : c = 1
  · subst e
    rw [if_pos rfl]
    obtain ⟨rfl, -, h3⟩ := hq.pop1 (o' := o')
    exact h3
  · obtain ⟨k, rfl⟩ : ∃ k, c = k + 1 := ⟨c - 1, by have := hh.2.2.1; omega⟩
    rw [if_neg e]
    exact hq.pop
theorem info65 : (Tryz.prog.info? 129).map (fun i => (i.zero, i.size, i.bytes)) = some (some (.agg (Array.replicate 65 (.bool false))), 65, 65) := by kernel_rfl
theorem made65 (n p d : Nat) (hp : p < n) (hd : d < 65) : (madeCells (Value.agg (Array.replicate 65 (.bool false))).cells (n * 65))[p * 65 + d]? = some (.bool false) := by
  have h1 : p * 65 + d < n * 65 := by have := Nat.mul_le_mul_right 65 (show p + 1 ≤ n by omega); omega
  have hz : (Value.agg (Array.replicate 65 (.bool false))).cells = Array.replicate 65 (.bool false) := rfl
  rw [hz]
  unfold madeCells
  have h2 : (p * 65 + d) % 65 < 65 := Nat.mod_lt _ (by omega)
  rw [Array.getElem?_map, Array.getElem?_range, if_pos h1, Option.map_some, getElem!_pos _ _ (by simpa using h2), Array.getElem_replicate]
theorem tm_made {w w1 : World} {n : Nat} (h : w1.heap[w.heap.size]? = some (.cells (madeCells (Value.agg (Array.replicate 65 (.bool false))).cells (n * 65)) 129 (0, 0))) : Tm w1 w.heap.size n (fun _ _ => false) := ⟨_, h, size_madeCells _ _, fun p d hp hd => made65 n p d hp hd⟩
theorem tz0_eq : putT (fun _ _ => false) 0 0 = Tz0 := by
  funext p d
  simp [putT, Tz0]
/-- What the document's search holds in memory. -/
structure Du (w : World) (g n : Nat) (fs : List Rt) (c : List Ins) (T : Nat → Nat → Bool) (op : List (Nat × Nat)) (v : Value) (W : World) : Prop where
  dk : Dke fs c T op
  tm : Tm W g n T
  q : Qr W w.heap.size v op
  b : Below w.heap.size w W
  m : dkM c T op ≤ 300000
/-- Numbers of one's own, in a block of their kind. -/
def LR (W : World) (v : Value) (L : List Int) : Prop := ∃ a c, v = .slice a L.length c ∧ L.length ≤ c ∧ c ≤ 9223372036854775807 ∧ (0 < L.length → ∃ g cs, a = some ⟨g, 0, none⟩ ∧ W.heap[g]? = some (.cells cs 3 (0, 0)) ∧ ∀ j (h : j < L.length), cs[j]? = some (.int .i64 L[j]))
theorem own_LR {W : World} {B : Nat} {v : Value} {L : List Int} (h : W.ownsRow B 3 1 v L.length (zq L)) : LR W v L := by
  obtain ⟨a, c, rfl⟩ := own_len h
  obtain ⟨h1, h2⟩ := own_cap h
  refine ⟨a, c, rfl, h1, h2, fun h0 => ?_⟩
  obtain ⟨g, c', e, -, -⟩ := own_form h h0
  simp only [Value.slice.injEq, true_and] at e
  obtain ⟨rfl, rfl⟩ := e
  obtain ⟨cs, hg⟩ := own_blk2 h (g := g) rfl
  refine ⟨g, cs, rfl, hg, fun j hj => ?_⟩
  have := h.cellAt j (by omega)
  rw [cell_of_row W _ _ _ 3 (0, 0) hg] at this
  rw [this]
  simp [zq, hj]
theorem LR.kind {W W' : World} {v : Value} {L : List Int} (h : LR W v L) (hk : ∀ (g : Nat) (cs : Array Value), W.heap[g]? = some (Obj.cells cs 3 (0, 0)) → W'.heap[g]? = some (Obj.cells cs 3 (0, 0))) : LR W' v L := by
  obtain ⟨a, c, h1, h2, h3, h4⟩ := h
  refine ⟨a, c, h1, h2, h3, fun h0 => ?_⟩
  obtain ⟨g, cs, k1, k2, k3⟩ := h4 h0
  exact ⟨g, cs, k1, hk g cs k2, k3⟩
theorem LR.later {W W' : World} {v : Value} {L : List Int} (h : LR W v L) (hb : Below W.heap.size W W') : LR W' v L := h.kind (fun g _ hg => (hb.block g (lt_of_block hg)).trans hg)
theorem LR.at {W : World} {v : Value} {L : List Int} (h : LR W v L) {j : Nat} (hj : j < L.length) : ∃ g c, v = .slice (some ⟨g, 0, none⟩) L.length c ∧ L.length ≤ c ∧ c ≤ 9223372036854775807 ∧ W.cell? ⟨g, j, none⟩ = some (.int .i64 L[j]) ∧ ∃ cs, W.heap[g]? = some (.cells cs 3 (0, 0)) := by
  obtain ⟨a, c, rfl, h2, h3, h4⟩ := h
  obtain ⟨g, cs, rfl, k2, k3⟩ := h4 (by omega)
  exact ⟨g, c, rfl, h2, h3, by rw [cell_of_row W _ _ _ 3 (0, 0) k2]; exact k3 j hj, cs, k2⟩
theorem LR.len {W : World} {v : Value} {L : List Int} (h : LR W v L) : ∃ a c, v = .slice a L.length c := by
  obtain ⟨a, c, h1, -⟩ := h
  exact ⟨a, c, h1⟩
theorem setCell_kind (W : World) (g k : Nat) (u : Value) {cs ds : Array Value} {t t' g' : Nat} (h : W.heap[g]? = some (.cells ds t' (0, 0))) (hg : W.heap[g']? = some (.cells cs t (0, 0))) (ht : t ≠ t') : (W.setCell ⟨g, k, none⟩ u).heap[g']? = some (.cells cs t (0, 0)) := by
  refine (mv_set W g k u).at hg (fun e => ?_)
  subst e
  rw [h] at hg
  injection hg with hg
  injection hg with h1 h2
  exact ht h2.symm
theorem Qr.kind {W W' : World} {B : Nat} {v : Value} {l : List (Nat × Nat)} (h : Qr W B v l) (hk : ∀ (g : Nat) (cs : Array Value), W.heap[g]? = some (Obj.cells cs 156 (0, 0)) → W'.heap[g]? = some (Obj.cells cs 156 (0, 0))) : Qr W' B v l := by
  obtain ⟨g, o, c, cs, h1, h2, h3, h4⟩ := h
  exact ⟨g, o, c, cs, h1, h2, hk g cs h3, h4⟩
structure Dv (w : World) (g n : Nat) (fs : List Rt) (c : List Ins) (T : Nat → Nat → Bool) (op : List (Nat × Nat)) (p d b k : Nat) (v v12 : Value) (W : World) : Prop where
  dk : Dje fs c T op p d b ((nextD c p).drop k)
  lr : LR W v12 (nextD c p)
  tm : Tm W g n T
  q : Qr W w.heap.size v op
  b : Below w.heap.size w W
  m : dkM c T op ≤ 300000
set_option maxHeartbeats 8000000 in
theorem dreached_any {Q : Nat → Prop} {w : World} {vc vf : Value} {c : List Ins} {fs : List Rt} (h : Il Q w vc c) (hf : Rts Q w vf fs) (h0 : 0 < c.length) (hc : c.length ≤ 2000) : Calls Tryz.prog 61 #[vc, vf] w fun e w' => ∃ T, e = .returned (.slice (some ⟨w.heap.size, 0, none⟩) c.length c.length) ∧ Tm w' w.heap.size c.length T ∧ (∀ p d, T p d = true ↔ Rch fs c p d) ∧ Below w.heap.size w w' := by
  have JE : Hid (∀ W i, Below w.heap.size w W → Calls Tryz.prog 86 #[.agg #[.int .i64 (iat c i).op, .int .i64 (iat c i).a], vf] W fun e w' => e = .returned (.tuple #[.int .i64 (takE fs (iat c i)), .int .i64 (putE (iat c i))]) ∧ Below W.heap.size W w') := fun W i hW => deffect_any (hf.later hW) (iat c i)
  have JN : Hid (∀ W i, Below w.heap.size w W → i < c.length → Calls Tryz.prog 63 #[vc, .int .i64 ((i : Nat) : Int)] W fun e w' => ∃ v, e = .returned v ∧ w'.ownsRow W.heap.size 3 1 v (nextD c i).length (zq (nextD c i)) ∧ Below W.heap.size W w') := fun W i hW hi => dnext_any (h.later hW) i hi hc
  obtain ⟨g0, o0, co, rfl, hc1, hc2, -⟩ := il_open h 0 h0
  have HI : Hid (∀ W i, Below w.heap.size w W → i < c.length → W.cell? ⟨g0, o0 + i * 2, none⟩ = some (.int .i64 (iat c i).op) ∧ W.cell? ⟨g0, o0 + i * 2 + 1, none⟩ = some (.int .i64 (iat c i).a)) := fun W i hW hi => by
    obtain ⟨g1, o1, co1, e1, -, -, k1, k2, -⟩ := il_open (h.later hW) i hi
    injection e1 with e1
    injection e1 with e1
    injection e1 with e1 e2
    subst e1 e2
    exact ⟨k1, k2⟩
  obtain ⟨af, cf, rfl, -, -, -⟩ := hf
  have HC0 := hide h0
  have HC2 := hide hc
  obtain ⟨nc, hnc⟩ : ∃ n, n = c.length := ⟨_, rfl⟩
  obtain ⟨nf, hnf⟩ : ∃ n, n = fs.length := ⟨_, rfl⟩
  have HNC := hide hnc
  rw [← hnf] at JE ⊢
  rw [← hnc] at JN
  rw [← hnc] at HI h0 hc hc1 ⊢
  obtain ⟨B, hB⟩ : ∃ B, B = w.heap.size := ⟨_, rfl⟩
  have HB := hide hB
  obtain ⟨i65, hi65, hz0, hz1, hz2⟩ := info_parts info65
  clear h hnc hnf
  go_enter Tryz.func61, Tryz.ntmps61
  go_wp2_with (refine wpList_make_cap _ rfl _ _ 127 rfl 129 i65 _ Tryz.underlying127 hi65 hz0 .i64 .i64 _ _ nc nc rfl rfl rfl rfl (Nat.le_refl _) ?b2 ?b3 ?_)
  case b2 => rw [hz2]; omega
  case b3 => unfold maxLen; omega
  intro w1 hm1 hg1
  have B1 : Hid (Below w.heap.size w w1) := Below.grown (Below.refl _ _) hg1 (Nat.le_refl _) (fun k e => by cases e)
  have TM1 : Hid (Tm w1 w.heap.size nc (fun _ _ => false)) := tm_made hm1.out
  have TM2 := hide (TM1.out.put (p := 0) (d := 0) h0 (by omega))
  rw [tz0_eq] at TM2
  obtain ⟨x0, x1⟩ := TM1.out.at (p := 0) (d := 0) h0 (by omega)
  rw [← hB] at x0 x1 TM2 ⊢
  obtain ⟨w2, hw2⟩ : ∃ X, X = w1.setCell ⟨B, 0 * 65 + 0, none⟩ (.bool true) := ⟨_, rfl⟩
  rw [← hw2] at TM2
  have B2 : Hid (Below w.heap.size w w2) := by rw [hw2]; exact B1.out.setCell (by show _ ≤ B; have := HB.out; omega) _
  rw [show 0 * 65 + 0 = 0 from rfl] at x0 x1 hw2
  clear hm1 hg1 TM1 B1 hB
  have t0 : (0 : Int) < (nc : Int) := by omega
  go_upto_region 3 with fail
  rw [← hw2]
  clear hw2 x0 x1
  have S2 : Hid (Below w2.heap.size w2 (w2.alloc (.cells #[.int .i64 0, .int .i64 0] 156))) := below_alloc w2 _
  have DU0 : Hid (Du w B nc fs c Tz0 [(0, 0)] (.slice (some ⟨w2.heap.size, 0, none⟩) 1 1) (w2.alloc (.cells #[.int .i64 0, .int .i64 0] 156))) := by
    refine ⟨Dke.init, TM2.out.later S2.out, ⟨w2.heap.size, 0, 1, _, rfl, B2.out.size, heap_alloc_new w2 _, Nat.le_refl _, by unfold maxLen; omega, fun _ => rfl, fun j u hj => ?_⟩, below_on B2.out S2.out, ?_⟩
    · match j, hj with
      | 0, hj => exact hj
      | 1, hj => exact hj
    · have := dkM_le (c := c) Tz0 [(0, 0)]
      have := HC2.out
      simp at *
      omega
  go_wp2_with fail
  obtain ⟨W0, hW0⟩ : ∃ X, X = w2.alloc (.cells #[.int .i64 0, .int .i64 0] 156) := ⟨_, rfl⟩
  obtain ⟨q0, hq0⟩ : ∃ X, X = w2.heap.size := ⟨_, rfl⟩
  rw [← hW0, ← hq0] at DU0 ⊢
  clear hW0 hq0 S2 TM2 B2
  go_loopg [6] (dkM c Tz0 [(0, 0)]) (fun q v6 W => ∃ (T : Nat → Nat → Bool) (op : List (Nat × Nat)), q = dkM c T op ∧ Hid (Du w B nc fs c T op v6 W))
  case atStart => exact ⟨_, _, rfl, DU0⟩
  case round =>
    obtain ⟨T, op, rfl, HD⟩ := hrel
    clear DU0
    cases op with
    | nil =>
      obtain ⟨g, o, k, rfl, hk1, hk2, -⟩ := HD.out.q.form
      go_wp2_with fail
      go_ret
      have hBB := HB.out
      subst hBB
      exact ⟨T, rfl, HD.out.tm, fun p d => HD.out.dk.done, HD.out.b⟩
    | cons m t =>
      obtain ⟨p, d⟩ := m
      have hpd := (HD.out.dk.sound p d (HD.out.dk.osound (p, d) (by simp))).lt HC0.out
      obtain ⟨g, o, k, hv, hk1, hk2, -⟩ := HD.out.q.form
      rw [List.length_cons] at hv hk1
      subst hv
      obtain ⟨y0, y1⟩ := HD.out.q.head
      have QQ := hide HD.out.q
      obtain ⟨nt, hnt⟩ : ∃ x, x = t.length := ⟨_, rfl⟩
      have HNT := hide hnt
      have HPD := hide hpd
      have DN : Hid (Dke fs c T ((p, d) :: t)) := HD.out.dk
      have TM := hide HD.out.tm
      have BB := hide HD.out.b
      have MM := hide HD.out.m
      have hpn : p < nc := by have := HNC.out; have := hpd.1; omega
      have hpi : (p : Int) < (nc : Int) := by omega
      have hdi : (d : Int) ≤ 64 := by have := hpd.2; omega
      obtain ⟨z0, z1⟩ := HI.out wr p BB.out hpn
      have J1 := hide (JE.out wr p BB.out)
      have hn0 := takE_nn (fs := fs) (iat c p)
      have hpt : 0 ≤ putE (iat c p) ∧ putE (iat c p) ≤ 1 := by
        unfold putE
        have h40 := opk_lt (iat c p).op
        have hle : ∀ k, k < 40 → pts k ≤ 1 := by decide
        have := hle _ h40
        omega
      obtain ⟨tk, htk⟩ : ∃ t, t = takE fs (iat c p) := ⟨_, rfl⟩
      obtain ⟨pt, hpt'⟩ : ∃ t, t = putE (iat c p) := ⟨_, rfl⟩
      have HBE : Hid (behI fs c p d = if (d : Int) < tk then none else if (d : Int) - tk + pt ≤ 64 then some ((d : Int) - tk + pt).toNat else none) := by
        rw [htk, hpt']
        rfl
      rw [← htk, ← hpt'] at J1
      rw [← htk] at hn0
      rw [← hpt'] at hpt
      obtain ⟨oq, hoq⟩ : ∃ x, x = (iat c p).op := ⟨_, rfl⟩
      obtain ⟨av, hav⟩ : ∃ x, x = (iat c p).a := ⟨_, rfl⟩
      rw [← hoq] at z0 J1
      rw [← hav] at z1 J1
      rw [← hnt] at hk1 QQ ⊢
      have t1 : (1 : Int) ≤ (nt : Int) + 1 := by omega
      have t2 : (0 : Int) < (nt : Int) + 1 := by omega
      clear htk hpt' hoq hav hnt hpd HD
      go_upto_region 7 with fail
      go_wp2_with (refine sliceQ rfl _ rfl w.heap.size _ (p, d) t rfl QQ.out ?_)
      intro v6 hq6
      have Q6 := hide hq6
      clear hq6 QQ y0 y1
      go_upto_region 8 with fail
      go_wp2_with fail
      refine J1.out.mono ?_
      rintro e w3 ⟨rfl, b3⟩
      have TM3 := hide (TM.out.later b3)
      have BB3 := hide (below_on BB.out b3)
      have Q63 := hide (Q6.out.later b3)
      clear TM BB Q6 J1 z0 z1 b3
      have MLT : Hid (dkM c T t < dkM c T ((p, d) :: t)) := by unfold Hid dkM; simp
      by_cases c1 : (d : Int) < tk
      · have HN : Hid (behI fs c p d = none) := HBE.out.trans (if_pos c1)
        have RN : Hid (Du w B nc fs c T t v6 w3) := ⟨DN.out.none HN.out, TM3.out, Q63.out, BB3.out, Nat.le_trans (Nat.le_of_lt MLT.out) MM.out⟩
        obtain ⟨g6, o6, k6, rfl, -⟩ := Q63.out.form
        clear DN TM3 Q63 BB3 HBE
        go_wp2_with fail
        go_roundg (dkM c T t)
        case measure => exact MLT.out
        case rel => exact ⟨T, t, rfl, RN⟩
      · have w1' : IntKind.i64.wrap ((d : Int) - tk) = (d : Int) - tk := by rw [IntKind.wrap_i64]; omega
        have w2' : IntKind.i64.wrap ((d : Int) - tk + pt) = (d : Int) - tk + pt := by rw [IntKind.wrap_i64]; omega
        obtain ⟨b, hb⟩ : ∃ q : Nat, (d : Int) - tk + pt = (q : Int) := ⟨((d : Int) - tk + pt).toNat, by omega⟩
        rw [if_neg c1, hb] at HBE
        rw [hb] at w2'
        by_cases c2 : (b : Int) ≤ 64
        · have HS : Hid (behI fs c p d = some b) := HBE.out.trans (by rw [if_pos c2, Int.toNat_natCast])
          have DJ := hide (DN.out.enter HS.out)
          have J2 := hide (JN.out w3 p BB3.out hpn)
          obtain ⟨g6, o6, k6, rfl, -⟩ := Q63.out.form
          clear HBE
          go_wp2_with fail
          refine J2.out.mono ?_
          rintro e w4 ⟨v12, rfl, ho4, b4⟩
          have DV0 : Hid (Dv w B nc fs c T t p d b 0 (.slice (some ⟨g6, o6, none⟩) t.length k6) v12 w4) := ⟨by rw [List.drop_zero]; exact DJ.out, own_LR ho4, TM3.out.later b4, Q63.out.later b4, below_on BB3.out b4, Nat.le_trans (Nat.le_of_lt MLT.out) MM.out⟩
          obtain ⟨a12, c12, hv12⟩ := own_len ho4
          have hL2 := nextD_len c p
          have HND : Hid (∀ x ∈ nextD c p, 0 ≤ x ∧ x ≤ 5000) := fun x hx => by have := nextD_nn x hx; have := HNC.out; omega
          obtain ⟨L, hL⟩ : ∃ L, L = nextD c p := ⟨_, rfl⟩
          have HL := hide hL
          rw [← hL] at hv12 hL2 HND
          obtain ⟨nl, hnl⟩ : ∃ x, x = L.length := ⟨_, rfl⟩
          have HNL := hide hnl
          rw [← hnl] at hv12 hL2
          subst hv12
          clear ho4 b4 J2 DJ TM3 Q63 BB3 w1' w2' hb c1 hL hnl
          go_wp2_with fail
          go_loopw [6, 13] (fun v6 v13 W => ∃ (T' : Nat → Nat → Bool) (op' : List (Nat × Nat)) (k : Nat), k ≤ nl ∧ v13 = .int .i64 (k : Int) ∧ Hid (dkM c T' op' ≤ dkM c T t) ∧ Hid (Dv w B nc fs c T' op' p d b k v6 (.slice a12 nl c12) W)) (fun _ v13 _ => nl - (intOf v13).toNat)
          case atStart => exact ⟨T, t, 0, Nat.zero_le _, rfl, Nat.le_refl _, DV0⟩
          case round =>
            rename_i wr0 hrel0
            obtain ⟨T', op', k, hk, rfl, HM', HV⟩ := hrel
            clear DV0
            obtain ⟨g7, o7, k7, rfl, -⟩ := HV.out.q.form
            by_cases hlt : k < nl
            · have hki : (k : Int) < (nl : Int) := by omega
              have hkL : k < L.length := by have := HNL.out; omega
              have hLR := HV.out.lr
              rw [← HL.out] at hLR
              obtain ⟨g12, cc12, e12, e1, e2, x0, -⟩ := hLR.at hkL
              rw [← HNL.out] at e12 e1
              injection e12 with e3 e4 e5
              subst e3 e5
              obtain ⟨hy0, hy1⟩ := HND.out _ (List.getElem_mem hkL)
              have HDR : Hid ((nextD c p).drop k = L[k] :: (nextD c p).drop (k + 1)) := by unfold Hid; rw [← HL.out]; exact List.drop_eq_getElem_cons hkL
              obtain ⟨y, hy⟩ : ∃ y : Nat, L[k] = (y : Int) := ⟨L[k].toNat, by omega⟩
              rw [hy] at x0 HDR hy1
              clear hy hy0 hLR
              by_cases cy : (y : Int) < (nc : Int)
              · have hyn : y < nc := by omega
                have hb65 : b < 65 := by omega
                obtain ⟨f0, f1⟩ := HV.out.tm.at (p := y) (d := b) hyn hb65
                have hbi : (b : Int) < 65 := by omega
                cases hT : T' y b with
                | true =>
                  rw [hT] at f0
                  have DJ2 := HV.out.dk
                  rw [HDR.out] at DJ2
                  have RN : Hid (Dv w B nc fs c T' op' p d b (k + 1) (.slice (some ⟨g7, o7, none⟩) op'.length k7) (.slice (some ⟨g12, 0, none⟩) nl c12) wr) := ⟨DJ2.skip (.inr (by simpa using hT)), HV.out.lr, HV.out.tm, HV.out.q, HV.out.b, HV.out.m⟩
                  clear DJ2 HV
                  go_wp2_with fail
                  go_roundw
                  case rel => exact ⟨T', op', k + 1, by omega, by go_num, HM', RN⟩
                  case measure => simp [intOf]; omega
                | false =>
                  rw [hT] at f0
                  obtain ⟨ds, hds, -⟩ := id HV.out.tm
                  obtain ⟨W5, hW5⟩ : ∃ X, X = wr.setCell ⟨B, y * 65 + b, none⟩ (.bool true) := ⟨_, rfl⟩
                  have hk5 : ∀ {t' : Nat} (g : Nat) (cs : Array Value), t' ≠ 129 → wr.heap[g]? = some (Obj.cells cs t' (0, 0)) → W5.heap[g]? = some (Obj.cells cs t' (0, 0)) := fun g cs ht hg => by rw [hW5]; exact setCell_kind wr B _ _ hds hg ht
                  have TM5 : Hid (Tm W5 B nc (putT T' y b)) := by rw [hW5]; exact HV.out.tm.put hyn hb65
                  have Q5 := hide (HV.out.q.kind (W' := W5) (fun g cs h => hk5 g cs (by decide) h))
                  have L5 := hide (HV.out.lr.kind (W' := W5) (fun g cs h => hk5 g cs (by decide) h))
                  have B5 : Hid (Below w.heap.size w W5) := by rw [hW5]; exact HV.out.b.setCell (by show _ ≤ B; have := HB.out; omega) _
                  have x5 : W5.cell? ⟨g12, k, none⟩ = some (.int .i64 (y : Int)) := by
                    obtain ⟨ga, ca, ea, -, -, -, cs', hcs'⟩ := (HL.out ▸ HV.out.lr : LR wr _ L).at hkL
                    injection ea with ea
                    injection ea with ea
                    injection ea with ea
                    subst ea
                    have hq := hk5 g12 cs' (by decide) hcs'
                    rw [cell_of_row W5 _ _ _ 3 (0, 0) hq, ← cell_of_row wr _ _ _ 3 (0, 0) hcs']
                    exact x0
                  have D5 : Hid (Dje fs c (putT T' y b) (op' ++ [(y, b)]) p d b ((nextD c p).drop (k + 1))) := by
                    have := HV.out.dk
                    rw [HDR.out] at this
                    have := this.put (by have := HNC.out; omega)
                    unfold Hid
                    simpa using this
                  have M5 : Hid (dkM c (putT T' y b) (op' ++ [(y, b)]) + 1 = dkM c T' op') := dkM_put (by have := HNC.out; omega) hb65 hT
                  have M6 : Hid (op'.length ≤ 1000000 ∧ dkM c T' op' ≤ 300000) := by have := HV.out.m; refine ⟨?_, this⟩; unfold dkM at this; omega
                  obtain ⟨no, hno⟩ : ∃ x, x = op'.length := ⟨_, rfl⟩
                  rw [← hno] at Q5 ⊢
                  clear hno
                  go_upto_region 17 with fail
                  rw [← hW5]
                  clear hW5 hk5 HV x0 f0 f1 hds
                  have BA : Hid (Below W5.heap.size W5 (W5.alloc (.cells #[.int .i64 (y : Int), .int .i64 (b : Int)] 156))) := below_alloc W5 _
                  go_wp2_with (at_builtin; refine appendQ rfl _ _ rfl w.heap.size _ op' rfl ?q1 ⟨W5.heap.size, 0, none⟩ 1 y b rfl ?q2 ?q3 ?q4 ?_)
                  case q1 => exact Q5.out.later BA.out
                  case q2 =>
                    intro j u hj
                    first | exact hj | simpa [mz] using hj
                  case q3 => exact M6.out.1
                  case q4 => have h1 := B5.out.size; have h2 := BA.out.size; omega
                  intro v6 w6 hq6 hg6
                  have QA := Q5.out.later BA.out
                  have RN : Hid (Dv w B nc fs c (putT T' y b) (op' ++ [(y, b)]) p d b (k + 1) v6 (.slice (some ⟨g12, 0, none⟩) nl c12) w6) := by
                    obtain ⟨ds, e1, e2⟩ := TM5.out.later BA.out
                    refine ⟨D5.out, (L5.out.later BA.out).kind (fun g cs h => grown_kind QA hg6 h (by decide)), ⟨ds, grown_kind QA hg6 e1 (by decide), e2⟩, hq6, ?_, by have h1 := M5.out; have h2 := M6.out.2; omega⟩
                    have bb := below_on B5.out BA.out
                    refine bb.grown hg6 bb.size (fun j e => ?_)
                    obtain ⟨ga, oa, ca, ea, -, -, ha, -⟩ := QA.form
                    rw [ea] at e
                    simp only [Value.ownBlock, Option.some.injEq] at e
                    omega
                  have M7 : Hid (dkM c (putT T' y b) (op' ++ [(y, b)]) ≤ dkM c T t) := by have h1 := M5.out; have h2 := HM'.out; unfold Hid; omega
                  obtain ⟨g9, o9, k9, rfl, -⟩ := hq6.form
                  clear hq6 hg6 QA BA B5 L5 Q5 TM5 D5 x5
                  go_wp2_with fail
                  go_roundw
                  case rel => exact ⟨_, _, k + 1, by omega, by go_num, M7, RN⟩
                  case measure => simp [intOf]; omega
              · have DJ2 := HV.out.dk
                rw [HDR.out] at DJ2
                have RN : Hid (Dv w B nc fs c T' op' p d b (k + 1) (.slice (some ⟨g7, o7, none⟩) op'.length k7) (.slice (some ⟨g12, 0, none⟩) nl c12) wr) := ⟨DJ2.skip (.inl (by have := HNC.out; omega)), HV.out.lr, HV.out.tm, HV.out.q, HV.out.b, HV.out.m⟩
                clear DJ2 HV
                go_wp2_with fail
                go_roundw
                case rel => exact ⟨T', op', k + 1, by omega, by go_num, HM', RN⟩
                case measure => simp [intOf]; omega
            · have hki : ¬ (k : Int) < (nl : Int) := by omega
              have hkn : k = nl := by omega
              have RN : Hid (Du w B nc fs c T' op' (.slice (some ⟨g7, o7, none⟩) op'.length k7) wr) := by
                have := HV.out.dk
                rw [hkn, HNL.out, HL.out, List.drop_length] at this
                exact ⟨this.leave, HV.out.tm, HV.out.q, HV.out.b, HV.out.m⟩
              have M8 : Hid (dkM c T' op' < dkM c T ((p, d) :: t)) := Nat.lt_of_le_of_lt HM'.out MLT.out
              clear HV hkn
              go_wp2_with fail
              go_roundg (dkM c T' op')
              case measure => exact M8.out
              case rel => exact ⟨T', op', rfl, RN⟩
        · have HN : Hid (behI fs c p d = none) := HBE.out.trans (if_neg c2)
          have RN : Hid (Du w B nc fs c T t v6 w3) := ⟨DN.out.none HN.out, TM3.out, Q63.out, BB3.out, Nat.le_trans (Nat.le_of_lt MLT.out) MM.out⟩
          obtain ⟨g6, o6, k6, rfl, -⟩ := Q63.out.form
          clear DN TM3 Q63 BB3 HBE
          go_wp2_with fail
          go_roundg (dkM c T t)
          case measure => exact MLT.out
          case rel => exact ⟨T, t, rfl, RN⟩
end Go.Proofs.YtfkhhplcogedmaaGreatDoor
