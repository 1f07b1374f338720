import Derived.Test.YtfkhhplcogedmaaGreatDoorMgD
import Derived.Test.YtfkhhplcogedmaaGreatDoorShelf
import Derived.Test.YtfkhhplcogedmaaGreatDoorMgF
import Derived.Test.YtfkhhplcogedmaaGreatDoorMgI
/-
  Verify: comesBack.
-/
namespace Go.Proofs.YtfkhhplcogedmaaGreatDoor
open Go.RowKit
set_option maxRecDepth 100000
/-- The ways that lists tell. -/
def Eg (ls : List (List Nat)) : Nat → List Nat := fun x => ls.getD x []
theorem Eg_at {ls : List (List Nat)} {x : Nat} (h : x < ls.length) : Eg ls x = ls[x] := by
  unfold Eg
  rw [List.getD_eq_getElem?_getD, List.getElem?_eq_getElem h]
  rfl
theorem clone_n {W : World} {v : Value} {l : List Nat} (h : Rn W v l) (hl : l.length ≤ 10000000) : Calls Tryz.prog 77 #[v] W fun e w' => ∃ v', e = .returned v' ∧ w'.ownsRow W.heap.size 3 1 v' l.length (nz l) ∧ Below W.heap.size W w' := by
  obtain ⟨ao, c, rfl, h2, h3, h4⟩ := h
  by_cases h0 : 0 < l.length
  · obtain ⟨g, o, rfl, hc⟩ := h4 h0
    refine (Tryz.slices_Clone_int g o l.length c (l.map fun y : Nat => (y : Int)) W (by simp) (by omega) (fun j hj => ?_)).mono ?_
    · have hj' : j < l.length := by simpa using hj
      rw [hc j hj', List.getD_eq_getElem?_getD]
      simp [hj']
    · rintro e w' ⟨v', rfl, h1, _, h2⟩
      refine ⟨v', rfl, ?_, h2⟩
      have : ((l.map fun y : Nat => (y : Int)).take l.length).map (Value.int .i64) = nz l := by
        rw [List.take_of_length_le (by simp), List.map_map]
        rfl
      rw [this] at h1
      exact h1
  · have hl0 : l.length = 0 := by omega
    obtain rfl := List.eq_nil_of_length_eq_zero hl0
    cases ao with
    | none =>
      refine (Tryz.slices_Clone_int_nil 0 c W).mono ?_
      rintro e w' ⟨rfl, rfl⟩
      exact ⟨_, rfl, World.ownsRow_nil _ _ _ _, Below.refl _ _⟩
    | some ad =>
      refine (Tryz.slices_Clone_int_zero ad c W).mono ?_
      rintro e w' ⟨v', rfl, h1, _, h2⟩
      exact ⟨v', rfl, h1, h2⟩
theorem appendR {w : World} {ops : Array Oper} {rest : List Oper} {o : Oper} {a : Act} {Q : Exit → Act → World → Prop} (hgd : o.guard = none) (s x : Operand)
    (ho : o.op = .call { callee := .builtin .append, args := #[s, x], argTypes := #[36, 36] })
    (base : Nat) (v : Value) (n : Nat) (xs : List Value) (hs : a.eval s = v) (hown : w.ownsRow base 3 1 v n xs) (vx : Value) (l : List Nat) (hx : a.eval x = vx) (hl : Rn w vx l) (hb : n + l.length ≤ 10000000000) (hbase : base ≤ w.heap.size)
    (h : ∀ v' w', w'.ownsRow base 3 1 v' (n + l.length) (xs ++ nz l) → w.grownBy w' v.ownBlock → wpList Tryz.prog ops Q rest (a.put o.dst v') w') :
    wpList Tryz.prog ops Q (o :: rest) a w := by
  refine wpList_plain hgd fun K hK => ?_
  obtain ⟨i0, hi, hz0, hz1, hz2⟩ := info_parts infoI2
  obtain ⟨ao, c, rfl, h1, h2, h3⟩ := hl
  have main : ∃ v' w', (Builtin.append_ #[36, 36] o.type #[v, .slice ao l.length c]).run Tryz.prog w = .ok v' w' ∧ w'.ownsRow base 3 1 v' (n + l.length) (xs ++ nz l) ∧ w.grownBy w' v.ownBlock := by
    cases ao with
    | none =>
      obtain rfl : l = [] := by
        cases l with
        | nil => rfl
        | cons y t =>
          obtain ⟨g, o, e, -⟩ := h3 (by simp)
          cases e
      refine ⟨v, w, ?_, by simpa [nz] using hown, World.grownBy.refl _ _⟩
      rcases hown.2 with ⟨rfl, rfl⟩ | ⟨g, cap, cur, rfl, _, _, hnc, _⟩
      · simp [Builtin.append_, run_underlying Tryz.underlying36, typeInfo, hi, Builtin.lenOf, Builtin.firstCells]
      · simp [Builtin.append_, run_underlying Tryz.underlying36, typeInfo, hi, Builtin.lenOf, Builtin.firstCells, hnc, storeCells]
    | some ad =>
      obtain ⟨v', w', hr, a2, a3, -, -⟩ := run_append_own_at (P := Tryz.prog) w base 36 o.type 3 i0 (.int .i64 0) 1 8 Tryz.underlying36 hi hz0 hz1 hz2 rfl (by decide) v n xs hown ad l.length c (nz l) (by rw [nz_len]; omega) (fun j u hj => by
        have hj2 : j < l.length := by
          have := (List.getElem?_eq_some_iff.1 hj).1
          rwa [nz_len] at this
        rw [nz_at l j hj2] at hj
        obtain ⟨g', o', e3, z4⟩ := h3 (by omega)
        obtain rfl := Option.some.inj e3
        rw [show (⟨g', o', none⟩ : Addr).add j = ⟨g', o' + j, none⟩ by simp [Addr.add], ← Option.some.inj hj]
        exact z4 j hj2) (fun u hu => by
        obtain ⟨y, _, rfl⟩ := List.mem_map.1 hu
        rfl) (by unfold maxLen; omega) (by omega) hbase
      exact ⟨v', w', hr, a2, a3⟩
  obtain ⟨v', w', hr, h2', h3'⟩ := main
  unfold Oper.wp execOp
  simp only [ho, resolve, invoke, builtin, Sem.run_bind, Sem.run_pure, Result.andThen_ok, List.map_toArray, List.map_cons, List.map_nil, hs, hx, hr]
  exact hK _ _ (h v' w' h2' h3')
end Go.Proofs.YtfkhhplcogedmaaGreatDoor

/-
  Verify: kinds that are read (as proved for World).
-/
namespace Go.Proofs.YtfkhhplcogedmaaGreatDoor
open Go.RowKit
set_option maxRecDepth 100000
abbrev Kind := ByteArray × List ByteArray
/-- Texts that are read. -/
def Sr (w : World) (v : Value) (l : List ByteArray) : Prop :=
  ∃ ao c, v = .slice ao l.length c ∧ l.length ≤ c ∧ c ≤ maxLen ∧ ∀ j (hj : j < l.length), ∃ g o, ao = some ⟨g, o, none⟩ ∧ w.cell? ⟨g, o + j, none⟩ = some (.string l[j])
/-- Kinds that are read. -/
def Kr (w : World) (v : Value) (ks : List Kind) : Prop :=
  ∃ ao c, v = .slice ao ks.length c ∧ ks.length ≤ c ∧ c ≤ maxLen ∧ ∀ i (hi : i < ks.length), ∃ g o vf, ao = some ⟨g, o, none⟩ ∧ w.cell? ⟨g, o + i * 2, none⟩ = some (.string ks[i].1) ∧ w.cell? ⟨g, o + i * 2 + 1, none⟩ = some vf ∧ Sr w vf ks[i].2
section
variable {w w' : World} {v : Value} {ks : List Kind} {l : List ByteArray}
theorem Sr.on (h : Sr w v l) (hc : ∀ (a : Addr) (x : Value), w.cell? a = some x → w'.cell? a = some x) : Sr w' v l := by
  obtain ⟨ao, c, rfl, h1, h2, h3⟩ := h
  refine ⟨ao, c, rfl, h1, h2, fun j hj => ?_⟩
  obtain ⟨g, o, rfl, h4⟩ := h3 j hj
  exact ⟨g, o, rfl, hc _ _ h4⟩
theorem Kr.later (h : Kr w v ks) (hb : Below w.heap.size w w') : Kr w' v ks := by
  have hc : ∀ (a : Addr) (x : Value), w.cell? a = some x → w'.cell? a = some x := fun a x e => (hb.cell (p := a) (World.block_lt_of_cell? w _ e)).trans e
  obtain ⟨ao, c, rfl, h1, h2, h3⟩ := h
  refine ⟨ao, c, rfl, h1, h2, fun i hi => ?_⟩
  obtain ⟨g, o, vf, rfl, h4, h5, h6⟩ := h3 i hi
  exact ⟨g, o, vf, rfl, hc _ _ h4, hc _ _ h5, h6.on hc⟩
end
end Go.Proofs.YtfkhhplcogedmaaGreatDoor

/-
  Verify: a program that is asked; askSets.
-/
namespace Go.Proofs.YtfkhhplcogedmaaGreatDoor
open Go.RowKit
set_option maxRecDepth 100000
/-- A program that is asked, in memory. -/
structure Pm (Q : Nat → Prop) (W : World) (B gv : Nat) (vs vf vk vr : Value) (p : Pg) (ks : List Kind) (L : List Rv) : Prop where
  blk : W.heap[gv]? = some (.cells #[vs, vf, vk, vr] 75 (0, 0))
  sys : Sys Q W vs p.sys
  fns : Rts Q W vf p.fns
  kin : Kr W vk ks
  own : W.ownsRow B 109 9 vr L.length (rvs L)
  ros : L.map Rv.ro = rosOf p
  ok : ∀ x ∈ L, RvOk Q W x
  tb : Tb W
section
variable {Q : Nat → Prop} {W W' : World} {B gv : Nat} {vs vf vk vr : Value} {p : Pg} {ks : List Kind} {L : List Rv}
theorem Pm.later (h : Pm Q W B gv vs vf vk vr p ks L) (hb : Below W.heap.size W W') : Pm Q W' B gv vs vf vk vr p ks L :=
  ⟨(hb.block gv (lt_of_block h.blk)).trans h.blk, h.sys.later hb, h.fns.later hb, h.kin.later hb, own_later h.own hb, h.ros, fun x hx => (h.ok x hx).later hb, h.tb.later hb⟩
theorem Pm.cells (h : Pm Q W B gv vs vf vk vr p ks L) : W.cell? ⟨gv, 0, none⟩ = some vs ∧ W.cell? ⟨gv, 1, none⟩ = some vf ∧ W.cell? ⟨gv, 2, none⟩ = some vk ∧ W.cell? ⟨gv, 3, none⟩ = some vr := by
  refine ⟨?_, ?_, ?_, ?_⟩ <;> rw [cell_of_row W _ _ _ 75 (0, 0) h.blk] <;> rfl
theorem Pm.len (h : Pm Q W B gv vs vf vk vr p ks L) : L.length = p.sys.length + p.fns.length := by
  have := congrArg List.length h.ros
  rw [List.length_map, rosOf_len] at this
  exact this
theorem Pm.at (h : Pm Q W B gv vs vf vk vr p ks L) {i : Nat} (hi : i < L.length) : L[i].ro = (rosOf p)[i]'(by rw [rosOf_len, ← h.len]; exact hi) := by
  have hx : (L.map Rv.ro)[i]? = (rosOf p)[i]? := by rw [h.ros]
  rw [List.getElem?_map, List.getElem?_eq_getElem hi, List.getElem?_eq_getElem (by rw [rosOf_len, ← h.len]; exact hi)] at hx
  simpa using hx
/-- A routine's cells. -/
theorem Pm.row (h : Pm Q W B gv vs vf vk vr p ks L) {i : Nat} (hi : i < L.length) : ∃ g c, vr = .slice (some ⟨g, 0, none⟩) L.length c ∧ L.length ≤ c ∧ c ≤ 9223372036854775807 ∧ W.cell? ⟨g, i * 9, none⟩ = some (.string L[i].ro.rt.name) ∧ W.cell? ⟨g, i * 9 + 1, none⟩ = some (.int .i64 L[i].ro.rt.pa) ∧ W.cell? ⟨g, i * 9 + 2, none⟩ = some (.int .i64 L[i].ro.rt.lo) ∧ W.cell? ⟨g, i * 9 + 3, none⟩ = some L[i].vc ∧ W.cell? ⟨g, i * 9 + 4, none⟩ = some (.int .i64 (L[i].ro.pl : Int)) ∧ W.cell? ⟨g, i * 9 + 5, none⟩ = some (.bool L[i].ro.sy) ∧ W.cell? ⟨g, i * 9 + 6, none⟩ = some L[i].vr ∧ W.cell? ⟨g, i * 9 + 7, none⟩ = some L[i].vw ∧ W.cell? ⟨g, i * 9 + 8, none⟩ = some L[i].vd := by
  obtain ⟨g, c, e, h1, h2⟩ := own_form h.own (by omega)
  have ho := h.own
  rw [e] at ho
  have key : ∀ j, j < 9 → W.cell? ⟨g, i * 9 + j, none⟩ = (rvC L[i])[j]? := fun j hj => by rw [ho.cellAt (i * 9 + j) (by omega), rvs_at hi hj]
  exact ⟨g, c, e, h1, h2, key 0 (by omega), key 1 (by omega), key 2 (by omega), key 3 (by omega), key 4 (by omega), key 5 (by omega), key 6 (by omega), key 7 (by omega), key 8 (by omega)⟩
end
/-- A system names a kind that there is not. -/
def SetBad (nk : Nat) (sys : List Sy) (n : Nat) : Prop := ∃ h : n < sys.length, ∃ k ∈ sys[n].wi ++ sys[n].wo ++ sys[n].re ++ sys[n].wr, (nk : Int) < k
def plOf (p : Pg) (n : Nat) : Int := ((rosOf p)[n]?.map fun r => (r.pl : Int)).getD 0
set_option maxHeartbeats 8000000 in
theorem asksets_any {Q : Nat → Prop} {W : World} {B gv : Nat} {vs vf vk vr : Value} {p : Pg} {ks : List Kind} {L : List Rv} (h : Pm Q W B gv vs vf vk vr p ks L) (hsz : ∀ s ∈ p.sys, s.wi.length ≤ 12 ∧ s.wo.length ≤ 12 ∧ s.re.length ≤ 12 ∧ s.wr.length ≤ 12) : Calls Tryz.prog 23 #[.pointer (some ⟨gv, 0, none⟩)] W fun e w' => ∃ v on, e = .returned v ∧ Fst p.sys.length (SetBad ks.length p.sys) on ∧ FltN W.heap.size w' v (on.map fun n => (plOf p n, 60)) ∧ Below W.heap.size W w' := by
  have HP := hide h
  have HSZ := hide hsz
  have JF : Hid (∀ a e W, Calls Tryz.prog 20 #[.int .i64 a, .int .i64 e] W fun en w' => ∃ v, en = .returned v ∧ FltN W.heap.size w' v (some (a, e)) ∧ Below W.heap.size W w') := faultN_any
  obtain ⟨c0, c1, c2, c3⟩ := h.cells
  obtain ⟨sa, sc, rfl, s1, s2⟩ := h.sys.at
  obtain ⟨ka, kc, hvk, k1, k2, -⟩ := h.kin
  subst hvk
  have k3 : kc ≤ 9223372036854775807 := by unfold maxLen at k2; omega
  obtain ⟨ns, hns⟩ : ∃ n, n = p.sys.length := ⟨_, rfl⟩
  obtain ⟨nk, hnk'⟩ : ∃ n, n = ks.length := ⟨_, rfl⟩
  have HNS := hide hns
  have HNK := hide hnk'
  rw [← hns] at c0 s1 HP ⊢
  rw [← hnk'] at c2 k1 HP ⊢
  obtain ⟨sys, hsys⟩ : ∃ x, x = p.sys := ⟨_, rfl⟩
  have HSY := hide hsys
  rw [← hsys] at HSZ HNS ⊢
  clear h hsz hns hnk' k2 hsys
  go_enter Tryz.func23, Tryz.ntmps23
  go_wp2_with fail
  clear c0 c1 c2 c3
  go_loopw [13] (fun v13 V => ∃ i : Nat, i ≤ ns ∧ v13 = .int .i64 (i : Int) ∧ Hid (∀ j, j < i → ¬ SetBad nk sys j) ∧ Hid (Below W.heap.size W V)) (fun v13 _ => ns - (intOf v13).toNat)
  case atStart => exact ⟨0, Nat.zero_le _, rfl, fun j hj => absurd hj (by omega), Below.refl _ _⟩
  case round =>
    obtain ⟨i, hi, rfl, HNO, HB⟩ := hrel
    by_cases hlt : i < ns
    · have t1 : (i : Int) < (ns : Int) := by omega
      have his : i < sys.length := by have := HNS.out; omega
      obtain ⟨g, o, rfl, -, hat⟩ := HP.out.sys.nth (k := i) (by rw [← HSY.out]; exact his)
      obtain ⟨a1, a2, a3, a4, a5, n1, n2, n3, n4, n5, q1, q2, q3, q4, q5, HV, y1, y2, y3, y4, y5, y6, y7, y8⟩ := hat.vs
      have hM := Mv.of_below HB.out (fun _ => False)
      have z1 := hM.cell y1 id
      have z2 := hM.cell y2 id
      have z3 := hM.cell y3 id
      have z4 := hM.cell y4 id
      have z5 := hM.cell y5 id
      have z6 := hM.cell y6 id
      have z7 := hM.cell y7 id
      have z8 := hM.cell y8 id
      have hs4 := HSZ.out sys[i] (List.getElem_mem his)
      have hse : p.sys[i]'(by rw [← HSY.out]; exact his) = sys[i] := by simp only [HSY.out]
      have HV' := hide (HV.later HB.out)
      rw [hse] at z5 z6 z7 HV'
      have HBAD : Hid (SetBad nk sys i ↔ ∃ k ∈ sys[i].wi ++ sys[i].wo ++ sys[i].re ++ sys[i].wr, (nk : Int) < k) := ⟨fun ⟨_, h⟩ => h, fun h => ⟨his, h⟩⟩
      have HS4 := hide hs4
      clear hat HV hM y1 y2 y3 y4 y5 y6 y7 y8 hs4 hse
      generalize sys[i] = s at *
      obtain ⟨wi, wo, re, wrt, nm, pa, lo, code⟩ := s
      dsimp only at z1 z2 z3 z4 z5 z6 z7 z8 HV' HBAD HS4
      go_upto_region 4 with fail
      obtain ⟨g4, hg4⟩ : ∃ x, x = wr.heap.size := ⟨_, rfl⟩
      obtain ⟨W1, hW1⟩ : ∃ X, X = wr.alloc (.cells #[.slice a1 n1 q1, .slice a2 n2 q2, .slice a3 n3 q3, .slice a4 n4 q4, .string nm, .int .i64 pa, .int .i64 lo, .slice a5 n5 q5] 38) := ⟨_, rfl⟩
      have b1 : Below wr.heap.size wr W1 := hW1 ▸ below_alloc wr _
      have k4' : W1.heap[g4]? = some (.cells #[.slice a1 n1 q1, .slice a2 n2 q2, .slice a3 n3 q3, .slice a4 n4 q4, .string nm, .int .i64 pa, .int .i64 lo, .slice a5 n5 q5] 38 (0, 0)) := by rw [hW1, hg4]; exact heap_alloc_new wr _
      rw [← hW1, ← hg4]
      obtain ⟨x1, x2, x3, x4, -⟩ := row8 k4'
      obtain ⟨W2, hW2⟩ : ∃ X, X = W1.alloc (.cells #[.slice a1 n1 q1, .slice a2 n2 q2, .slice a3 n3 q3, .slice a4 n4 q4] 36) := ⟨_, rfl⟩
      have b2 : Below W1.heap.size W1 W2 := hW2 ▸ below_alloc W1 _
      have kl2 : W2.heap[W1.heap.size]? = some (.cells #[.slice a1 n1 q1, .slice a2 n2 q2, .slice a3 n3 q3, .slice a4 n4 q4] 36 (0, 0)) := by rw [hW2]; exact heap_alloc_new W1 _
      have V2 := HV'.out.later (below_on b1 b2)
      have hs4 := HS4.out
      have JC : Hid (Calls Tryz.prog 46 #[.slice (some ⟨W1.heap.size, 0, none⟩) 4 4] W2 fun e w' => ∃ v', e = .returned v' ∧ w'.ownsRow W2.heap.size 3 1 v' (totI [wi, wo, re, wrt]) (zq [wi, wo, re, wrt].flatten) ∧ Below W2.heap.size W2 w') := concati_any (Q := Q) W1.heap.size 4 (fun i => [Value.slice a1 n1 q1, .slice a2 n2 q2, .slice a3 n3 q3, .slice a4 n4 q4].getD i undef) [wi, wo, re, wrt] W2 (Nat.le_refl _) (by omega) (fun i hi => by
          rw [cell_of_row W2 _ _ _ 36 (0, 0) kl2]
          match i, hi with
          | 0, _ => rfl
          | 1, _ => rfl
          | 2, _ => rfl
          | 3, _ => rfl) (fun i hi => by
          match i, hi with
          | 0, _ => exact V2.w
          | 1, _ => exact V2.wo
          | 2, _ => exact V2.re
          | 3, _ => exact V2.wr) (by simp [totI]; omega)
      have BW2 := hide (below_on HB.out (below_on b1 b2))
      have HW2 := hide hW2
      have HFL : Hid ([wi, wo, re, wrt].flatten = wi ++ wo ++ re ++ wrt ∧ totI [wi, wo, re, wrt] = (wi ++ wo ++ re ++ wrt).length ∧ (wi ++ wo ++ re ++ wrt).length ≤ 48) := ⟨by simp, by simp [totI], by simp; omega⟩
      rw [HFL.out.1, HFL.out.2.1] at JC
      obtain ⟨fl, hfl⟩ : ∃ x, x = wi ++ wo ++ re ++ wrt := ⟨_, rfl⟩
      rw [← hfl] at HBAD JC HFL
      obtain ⟨nfl, hnfl⟩ : ∃ x, x = fl.length := ⟨_, rfl⟩
      rw [← hnfl] at JC HFL
      have HNF := hide hnfl
      have h48 := HFL.out.2.2
      clear hW1 hg4 b1 z1 z2 z3 z4 z5 z6 z7 z8 hW2 b2 kl2 V2 hs4 HS4 HV' hfl hnfl k4'
      go_wp2_with fail
      rw [← HW2.out]
      refine JC.out.mono ?_
      rintro e w3 ⟨v27, rfl, o3, b3⟩
      obtain ⟨a27, c27, hv27⟩ := own_len o3
      subst hv27
      obtain ⟨f1, f2⟩ := own_cap o3
      have O3 : Hid (∀ V, Below w3.heap.size w3 V → V.ownsRow W2.heap.size 3 1 (.slice a27 nfl c27) nfl (zq fl)) := fun V hV => own_later o3 hV
      have B3 := hide (below_on BW2.out b3)
      clear o3 b3 JC x1 x2 x3 x4 HW2
      go_wp2_with fail
      go_loopw [29] (fun v29 V => ∃ k : Nat, k ≤ nfl ∧ v29 = .int .i64 (k : Int) ∧ Hid (∀ j (hj : j < fl.length), j < k → ¬ (nk : Int) < fl[j]) ∧ Hid (Below w3.heap.size w3 V)) (fun v29 _ => nfl - (intOf v29).toNat)
      case atStart => exact ⟨0, Nat.zero_le _, rfl, fun j hj h => absurd h (by omega), Below.refl _ _⟩
      case round =>
        obtain ⟨k, hk, rfl, HK, HBK⟩ := hrel
        by_cases hlt2 : k < nfl
        · have t2 : (k : Int) < (nfl : Int) := by omega
          have hkf : k < fl.length := by have := HNF.out; omega
          have oo := O3.out wr HBK.out
          obtain ⟨ga, ca, ea, -, -⟩ := own_form oo (by omega)
          simp only [Value.slice.injEq, true_and] at ea
          obtain ⟨rfl, rfl⟩ := ea
          have dk : wr.cell? ⟨ga, k, none⟩ = some (.int .i64 fl[k]) := by
            rw [oo.cellAt k (by omega)]
            simp [zq, hkf]
          have BK := hide (below_on B3.out HBK.out)
          obtain ⟨-, -, y2, y3⟩ := (HP.out.later BK.out).cells
          obtain ⟨y, hy⟩ : ∃ y, y = fl[k] := ⟨_, rfl⟩
          have HY := hide hy
          rw [← hy] at dk
          clear oo hy
          by_cases cy : y > (nk : Int)
          · have hiL : i < L.length := by rw [HP.out.len, ← HSY.out]; omega
            obtain ⟨gr, cr, hvr, r1, r2, -, -, -, -, r7, -⟩ := (HP.out.later BK.out).row hiL
            have hpl : plOf p i = (L[i].ro.pl : Int) := by
              unfold plOf
              rw [HP.out.at hiL, List.getElem?_eq_getElem (by rw [rosOf_len, ← HP.out.len]; exact hiL)]
              rfl
            have HFST : Hid (Fst sys.length (SetBad nk sys) (some i)) := ⟨his, HBAD.out.2 ⟨fl[k], List.getElem_mem hkf, by rw [← HY.out]; exact cy⟩, HNO.out⟩
            have HPL := hide hpl
            obtain ⟨pl, hpl'⟩ : ∃ x : Int, x = (L[i].ro.pl : Int) := ⟨_, rfl⟩
            rw [← hpl'] at r7 HPL
            obtain ⟨nl, hnl⟩ : ∃ x, x = L.length := ⟨_, rfl⟩
            rw [← hnl] at hiL hvr r1
            have ti : (i : Int) < (nl : Int) := by omega
            subst hvr
            clear hpl hpl' hnl
            go_wp2_with fail
            refine (JF.out _ _ _).mono ?_
            rintro e w5 ⟨v5, rfl, f5, b5⟩
            have F5 := hide (f5.mono BK.out.size)
            have B5 := hide (below_on BK.out b5)
            clear f5 b5 dk y2 y3 r7
            go_wp2_with fail
            go_ret
            refine ⟨_, some i, rfl, HNS.out ▸ HFST.out, ?_, B5.out⟩
            show FltN W.heap.size w5 v5 (some (plOf p i, 60))
            rw [HPL.out]
            exact F5.out
          · have HN : Hid (∀ j (hj : j < fl.length), j < k + 1 → ¬ (nk : Int) < fl[j]) := fun j hj h => by
              by_cases e : j = k
              · subst e
                rw [← HY.out]
                exact cy
              · exact HK.out j hj (by omega)
            clear HK
            go_wp2_with fail
            go_roundw
            case rel => exact ⟨k + 1, by omega, rfl, HN, HBK⟩
            case measure => simp only [intOf]; omega
        · have t2 : ¬ (k : Int) < (nfl : Int) := by omega
          have HN : Hid (∀ j, j < i + 1 → ¬ SetBad nk sys j) := fun j hj hb => by
            by_cases e : j = i
            · subst e
              obtain ⟨x, hx, hx2⟩ := HBAD.out.1 hb
              obtain ⟨m, hm, rfl⟩ := List.getElem_of_mem hx
              exact HK.out m hm (by have := HNF.out; omega) hx2
            · exact HNO.out j (by omega) hb
          have BK := hide (below_on B3.out HBK.out)
          clear HK HBK O3
          go_wp2_with fail
          go_roundw
          case rel => exact ⟨i + 1, by omega, rfl, HN, BK⟩
          case measure => simp only [intOf]; omega
    · have t1 : ¬ (i : Int) < (ns : Int) := by omega
      have HFST : Hid (Fst sys.length (SetBad nk sys) none) := fun j hj => HNO.out j (by have := HNS.out; omega)
      clear HNO
      go_wp2_with fail
      go_ret
      first | exact ⟨_, rfl, none, HNS.out ▸ HFST.out, FltN.none, HB.out⟩ | exact ⟨_, none, rfl, HNS.out ▸ HFST.out, FltN.none, HB.out⟩
end Go.Proofs.YtfkhhplcogedmaaGreatDoor

/-
  Verify: isKind, fields, has.
-/
namespace Go.Proofs.YtfkhhplcogedmaaGreatDoor
open Go.RowKit
set_option maxRecDepth 100000
theorem iskind2_any {Q : Nat → Prop} {W : World} {B gv : Nat} {vs vf vk vr : Value} {p : Pg} {ks : List Kind} {L : List Rv} (h : Pm Q W B gv vs vf vk vr p ks L) (x : Int) : Calls Tryz.prog 96 #[.pointer (some ⟨gv, 0, none⟩), .int .i64 x] W fun e w' => e = .returned (.bool (decide (1 ≤ x ∧ x ≤ (ks.length : Int)))) ∧ w' = W := by
  obtain ⟨-, -, c2, -⟩ := h.cells
  obtain ⟨ka, kc, rfl, k1, k2, -⟩ := h.kin
  have k3 : kc ≤ 9223372036854775807 := by unfold maxLen at k2; omega
  generalize ks.length = nk at *
  clear h k2
  by_cases g1 : 1 ≤ x
  · by_cases g2 : x ≤ (nk : Int)
    · rw [decide_eq_true (show 1 ≤ x ∧ x ≤ (nk : Int) from ⟨g1, g2⟩)]
      go_enter Tryz.func96, Tryz.ntmps96
      go_wp2_with fail
      go_ret
      exact ⟨rfl, rfl⟩
    · rw [decide_eq_false (show ¬ (1 ≤ x ∧ x ≤ (nk : Int)) from fun c => g2 c.2)]
      go_enter Tryz.func96, Tryz.ntmps96
      go_wp2_with fail
      go_ret
      exact ⟨rfl, rfl⟩
  · rw [decide_eq_false (show ¬ (1 ≤ x ∧ x ≤ (nk : Int)) from fun c => g1 c.1)]
    go_enter Tryz.func96, Tryz.ntmps96
    go_wp2_with fail
    go_ret
    exact ⟨rfl, rfl⟩
/-- How many fields a kind has. -/
def fdN (ks : List Kind) (k : Nat) : Nat := (ks.getD (k - 1) (⟨#[]⟩, [])).2.length
theorem fields2_any {Q : Nat → Prop} {W : World} {B gv : Nat} {vs vf vk vr : Value} {p : Pg} {ks : List Kind} {L : List Rv} (h : Pm Q W B gv vs vf vk vr p ks L) (k : Nat) (hk1 : 1 ≤ k) (hk2 : k ≤ ks.length) : Calls Tryz.prog 94 #[.pointer (some ⟨gv, 0, none⟩), .int .i64 (k : Int)] W fun e w' => e = .returned (.int .i64 (fdN ks k : Int)) ∧ w' = W := by
  obtain ⟨-, -, c2, -⟩ := h.cells
  obtain ⟨ka, kc, rfl, k1, k2, k3⟩ := h.kin
  have k4 : kc ≤ 9223372036854775807 := by unfold maxLen at k2; omega
  obtain ⟨g, o, vf', rfl, y1, y2, y3⟩ := k3 (k - 1) (by omega)
  obtain ⟨af, cf, rfl, f1, f2, -⟩ := y3
  have HF : Hid (fdN ks k = (ks[k - 1]'(by omega)).2.length) := by
    unfold Hid fdN
    rw [List.getD_eq_getElem?_getD, List.getElem?_eq_getElem (by omega)]
    rfl
  generalize (ks[k - 1]'(by omega)).2.length = nf at *
  obtain ⟨j, rfl⟩ : ∃ j, k = j + 1 := ⟨k - 1, by omega⟩
  clear k3 h y1
  have t1 : (j : Int) < (ks.length : Int) := by omega
  have t2 : IntKind.i64.wrap (((j + 1 : Nat) : Int) - 1) = (j : Int) := by rw [IntKind.wrap_i64]; omega
  rw [Nat.add_sub_cancel] at y2
  rw [HF.out]
  have f3 : cf ≤ 9223372036854775807 := by unfold maxLen at f2; omega
  clear k2 HF f2
  go_enter Tryz.func94, Tryz.ntmps94
  go_wp2_with fail
  go_ret
  exact ⟨rfl, rfl⟩
theorem clos_any (x k : Int) (g : Nat) (W : World) (hg : W.cell? ⟨g, 0, none⟩ = some (.int .i64 k)) : Calls Tryz.prog 110 #[.int .i64 x, .pointer (some ⟨g, 0, none⟩)] W fun e w' => e = .returned (.bool (decide (x = k))) ∧ w' = W := by
  by_cases e : x = k
  · rw [decide_eq_true e]
    subst e
    go_enter Tryz.func110, Tryz.ntmps110
    go_wp2_with fail
    go_ret
    exact ⟨rfl, rfl⟩
  · rw [decide_eq_false e]
    have f1 : (x == k) = false := beq_eq_false_iff_ne.2 e
    clear e
    go_enter Tryz.func110, Tryz.ntmps110
    go_wp2_with fail
    go_ret
    exact ⟨rfl, rfl⟩
set_option maxHeartbeats 4000000 in
theorem indexfunc_any {Q : Nat → Prop} {W : World} {vs : Value} {l : List Int} (h : Nl Q W vs l) (k : Int) (g : Nat) (hg : W.cell? ⟨g, 0, none⟩ = some (.int .i64 k)) : Calls Tryz.prog 113 #[vs, .func (Fn.func 110) #[] #[.pointer (some ⟨g, 0, none⟩)]] W fun e w' => (∃ i : Int, e = .returned (.int .i64 i) ∧ (0 ≤ i ↔ k ∈ l)) ∧ w' = W := by
  have H := hide h
  obtain ⟨ao, c, rfl, h1, h2⟩ := h.at
  obtain ⟨n, hn⟩ : ∃ n, n = l.length := ⟨_, rfl⟩
  have HN := hide hn
  rw [← hn] at h1 H ⊢
  clear h hn
  go_enter Tryz.func113, Tryz.ntmps113
  go_wp2_with fail
  go_loopw [8] (fun v8 V => ∃ i : Nat, i ≤ n ∧ v8 = .int .i64 (i : Int) ∧ V = W ∧ Hid (∀ j (hj : j < l.length), j < i → l[j] ≠ k)) (fun v8 _ => n - (intOf v8).toNat)
  case atStart => exact ⟨0, Nat.zero_le _, rfl, rfl, fun j hj h => absurd h (by omega)⟩
  case round =>
    obtain ⟨i, hi, rfl, rfl, HNO⟩ := hrel
    by_cases hlt : i < n
    · have t1 : (i : Int) < (n : Int) := by omega
      have hil : i < l.length := by have := HN.out; omega
      obtain ⟨ga, oa, rfl, -, d1, -⟩ := H.out.nth hil
      obtain ⟨x, hx⟩ : ∃ x, x = l[i] := ⟨_, rfl⟩
      have HX := hide hx
      rw [← hx] at d1
      clear hx
      have J := hide (clos_any x k g wr hg)
      by_cases cx : x = k
      · rw [decide_eq_true cx] at J
        have HM : Hid (k ∈ l) := by unfold Hid; rw [← cx, HX.out]; exact List.getElem_mem hil
        clear cx
        go_wp2_with fail
        refine J.out.mono ?_
        rintro e w2 ⟨rfl, rfl⟩
        clear J d1
        go_wp2_with fail
        go_ret
        exact ⟨⟨_, rfl, ⟨fun _ => HM.out, fun _ => by omega⟩⟩, rfl⟩
      · rw [decide_eq_false cx] at J
        have HN2 : Hid (∀ j (hj : j < l.length), j < i + 1 → l[j] ≠ k) := fun j hj h => by
          by_cases e : j = i
          · subst e
            rw [← HX.out]
            exact cx
          · exact HNO.out j hj (by omega)
        clear cx HNO
        go_wp2_with fail
        refine J.out.mono ?_
        rintro e w2 ⟨rfl, rfl⟩
        clear J d1
        go_wp2_with fail
        go_roundw
        case rel => exact ⟨i + 1, by omega, rfl, trivial, HN2⟩
        case measure => simp only [intOf]; omega
    · have t1 : ¬ (i : Int) < (n : Int) := by omega
      have HM : Hid (k ∉ l) := fun hk => by
        obtain ⟨m, hm, e⟩ := List.getElem_of_mem hk
        exact HNO.out m hm (by have := HN.out; omega) e
      clear HNO
      go_wp2_with fail
      go_ret
      exact ⟨⟨_, rfl, ⟨fun h => absurd h (by omega), fun h => absurd h HM.out⟩⟩, rfl⟩
set_option maxHeartbeats 4000000 in
theorem containsfunc_any {Q : Nat → Prop} {W : World} {vs : Value} {l : List Int} (h : Nl Q W vs l) (k : Int) (g : Nat) (hg : W.cell? ⟨g, 0, none⟩ = some (.int .i64 k)) : Calls Tryz.prog 109 #[vs, .func (Fn.func 110) #[] #[.pointer (some ⟨g, 0, none⟩)]] W fun e w' => e = .returned (.bool (decide (k ∈ l))) ∧ w' = W := by
  have J := hide (indexfunc_any h k g hg)
  obtain ⟨ao, c, rfl, h1, h2⟩ := h.at
  clear h
  go_enter Tryz.func109, Tryz.ntmps109
  go_wp2_with fail
  refine J.out.mono ?_
  rintro e w2 ⟨⟨i, rfl, hi⟩, rfl⟩
  clear J
  by_cases c0 : 0 ≤ i
  · have HD := hide (decide_eq_true (hi.1 c0))
    clear hi
    go_wp2_with fail
    go_ret
    first | exact ⟨ret_bool HD.out.symm, rfl⟩ | exact ⟨ret_bool (HD.out.symm ▸ decide_eq_false (by have := C0.out; omega)), rfl⟩
  · have HD := hide (decide_eq_false (fun e => c0 (hi.2 e)))
    have C0 := hide c0
    clear hi
    go_wp2_with fail
    go_ret
    first | exact ⟨ret_bool HD.out.symm, rfl⟩ | exact ⟨ret_bool (HD.out.symm ▸ decide_eq_false (by have := C0.out; omega)), rfl⟩
set_option maxHeartbeats 4000000 in
theorem has_any {Q : Nat → Prop} {W : World} {vs : Value} {l : List Int} (h : Nl Q W vs l) (k : Int) : Calls Tryz.prog 93 #[vs, .int .i64 k] W fun e w' => e = .returned (.bool (decide (k ∈ l))) ∧ Below W.heap.size W w' := by
  obtain ⟨ao, c, rfl, h1, h2⟩ := h.at
  have J := hide (containsfunc_any (h.later (below_alloc W (.cells #[.int .i64 k] 2))) k W.heap.size (by rw [cell_of_row _ _ _ _ 2 (0, 0) (heap_alloc_new W _)]; rfl))
  clear h
  go_enter Tryz.func93, Tryz.ntmps93
  go_wp2_with fail
  refine J.out.mono ?_
  rintro e w2 ⟨rfl, rfl⟩
  clear J
  go_wp2_with fail
  go_ret
  exact ⟨rfl, below_alloc W _⟩
end Go.Proofs.YtfkhhplcogedmaaGreatDoor

/-
  Verify: isBehindPart.
-/
namespace Go.Proofs.YtfkhhplcogedmaaGreatDoor
open Go.RowKit
set_option maxRecDepth 100000
/-- There is an instruction of this number, right behind a part. -/
def bhpI (c : List Ins) (a : Int) : Bool := decide (1 ≤ a ∧ a < (c.length : Int) ∧ (iat c (a - 1).toNat).op = 26)
set_option maxHeartbeats 4000000 in
theorem isbehindpart_any {Q : Nat → Prop} {w : World} {vc : Value} {c : List Ins} (h : Il Q w vc c) (a : Int) : Calls Tryz.prog 49 #[vc, .int .i64 a] w fun e w' => e = .returned (.bool (bhpI c a)) ∧ Below w.heap.size w w' := by
  obtain ⟨ao, co, rfl, h1, h2⟩ := h.at
  have HI := hide h
  obtain ⟨r, hr⟩ : ∃ r, r = bhpI c a := ⟨_, rfl⟩
  have HR := hide hr
  rw [← hr]
  obtain ⟨n, hn⟩ : ∃ n, n = c.length := ⟨_, rfl⟩
  have HN := hide hn
  rw [← hn] at h1 HI ⊢
  have h3 : (n : Int) ≤ 9223372036854775807 := by omega
  clear h hr hn
  by_cases c1 : 1 ≤ a
  · have f1 : decide (1 ≤ a) = true := decide_eq_true c1
    by_cases c2 : a < (n : Int)
    · have f2 : decide (a < (n : Int)) = true := decide_eq_true c2
      obtain ⟨p, hp⟩ : ∃ p : Nat, a = (p : Int) + 1 := ⟨(a - 1).toNat, by omega⟩
      subst hp
      have hpn : p < c.length := by have := HN.out; omega
      obtain ⟨g, o, rfl, -, e1, -, -, -⟩ := HI.out.nth hpn
      have HV : Hid (r = decide (c[p].op = 26)) := by
        unfold Hid
        rw [HR.out]
        unfold bhpI
        have e : ((p : Int) + 1 - 1).toNat = p := by omega
        rw [e, iat_eq hpn]
        have := HN.out
        simp only [decide_eq_decide]
        constructor
        · exact fun h => h.2.2
        · exact fun h => ⟨by omega, by omega, h⟩
      obtain ⟨op, hop⟩ : ∃ x, x = c[p].op := ⟨_, rfl⟩
      rw [← hop] at e1 HV
      clear hop HR
      have t1 : IntKind.i64.wrap ((p : Int) + 1 - 1) = (p : Int) := by rw [IntKind.wrap_i64]; omega
      by_cases c3 : op = 26
      · subst c3
        go_enter Tryz.func49, Tryz.ntmps49
        go_wp2_with fail
        go_ret
        exact ⟨by rw [HV.out]; rfl, Below.refl _ _⟩
      · have f3 : (op == 26) = false := beq_eq_false_iff_ne.2 c3
        have HF : Hid (r = false) := HV.out.trans (decide_eq_false c3)
        clear c3
        go_enter Tryz.func49, Tryz.ntmps49
        go_wp2_with fail
        go_ret
        exact ⟨by rw [HF.out]; rfl, Below.refl _ _⟩
    · have f2 : decide (a < (n : Int)) = false := decide_eq_false c2
      have HF : Hid (r = false) := HR.out.trans (decide_eq_false (fun h => c2 (by have := HN.out; omega)))
      go_enter Tryz.func49, Tryz.ntmps49
      go_wp2_with fail
      go_ret
      exact ⟨by rw [HF.out]; rfl, Below.refl _ _⟩
  · have f1 : decide (1 ≤ a) = false := decide_eq_false c1
    have HF : Hid (r = false) := HR.out.trans (decide_eq_false (fun h => c1 h.1))
    go_enter Tryz.func49, Tryz.ntmps49
    go_wp2_with fail
    go_ret
    exact ⟨by rw [HF.out]; rfl, Below.refl _ _⟩
end Go.Proofs.YtfkhhplcogedmaaGreatDoor

/-
  Verify: isInRow.
-/
namespace Go.Proofs.YtfkhhplcogedmaaGreatDoor
open Go.RowKit
set_option maxRecDepth 100000
/-- Where the parts that end ahead of a place begin. -/
def frI (c : List Ins) : Nat → Nat
  | 0 => 0
  | p + 1 => if (iat c p).op = 26 then frI c p else p + 1
theorem frI_le (c : List Ins) : ∀ p, frI c p ≤ p
  | 0 => Nat.le_refl _
  | p + 1 => by
    unfold frI
    have := frI_le c p
    split <;> omega
def inrI (c : List Ins) (p : Nat) : Bool := decide (p + 1 < c.length ∧ ((iat c (p + 1)).op = 26 ∨ (iat c (p + 1)).op = 27) ∧ p - frI c p < 12)
set_option maxHeartbeats 8000000 in
theorem isinrow_any {Q : Nat → Prop} {w : World} {vc : Value} {c : List Ins} (h : Il Q w vc c) (p : Nat) (hp : p < c.length) : Calls Tryz.prog 95 #[vc, .int .i64 (p : Int)] w fun e w' => e = .returned (.bool (inrI c p)) ∧ Below w.heap.size w w' := by
  obtain ⟨ao, co, rfl, h1, h2⟩ := h.at
  have HI := hide h
  obtain ⟨r, hr⟩ : ∃ r, r = inrI c p := ⟨_, rfl⟩
  have HR := hide hr
  rw [← hr]
  obtain ⟨n, hn⟩ : ∃ n, n = c.length := ⟨_, rfl⟩
  have HN := hide hn
  rw [← hn] at h1 HI hp ⊢
  have h3 : (n : Int) ≤ 9223372036854775807 := by omega
  have h4 : (p : Int) < (n : Int) := by omega
  clear h hr hn
  by_cases c1 : p + 1 = n
  · have f1 : ((p : Int) + 1 == (n : Int)) = true := by rw [beq_iff_eq]; omega
    have HF : Hid (r = false) := HR.out.trans (decide_eq_false (fun h => by have := HN.out; omega))
    clear c1
    go_enter Tryz.func95, Tryz.ntmps95
    go_wp2_with fail
    go_ret
    exact ⟨by rw [HF.out]; rfl, Below.refl _ _⟩
  · have f1 : ((p : Int) + 1 == (n : Int)) = false := beq_eq_false_iff_ne.2 (by omega)
    have h5 : (p : Int) + 1 < (n : Int) := by omega
    have hpn : p + 1 < c.length := by have := HN.out; omega
    obtain ⟨g, o, rfl, -, e1, -, -, -⟩ := HI.out.nth hpn
    have HV : Hid (r = decide ((c[p + 1].op = 26 ∨ c[p + 1].op = 27) ∧ p - frI c p < 12)) := by
      unfold Hid
      rw [HR.out]
      unfold inrI
      rw [iat_eq hpn]
      simp only [hpn, true_and]
    obtain ⟨op, hop⟩ : ∃ x, x = c[p + 1].op := ⟨_, rfl⟩
    rw [← hop] at e1 HV
    clear hop HR c1
    by_cases c2 : op = 26 ∨ op = 27
    · have HW : Hid (r = decide (p - frI c p < 12)) := by
        unfold Hid
        rw [HV.out]
        simp only [c2, true_and]
      clear HV
      rcases c2 with rfl | rfl
      all_goals
        go_enter Tryz.func95, Tryz.ntmps95
        go_wp2_with fail
        go_loopw [6] (fun v6 W => ∃ q : Nat, q ≤ p ∧ v6 = .int .i64 (q : Int) ∧ Hid (frI c p = frI c q) ∧ W = w) (fun v6 _ => (intOf v6).toNat)
        case atStart => exact ⟨p, Nat.le_refl _, rfl, rfl, rfl⟩
        case round =>
          obtain ⟨q, hq, rfl, HQ, rfl⟩ := hrel
          clear e1
          cases q with
          | zero =>
            obtain ⟨b, hb⟩ : ∃ b, b = decide ((p : Int) < 12) := ⟨_, rfl⟩
            have HB : Hid (r = b) := by
              unfold Hid
              rw [HW.out, hb, HQ.out, decide_eq_decide]
              unfold frI
              omega
            go_wp2_with fail
            go_ret
            exact ⟨by rw [HB.out, hb]; simp, Below.refl _ _⟩
          | succ q =>
            have hqc : q < c.length := by have := HN.out; omega
            obtain ⟨g', o', eg, -, e3, -, -, -⟩ := HI.out.nth hqc
            simp only [Option.some.injEq, Addr.mk.injEq, and_true] at eg
            obtain ⟨rfl, rfl⟩ := eg
            have HF : Hid (frI c (q + 1) = if c[q].op = 26 then frI c q else q + 1) := by
              unfold Hid
              rw [frI, iat_eq hqc]
            obtain ⟨ov, hov⟩ : ∃ x, x = c[q].op := ⟨_, rfl⟩
            rw [← hov] at e3 HF
            clear hov
            have t2 : (q : Int) + 1 ≤ (p : Int) := by omega
            by_cases c3 : ov = 26
            · subst c3
              go_wp2_with fail
              go_roundw
              case rel => exact ⟨q, by omega, rfl, by unfold Hid; rw [HQ.out, HF.out]; rfl, trivial⟩
              case measure => simp only [intOf]; omega
            · have f3 : (ov == 26) = false := beq_eq_false_iff_ne.2 c3
              have HB : Hid (frI c p = q + 1) := by
                unfold Hid
                rw [HQ.out, HF.out, if_neg c3]
              clear c3
              go_wp2_with fail
              go_ret
              refine ⟨?_, Below.refl _ _⟩
              rw [HW.out, HB.out]
              simp
              omega
    · have c3 : ¬ op = 26 := fun e => c2 (.inl e)
      have c4 : ¬ op = 27 := fun e => c2 (.inr e)
      have f3 : (op == 26) = false := beq_eq_false_iff_ne.2 c3
      have f4 : (op == 27) = false := beq_eq_false_iff_ne.2 c4
      have g3 : (op != 26) = true := by simp [c3]
      have g4 : (op != 27) = true := by simp [c4]
      have HF : Hid (r = false) := HV.out.trans (decide_eq_false (fun h => c2 h.1))
      clear c2 c3 c4
      go_enter Tryz.func95, Tryz.ntmps95
      go_wp2_with fail
      go_ret
      exact ⟨by rw [HF.out]; rfl, Below.refl _ _⟩
end Go.Proofs.YtfkhhplcogedmaaGreatDoor
