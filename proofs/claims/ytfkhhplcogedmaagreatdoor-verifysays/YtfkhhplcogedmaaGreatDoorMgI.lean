import Derived.Test.YtfkhhplcogedmaaGreatDoorVfO
import Derived.Test.YtfkhhplcogedmaaGreatDoorEnE
import Derived.Test.YtfkhhplcogedmaaGreatDoorMgD
import Derived.Deep.AppendLies
/-
  Verify: fault, Depths.
-/
namespace Go.Proofs.YtfkhhplcogedmaaGreatDoor
open Go.RowKit
set_option maxRecDepth 100000
/-- An error: none, or a fault at a place. -/
def Flt (W : World) (v : Value) : Option (Int × Int) → Prop
  | none => v = .nilIface
  | some (a, e) => ∃ g, v = .iface 57 (.pointer (some ⟨g, 0, none⟩)) ∧ W.heap[g]? = some (.cells #[.int .i64 a, .int .i64 e] 60 (0, 0))
theorem Flt.later {W W' : World} {v : Value} {o : Option (Int × Int)} (h : Flt W v o) (hb : Below W.heap.size W W') : Flt W' v o := by
  cases o with
  | none => exact h
  | some x =>
    obtain ⟨a, e⟩ := x
    obtain ⟨g, h1, h2⟩ := h
    exact ⟨g, h1, (hb.block g (lt_of_block h2)).trans h2⟩
/-- Likewise, and the fault's block is no elder one. -/
def FltN (N : Nat) (W : World) (v : Value) (o : Option (Int × Int)) : Prop := Flt W v o ∧ ∀ t g, v = .iface t (.pointer (some ⟨g, 0, none⟩)) → N ≤ g
theorem FltN.later {N : Nat} {W W' : World} {v : Value} {o : Option (Int × Int)} (h : FltN N W v o) (hb : Below W.heap.size W W') : FltN N W' v o := ⟨h.1.later hb, h.2⟩
theorem FltN.mono {N N' : Nat} {W : World} {v : Value} {o : Option (Int × Int)} (h : FltN N W v o) (hn : N' ≤ N) : FltN N' W v o := ⟨h.1, fun t g e => Nat.le_trans hn (h.2 t g e)⟩
theorem FltN.none {N : Nat} {W : World} : FltN N W .nilIface Option.none := ⟨rfl, fun _ _ e => by cases e⟩
theorem faultN_any (a e : Int) (W : World) : Calls Tryz.prog 20 #[.int .i64 a, .int .i64 e] W fun en w' => ∃ v, en = .returned v ∧ FltN W.heap.size w' v (some (a, e)) ∧ Below W.heap.size W w' := by
  go_enter Tryz.func20, Tryz.ntmps20
  go_wp2_with fail
  go_ret
  exact ⟨_, rfl, ⟨⟨_, rfl, heap_alloc_new W _⟩, fun t g e => by have e' : Value.iface 57 (.pointer (some ⟨W.heap.size, 0, none⟩)) = .iface t (.pointer (some ⟨g, 0, none⟩)) := e; injection e' with _ e1; injection e1 with e2; injection e2 with e3; injection e3 with e4; exact Nat.le_of_eq e4⟩, below_alloc W _⟩
theorem fault_any (a e : Int) (W : World) : Calls Tryz.prog 20 #[.int .i64 a, .int .i64 e] W fun en w' => ∃ v, en = .returned v ∧ Flt w' v (some (a, e)) ∧ Below W.heap.size W w' := (faultN_any a e W).mono fun _ _ ⟨v, h1, h2, h3⟩ => ⟨v, h1, h2.1, h3⟩
/-- What Depths answers. -/
def DpsOut (B : Nat) (fs : List Rt) (c : List Ins) (w' : World) (v ve : Value) : Prop :=
  (2000 < c.length ∧ v = .slice none 0 0 ∧ Flt w' ve (some (0, 130))) ∨
  (c = [] ∧ v = .slice none 0 0 ∧ Flt w' ve (some (0, 153))) ∨
  (c.length ≤ 2000 ∧ c ≠ [] ∧ ∃ p, Dpo 150 151 153 fs c (some p) ∧ v = .slice none 0 0 ∧ Flt w' ve (some ((p : Int), wrR 150 151 153 fs c p))) ∨
  (c.length ≤ 2000 ∧ c ≠ [] ∧ Dpo 150 151 153 fs c none ∧ ve = .nilIface ∧ w'.ownsRow B 3 1 v c.length ((List.range c.length).map fun p => Value.int .i64 (dpR fs c p)))
set_option maxHeartbeats 4000000 in
theorem depthsof_any {Q : Nat → Prop} {w : World} {vs vf vc : Value} {c : List Ins} {fs : List Rt} (nm : ByteArray) (pa lo : Int) (hs : ∃ a n c, vs = .slice a n c) (h : Il Q w vc c) (hf : Rts Q w vf fs) (ht : Tb w) : Calls Tryz.prog 12 #[.agg #[vs, vf], .agg #[.string nm, .int .i64 pa, .int .i64 lo, vc]] w fun e w' => ∃ v ve, e = .returned (.tuple #[v, ve]) ∧ DpsOut w.heap.size fs c w' v ve ∧ Below w.heap.size w w' := by
  have JF : Hid (∀ a e W, Calls Tryz.prog 20 #[.int .i64 a, .int .i64 e] W fun en w' => ∃ v, en = .returned v ∧ Flt w' v (some (a, e)) ∧ Below W.heap.size W w') := fault_any
  have JD : Hid (c.length ≤ 2000 → ∀ W, Below w.heap.size w W → Calls Tryz.prog 28 #[.agg #[vc, vf]] W fun e w' => DpOut W.heap.size fs c w' e ∧ Below W.heap.size W w') := fun hc W hW => depths_any (h.later hW) (hf.later hW) (ht.later hW) hc
  obtain ⟨ao, co, rfl, h1, h2⟩ := h.at
  obtain ⟨af, cf, rfl, -, -, -⟩ := hf
  obtain ⟨as', ns, cs, rfl⟩ := hs
  obtain ⟨n, hn⟩ : ∃ n, n = c.length := ⟨_, rfl⟩
  obtain ⟨nf, hnf⟩ : ∃ n, n = fs.length := ⟨_, rfl⟩
  rw [← hn, ← hnf] at JD
  rw [← hn] at h1 ⊢
  rw [← hnf]
  have HN := hide hn
  clear h hn hnf ht
  obtain ⟨w0, hw0⟩ : ∃ X, X = (w.alloc (.cells #[.slice as' ns cs, .slice af nf cf] 25)).alloc (.cells #[.string nm, .int .i64 pa, .int .i64 lo, .slice ao n co] 35) := ⟨_, rfl⟩
  have B0 : Hid (Below w.heap.size w w0) := by unfold Hid; rw [hw0]; exact below_on (below_alloc w _) (below_alloc _ _)
  have hb : w0.heap[w.heap.size]? = some (.cells #[.slice as' ns cs, .slice af nf cf] 25 (0, 0)) := by
    rw [hw0]
    exact ((below_alloc (w.alloc (.cells #[.slice as' ns cs, .slice af nf cf] 25)) _).block w.heap.size (by simp)).trans (heap_alloc_new w _)
  have hb' : w0.heap[w.heap.size + 1]? = some (.cells #[.string nm, .int .i64 pa, .int .i64 lo, .slice ao n co] 35 (0, 0)) := by
    rw [hw0]
    have := heap_alloc_new (w.alloc (.cells #[.slice as' ns cs, .slice af nf cf] 25)) (.cells #[.string nm, .int .i64 pa, .int .i64 lo, .slice ao n co] 35)
    simpa using this
  have c1 : w0.cell? ⟨w.heap.size, 1, none⟩ = some (.slice af nf cf) := by rw [cell_of_row _ _ _ _ 25 (0, 0) hb]; rfl
  have c2 : w0.cell? ⟨w.heap.size + 1, 3, none⟩ = some (.slice ao n co) := by rw [cell_of_row _ _ _ _ 35 (0, 0) hb']; rfl
  obtain ⟨gp, hgp⟩ : ∃ x, x = w.heap.size := ⟨_, rfl⟩
  obtain ⟨gr, hgr⟩ : ∃ x, x = w.heap.size + 1 := ⟨_, rfl⟩
  rw [← hgr] at c2
  rw [← hgp] at c1
  go_enter Tryz.func12, Tryz.ntmps12
  go_upto_region 1 with fail
  rw [← hw0, ← hgr, ← hgp]
  clear hw0 hgr hgp hb hb'
  by_cases cn : (n : Int) > 2000
  · have HO : Hid (2000 < c.length) := by have := HN.out; unfold Hid; omega
    go_wp2_with fail
    refine (JF.out _ _ _).mono ?_
    rintro e w1 ⟨v1, rfl, f1, b1⟩
    have F1 := hide f1
    have B1 := hide (below_on B0.out b1)
    clear f1 b1 c1 c2 JD JF
    go_wp2_with fail
    go_ret2
    exact ⟨_, _, rfl, .inl ⟨HO.out, rfl, F1.out⟩, B1.out⟩
  · have HC : Hid (c.length ≤ 2000) := by have := HN.out; unfold Hid; omega
    have J1 := hide (JD.out (by omega) w0 B0.out)
    clear JD
    go_wp2_with fail
    refine J1.out.mono ?_
    rintro e w1 ⟨ho, b1⟩
    have B1 := hide (below_on B0.out b1)
    have hsz := B0.out.size
    clear c1 c2 J1 b1
    rcases ho with ⟨k1, rfl⟩ | ⟨k1, p, k2, rfl⟩ | ⟨k1, k2, v, rfl, k3⟩
    · have K1 := hide k1
      clear k1
      go_wp2_with fail
      refine (JF.out _ _ _).mono ?_
      rintro e w2 ⟨v2, rfl, f2, b2⟩
      have F2 := hide f2
      have B2 := hide (below_on B1.out b2)
      clear f2 b2 JF
      go_wp2_with fail
      go_ret2
      exact ⟨_, _, rfl, .inr (.inl ⟨K1.out, rfl, F2.out⟩), B2.out⟩
    · have K1 := hide k1
      have K2 := hide k2
      have hw : wrR 150 151 153 fs c p ≠ 0 := k2.2.1.2
      obtain ⟨wv, hwv⟩ : ∃ x, x = wrR 150 151 153 fs c p := ⟨_, rfl⟩
      have HWV := hide hwv
      rw [← hwv] at hw ⊢
      have f1 : (wv != 0) = true := by simp [hw]
      clear k1 k2 hwv hw
      go_wp2_with fail
      refine (JF.out _ _ _).mono ?_
      rintro e w2 ⟨v2, rfl, f2, b2⟩
      have F2 := hide f2
      have B2 := hide (below_on B1.out b2)
      clear f2 b2 JF
      go_wp2_with fail
      go_ret2
      exact ⟨_, _, rfl, .inr (.inr (.inl ⟨HC.out, K1.out, p, K2.out, rfl, HWV.out ▸ F2.out⟩)), B2.out⟩
    · have K1 := hide k1
      have K2 := hide k2
      have K3 := hide (own_lower k3 hsz)
      obtain ⟨av, cv, rfl⟩ := own_len k3
      clear k1 k2 k3
      go_wp2_with fail
      go_ret2
      exact ⟨_, _, rfl, .inr (.inr (.inr ⟨HC.out, K1.out, K2.out, rfl, K3.out⟩)), B1.out⟩
end Go.Proofs.YtfkhhplcogedmaaGreatDoor

/-
  Verify: a program's routines.
-/
namespace Go.Proofs.YtfkhhplcogedmaaGreatDoor
open Go.RowKit
set_option maxRecDepth 100000
/-- A routine, at its place. -/
structure Ro where
  rt : Rt
  pl : Nat
  sy : Bool
  re : List Int
  wr : List Int
def roS (l : List Sy) : List Ro := l.mapIdx fun i s => ⟨s.run, sumS (l.take i), true, s.re, s.wr⟩
def roF (k : Nat) (l : List Rt) : List Ro := l.mapIdx fun i r => ⟨r, k + sumR (l.take i), false, [], []⟩
def rosOf (p : Pg) : List Ro := roS p.sys ++ roF (sumS p.sys) p.fns
theorem roS_len (l : List Sy) : (roS l).length = l.length := by simp [roS]
theorem roF_len (k : Nat) (l : List Rt) : (roF k l).length = l.length := by simp [roF]
theorem rosOf_len (p : Pg) : (rosOf p).length = p.sys.length + p.fns.length := by rw [rosOf, List.length_append, roS_len, roF_len]
theorem roS_at {l : List Sy} {i : Nat} (h : i < l.length) : (roS l)[i]'(by rw [roS_len]; exact h) = ⟨l[i].run, sumS (l.take i), true, l[i].re, l[i].wr⟩ := by simp [roS]
theorem roF_at {k : Nat} {l : List Rt} {i : Nat} (h : i < l.length) : (roF k l)[i]'(by rw [roF_len]; exact h) = ⟨l[i], k + sumR (l.take i), false, [], []⟩ := by simp [roF]
/-- A routine in memory. -/
structure Rv where
  ro : Ro
  vc : Value
  vr : Value
  vw : Value
  vd : Value
def rvC (x : Rv) : List Value := [.string x.ro.rt.name, .int .i64 x.ro.rt.pa, .int .i64 x.ro.rt.lo, x.vc, .int .i64 (x.ro.pl : Int), .bool x.ro.sy, x.vr, x.vw, x.vd]
def rvs : List Rv → List Value
  | [] => []
  | x :: t => rvC x ++ rvs t
theorem rvs_len : ∀ l : List Rv, (rvs l).length = l.length * 9
  | [] => rfl
  | x :: t => by simp [rvs, rvC, rvs_len t]; omega
theorem rvs_append : ∀ a b : List Rv, rvs (a ++ b) = rvs a ++ rvs b
  | [], _ => rfl
  | x :: t, b => by simp [rvs, rvs_append t b]
theorem rvs_at : ∀ {l : List Rv} {i : Nat} (h : i < l.length) {j : Nat} (_ : j < 9), (rvs l)[i * 9 + j]? = (rvC l[i])[j]?
  | x :: t, 0, _, j, hj => by
    simp only [rvs, Nat.zero_mul, Nat.zero_add, List.getElem_cons_zero]
    rw [List.getElem?_append_left (by simpa [rvC] using hj)]
  | x :: t, i + 1, h, j, hj => by
    simp only [rvs, List.getElem_cons_succ]
    have e : (rvC x).length = 9 := rfl
    rw [List.getElem?_append_right (by rw [e]; omega), e, show (i + 1) * 9 + j - 9 = i * 9 + j by omega]
    exact rvs_at (by simpa using h) hj
/-- What a routine in memory is read as. -/
structure RvOk (Q : Nat → Prop) (W : World) (x : Rv) : Prop where
  co : Il Q W x.vc x.ro.rt.code
  re : Nl Q W x.vr x.ro.re
  wr : Nl Q W x.vw x.ro.wr
  pa : I6 x.ro.rt.pa
  lo : I6 x.ro.rt.lo
  vd : ∃ a n c, x.vd = .slice a n c
theorem RvOk.later {Q : Nat → Prop} {W W' : World} {x : Rv} (h : RvOk Q W x) (hb : Below W.heap.size W W') : RvOk Q W' x := ⟨h.co.later hb, h.re.later hb, h.wr.later hb, h.pa, h.lo, h.vd⟩
theorem infoRo : (Tryz.prog.info? 109).map (fun i => (i.zero, i.size, i.bytes)) = some (some (.agg #[.string ⟨#[]⟩, .int .i64 0, .int .i64 0, .slice none 0 0, .int .i64 0, .bool false, .slice none 0 0, .slice none 0 0, .slice none 0 0]), 9, 144) := by kernel_rfl
theorem Nl.nil (Q : Nat → Prop) (W : World) : Nl Q W (.slice none 0 0) [] := ⟨none, 0, rfl, Nat.le_refl _, Nat.zero_le _, fun h => absurd h (by simp)⟩
/-- The routines that are laid so far. -/
structure Rl (Q : Nat → Prop) (w : World) (ros : List Ro) (v : Value) (W : World) : Prop where
  ex : ∃ L : List Rv, L.map Rv.ro = ros ∧ (∀ x ∈ L, RvOk Q w x ∧ x.vd = .slice none 0 0) ∧ W.ownsRow w.heap.size 109 9 v ros.length (rvs L)
  below : Below w.heap.size w W
theorem Rl.mk' {Q : Nat → Prop} {w w' : World} {ros : List Ro} {L : List Rv} {m : Nat} {v' : Value} {x : Rv} (hm : m = ros.length) (h1 : L.map Rv.ro = ros) (h2 : ∀ x ∈ L, RvOk Q w x ∧ x.vd = .slice none 0 0) (hx : RvOk Q w x ∧ x.vd = .slice none 0 0) (ho : w'.ownsRow w.heap.size 109 9 v' (m + 1) (rvs L ++ rvC x)) (hb : Below w.heap.size w w') : Rl Q w (ros ++ [x.ro]) v' w' := by
  refine ⟨⟨L ++ [x], by rw [List.map_append, h1]; rfl, fun y hy => ?_, ?_⟩, hb⟩
  · rw [List.mem_append, List.mem_singleton] at hy
    rcases hy with hy | rfl
    · exact h2 y hy
    · exact hx
  · rw [List.length_append, List.length_singleton, rvs_append, ← hm]
    simpa [rvs] using ho
set_option maxHeartbeats 8000000 in
theorem routinesof_at {Q : Nat → Prop} {w : World} {ns cs nf cf : Nat} {sa fa : Option Addr} (sys : List Sy) (fns : List Rt) (hns : ns = sys.length) (hnf : nf = fns.length) (hc1 : ns ≤ cs) (_hc2 : cs ≤ 9223372036854775807) (_hc3 : nf ≤ cf) (_hc4 : cf ≤ 9223372036854775807) (hS : Sys Q w (.slice sa ns cs) sys) (hF : Rts Q w (.slice fa nf cf) fns) (hn1 : ns ≤ 16) (hn2 : nf ≤ 16) (hsum : sumS sys + sumR fns ≤ 2000) :
    Calls Tryz.prog 22 #[.agg #[.slice sa ns cs, .slice fa nf cf]] w fun e w' => ∃ v, e = .returned v ∧ Rl Q w (rosOf ⟨sys, fns⟩) v w' := by
  obtain ⟨ir, hir, hr0, hr1, hr2⟩ := info_parts infoRo
  have HS := hide hS
  have HF := hide hF
  have HNS := hide hns
  have HNF := hide hnf
  have HSUM := hide hsum
  obtain ⟨w0, hw0⟩ : ∃ X, X = w.alloc (.cells #[.slice sa ns cs, .slice fa nf cf] 25) := ⟨_, rfl⟩
  have B0 : Hid (Below w.heap.size w w0) := by unfold Hid; rw [hw0]; exact below_alloc w _
  obtain ⟨gp, hgp⟩ : ∃ x, x = w.heap.size := ⟨_, rfl⟩
  have HGP := hide hgp
  have k0 : w0.heap[gp]? = some (.cells #[.slice sa ns cs, .slice fa nf cf] 25 (0, 0)) := by rw [hw0, hgp]; exact heap_alloc_new w _
  have K0 : Hid (∀ W, Below w0.heap.size w0 W → W.cell? ⟨gp, 0, none⟩ = some (.slice sa ns cs) ∧ W.cell? ⟨gp, 1, none⟩ = some (.slice fa nf cf)) := fun W hW => by
    have e := (hW.block gp (lt_of_block k0)).trans k0
    exact ⟨by rw [cell_of_row W _ _ _ 25 (0, 0) e]; rfl, by rw [cell_of_row W _ _ _ 25 (0, 0) e]; rfl⟩
  obtain ⟨c0, c1⟩ := K0.out w0 (Below.refl _ _)
  have KG := hide k0
  clear hS hF hns hnf k0 hsum
  go_enter Tryz.func22, Tryz.ntmps22
  go_upto_region 3 with fail
  rw [← hw0, ← hgp]
  clear hw0 hgp
  have R0 : Hid (Rl Q w ((roS sys).take 0) (.slice none 0 0) w0) := ⟨⟨[], rfl, fun x hx => absurd hx (by simp), World.ownsRow_nil _ _ _ _⟩, B0.out⟩
  go_wp2_with fail
  clear c0 c1
  go_loopw [3, 4, 12] (fun v3 v4 v12 W => ∃ i : Nat, i ≤ ns ∧ v12 = .int .i64 (i : Int) ∧ v4 = .int .i64 ((sumS (sys.take i) : Nat) : Int) ∧ Hid (Rl Q w ((roS sys).take i) v3 W) ∧ Hid (W.heap[gp]? = some (.cells #[.slice sa ns cs, .slice fa nf cf] 25 (0, 0)))) (fun _ _ v12 _ => ns - (intOf v12).toNat)
  case atStart => exact ⟨0, Nat.zero_le _, rfl, by simp [sumS], R0, KG⟩
  case round =>
    obtain ⟨i, hi, rfl, rfl, HR, HB⟩ := hrel
    clear R0
    by_cases hlt : i < ns
    · have t1 : (i : Int) < (ns : Int) := by omega
      have his : i < sys.length := by have := HNS.out; omega
      obtain ⟨g, o, rfl, -, hat⟩ := HS.out.nth his
      obtain ⟨a1, a2, a3, a4, a5, n1, n2, n3, n4, n5, k1, k2, k3, k4, k5, HV, y1, y2, y3, y4, y5, y6, y7, y8⟩ := hat.vs
      have hM := Mv.of_below HR.out.below (fun _ => False)
      have z1 := hM.cell y1 id
      have z2 := hM.cell y2 id
      have z3 := hM.cell y3 id
      have z4 := hM.cell y4 id
      have z5 := hM.cell y5 id
      have z6 := hM.cell y6 id
      have z7 := hM.cell y7 id
      have z8 := hM.cell y8 id
      have HT : Hid ((roS sys).take (i + 1) = (roS sys).take i ++ [⟨sys[i].run, sumS (sys.take i), true, sys[i].re, sys[i].wr⟩]) := by
        unfold Hid
        rw [List.take_succ_eq_append_getElem (by rw [roS_len]; exact his), roS_at his]
      have HSS : Hid (sumS (sys.take (i + 1)) = sumS (sys.take i) + n5) := by
        unfold Hid
        rw [sumS_snoc his, HV.ln]
      have HLE : Hid (sumS (sys.take i) + n5 ≤ 2000) := by
        have h1 := HSS.out
        have h2 := HSUM.out
        have h3 : sumS (sys.take (i + 1)) ≤ sumS sys := by
          have h := congrArg sumS (List.take_append_drop (i + 1) sys)
          simp only [sumS, List.map_append, List.sum_append] at h ⊢
          omega
        unfold Hid
        omega
      have HRV : Hid (RvOk Q w ⟨⟨sys[i].run, sumS (sys.take i), true, sys[i].re, sys[i].wr⟩, .slice a5 n5 k5, .slice a3 n3 k3, .slice a4 n4 k4, .slice none 0 0⟩ ∧ (Value.slice none 0 0) = .slice none 0 0) := ⟨⟨HV.co, HV.re, HV.wr, HV.pa, HV.lo, _, _, _, rfl⟩, rfl⟩
      have hle5 := HV.le
      have hcp5 := HV.cp
      clear hat HV hM y1 y2 y3 y4 y5 y6 y7 y8
      generalize sys[i] = s at *
      obtain ⟨wi, wo, re, wrt, nm, pa, lo, code⟩ := s
      dsimp only at z1 z2 z3 z4 z5 z6 z7 z8 HT HRV
      obtain ⟨sm, hsm⟩ : ∃ x, x = sumS (sys.take i) := ⟨_, rfl⟩
      rw [← hsm] at HT HSS HLE HRV ⊢
      have hsm5 : sm + n5 ≤ 2000 := HLE.out
      obtain ⟨rl, hrl⟩ : ∃ x, x = (roS sys).take i := ⟨_, rfl⟩
      rw [← hrl] at HR HT
      have hrl16 : rl.length ≤ 16 := by rw [hrl, List.length_take]; omega
      clear hsm hrl
      obtain ⟨L, l1, l2, l3⟩ := HR.out.ex
      obtain ⟨m3, hm3⟩ : ∃ x, x = rl.length := ⟨_, rfl⟩
      rw [← hm3] at l3 hrl16
      have HM3 := hide hm3
      have OL := hide l3
      obtain ⟨b3, e3, rfl⟩ := own_len l3
      have L12 : Hid (L.map Rv.ro = rl ∧ ∀ x ∈ L, RvOk Q w x ∧ x.vd = .slice none 0 0) := ⟨l1, l2⟩
      have hsz := HR.out.below.size
      clear l1 l2 l3 hm3
      go_upto_region 6 with fail
      obtain ⟨g6, hg6⟩ : ∃ x, x = wr.heap.size := ⟨_, rfl⟩
      obtain ⟨W1, hW1⟩ : ∃ X, X = wr.alloc (.cells #[.slice a1 n1 k1, .slice a2 n2 k2, .slice a3 n3 k3, .slice a4 n4 k4, .string nm, .int .i64 pa, .int .i64 lo, .slice a5 n5 k5] 38) := ⟨_, rfl⟩
      have b1 : Below wr.heap.size wr W1 := hW1 ▸ below_alloc wr _
      have k6 : W1.heap[g6]? = some (.cells #[.slice a1 n1 k1, .slice a2 n2 k2, .slice a3 n3 k3, .slice a4 n4 k4, .string nm, .int .i64 pa, .int .i64 lo, .slice a5 n5 k5] 38 (0, 0)) := by rw [hW1, hg6]; exact heap_alloc_new wr _
      rw [← hW1, ← hg6]
      have B1 := hide b1
      have K6 := hide k6
      obtain ⟨x1, x2, x3, x4, x5, x6, x7, x8⟩ := row8 k6
      obtain ⟨W2, hW2⟩ : ∃ X, X = W1.alloc (.cells #[.string nm, .int .i64 pa, .int .i64 lo, .slice a5 n5 k5, .int .i64 (sm : Int), .bool true, .slice a3 n3 k3, .slice a4 n4 k4, .slice none 0 0] 109) := ⟨_, rfl⟩
      have b2 : Below W1.heap.size W1 W2 := hW2 ▸ below_alloc W1 _
      have O2 : Hid (W2.ownsRow w.heap.size 109 9 (.slice b3 m3 e3) m3 (rvs L)) := own_later OL.out (below_on b1 b2)
      have NW : Hid (∀ j u, [Value.string nm, .int .i64 pa, .int .i64 lo, .slice a5 n5 k5, .int .i64 (sm : Int), .bool true, .slice a3 n3 k3, .slice a4 n4 k4, .slice none 0 0][j]? = some u → W2.cell? ((⟨W1.heap.size, 0, none⟩ : Addr).add j) = some u) := by
        unfold Hid
        rw [hW2]
        exact World.news_of_block (heap_alloc_new W1 _)
      have B2 := hide b2
      have HW2 := hide hW2
      have SZ2 : Hid (w.heap.size ≤ W2.heap.size) := by have := b1.size; have := b2.size; unfold Hid; omega
      clear hW1 hg6 b1 k6 z1 z2 z3 z4 z5 z6 z7 z8 hW2 b2
      go_wp2_with (at_builtin; rw [← HW2.out]; refine wpList_append_lies _ rfl _ _ 72 rfl w.heap.size 109 ir (.agg #[.string ⟨#[]⟩, .int .i64 0, .int .i64 0, .slice none 0 0, .int .i64 0, .bool false, .slice none 0 0, .slice none 0 0, .slice none 0 0]) 9 144 Tryz.underlying72 hir hr0 hr1 hr2 rfl (by decide) (.slice b3 m3 e3) m3 (rvs L) rfl O2.out ⟨W1.heap.size, 0, none⟩ 1 1 [.string nm, .int .i64 pa, .int .i64 lo, .slice a5 n5 k5, .int .i64 (sm : Int), .bool true, .slice a3 n3 k3, .slice a4 n4 k4, .slice none 0 0] rfl rfl NW.out (by intro u hu; simp at hu; rcases hu with rfl | rfl | rfl | rfl | rfl | rfl | rfl | rfl | rfl <;> rfl) (by omega) (by unfold maxLen; omega) (by omega) SZ2.out _ rfl ?_)
      intro g9 c9 w9 ho9 hg9 hw9 _
      have n6 : Value.ownBlock (.slice b3 m3 e3) ≠ some g6 := own_not (own_later OL.out B1.out) K6.out (by decide)
      have k9 : w9.heap[g6]? = some (.cells #[.slice a1 n1 k1, .slice a2 n2 k2, .slice a3 n3 k3, .slice a4 n4 k4, .string nm, .int .i64 pa, .int .i64 lo, .slice a5 n5 k5] 38 (0, 0)) := (hg9.block g6 (Nat.lt_of_lt_of_le (lt_of_block K6.out) B2.out.size) (fun e => n6 e.symm)).trans ((B2.out.block g6 (lt_of_block K6.out)).trans K6.out)
      have c9' := (row8 k9).2.2.2.2.2.2.2
      have BW : Hid (Below w.heap.size w w9) := by
        have hb := below_on HR.out.below (below_on B1.out B2.out)
        exact hb.grown hg9 hb.size (fun k e => (O2.out.lt k e).1)
      have BX : Hid (w9.heap[gp]? = some (.cells #[.slice (some ⟨g, o, none⟩) ns cs, .slice fa nf cf] 25 (0, 0))) := by
        have hb := below_on B1.out B2.out
        have h1 := (hb.block gp (lt_of_block HB.out)).trans HB.out
        exact (hg9.block gp (lt_of_block h1) (fun e => own_not O2.out h1 (by decide) e.symm)).trans h1
      have RN : Hid (Rl Q w ((roS sys).take (i + 1)) (.slice (some ⟨g9, 0, none⟩) (m3 + 1) c9) w9) := by
        unfold Hid
        rw [HT.out]
        exact Rl.mk' (x := ⟨⟨⟨nm, pa, lo, code⟩, sm, true, re, wrt⟩, .slice a5 n5 k5, .slice a3 n3 k3, .slice a4 n4 k4, .slice none 0 0⟩) HM3.out L12.out.1 L12.out.2 ⟨HRV.out.1, rfl⟩ ho9 BW.out
      have t5 : (sm : Int) + (n5 : Int) ≤ 2000 := by omega
      clear x1 x2 x3 x4 x5 x6 x7 x8 ho9 hg9 hw9 k9 n6 O2 NW OL K6 HR HB B1 B2 SZ2 HW2
      go_wp2_with fail
      go_roundw
      case rel => exact ⟨i + 1, by omega, by go_num, by rw [HSS.out]; go_num, RN, BX⟩
      case measure => simp [intOf]; omega
    · have t1 : ¬ (i : Int) < (ns : Int) := by omega
      obtain rfl : i = ns := by omega
      have hgc : wr.cell? ⟨gp, 1, none⟩ = some (.slice fa nf cf) := by rw [cell_of_row wr _ _ _ 25 (0, 0) HB.out]; rfl
      have hall : sumS (sys.take i) = sumS sys := by rw [HNS.out, List.take_length]
      have hall2 : (roS sys).take i = roS sys := by rw [HNS.out, List.take_of_length_le (by rw [roS_len]; exact Nat.le_refl _)]
      rw [hall2] at HR
      rw [hall]
      obtain ⟨sm, hsm⟩ : ∃ x, x = sumS sys := ⟨_, rfl⟩
      have HSM := hide hsm
      rw [← hsm]
      obtain ⟨L, l1, l2, l3⟩ := HR.out.ex
      obtain ⟨b3, e3, rfl⟩ := own_len l3
      clear l1 l2 l3
      have R1 : Hid (Rl Q w (roS sys ++ (roF sm fns).take 0) (.slice b3 (roS sys).length e3) wr) := by unfold Hid; rw [List.take_zero, List.append_nil]; exact HR.out
      clear hsm hall hall2 HR HB
      go_wp2_with fail
      clear hgc
      go_loopw [3, 4, 37] (fun v3 v4 v37 W => ∃ i : Nat, i ≤ nf ∧ v37 = .int .i64 (i : Int) ∧ v4 = .int .i64 ((sm + sumR (fns.take i) : Nat) : Int) ∧ Hid (Rl Q w (roS sys ++ (roF sm fns).take i) v3 W)) (fun _ _ v37 _ => nf - (intOf v37).toNat)
      case atStart => exact ⟨0, Nat.zero_le _, rfl, by simp [sumR], R1⟩
      case round =>
        obtain ⟨j, hj, rfl, rfl, HR⟩ := hrel
        clear R1
        obtain ⟨L, l1, l2, l3⟩ := HR.out.ex
        obtain ⟨m3, hm3⟩ : ∃ x, x = (roS sys ++ (roF sm fns).take j).length := ⟨_, rfl⟩
        rw [← hm3] at l3
        have HM3 := hide hm3
        have OL := hide l3
        obtain ⟨b4, e4, rfl⟩ := own_len l3
        have L12 : Hid (L.map Rv.ro = roS sys ++ (roF sm fns).take j ∧ ∀ x ∈ L, RvOk Q w x ∧ x.vd = .slice none 0 0) := ⟨l1, l2⟩
        have hm32 : m3 ≤ 32 := by rw [hm3, List.length_append, roS_len, List.length_take, roF_len]; have := HNS.out; omega
        have hsz := HR.out.below.size
        clear l1 l2 l3 hm3
        by_cases hlt : j < nf
        · have u1 : (j : Int) < (nf : Int) := by omega
          have hjf : j < fns.length := by have := HNF.out; omega
          obtain ⟨g, o, rfl, -, ip, il, vc, y1, y2, y3, y4, y5⟩ := HF.out.nth hjf
          have hM := Mv.of_below HR.out.below (fun _ => False)
          have z1 := hM.cell y1 id
          have z2 := hM.cell y2 id
          have z3 := hM.cell y3 id
          have z4 := hM.cell y4 id
          obtain ⟨n5, hn5⟩ : ∃ x, x = fns[j].code.length := ⟨_, rfl⟩
          obtain ⟨a5, k5, rfl, hle5, hcp5⟩ := y5.at
          have HT : Hid (roS sys ++ (roF sm fns).take (j + 1) = (roS sys ++ (roF sm fns).take j) ++ [⟨fns[j], sm + sumR (fns.take j), false, [], []⟩]) := by
            unfold Hid
            rw [List.take_succ_eq_append_getElem (by rw [roF_len]; exact hjf), roF_at hjf, List.append_assoc]
          have HSS : Hid (sumR (fns.take (j + 1)) = sumR (fns.take j) + n5) := by
            unfold Hid
            rw [sumR_snoc hjf, hn5]
          have HLE : Hid (sm + sumR (fns.take j) + n5 ≤ 2000) := by
            have h1 := HSS.out
            have h2 := HSUM.out
            have h4 := HSM.out
            have h3 : sumR (fns.take (j + 1)) ≤ sumR fns := by
              have h := congrArg sumR (List.take_append_drop (j + 1) fns)
              simp only [sumR, List.map_append, List.sum_append] at h ⊢
              omega
            unfold Hid
            omega
          have HRV : Hid (RvOk Q w ⟨⟨fns[j], sm + sumR (fns.take j), false, [], []⟩, .slice a5 fns[j].code.length k5, .slice none 0 0, .slice none 0 0, .slice none 0 0⟩) := ⟨y5, Nl.nil _ _, Nl.nil _ _, ip, il, _, _, _, rfl⟩
          rw [← hn5] at HRV z4 hle5
          clear hM y1 y2 y3 y4 y5 hn5 ip il
          generalize fns[j] = rt at *
          obtain ⟨nm, pa, lo, code⟩ := rt
          dsimp only at z1 z2 z3 z4 HT HRV
          obtain ⟨sr, hsr⟩ : ∃ x, x = sm + sumR (fns.take j) := ⟨_, rfl⟩
          rw [← hsr] at HT HLE HRV ⊢
          have hsm5 : sr + n5 ≤ 2000 := HLE.out
          have HSR := hide hsr
          clear hsr
          go_upto_region 12 with fail
          obtain ⟨g6, hg6⟩ : ∃ x, x = wr.heap.size := ⟨_, rfl⟩
          obtain ⟨W1, hW1⟩ : ∃ X, X = wr.alloc (.cells #[.string nm, .int .i64 pa, .int .i64 lo, .slice a5 n5 k5] 35) := ⟨_, rfl⟩
          have b1 : Below wr.heap.size wr W1 := hW1 ▸ below_alloc wr _
          have k6 : W1.heap[g6]? = some (.cells #[.string nm, .int .i64 pa, .int .i64 lo, .slice a5 n5 k5] 35 (0, 0)) := by rw [hW1, hg6]; exact heap_alloc_new wr _
          rw [← hW1, ← hg6]
          have B1 := hide b1
          have K6 := hide k6
          obtain ⟨x1, x2, x3, x4⟩ := row4 k6
          obtain ⟨W2, hW2⟩ : ∃ X, X = W1.alloc (.cells #[.string nm, .int .i64 pa, .int .i64 lo, .slice a5 n5 k5, .int .i64 (sr : Int), .bool false, .slice none 0 0, .slice none 0 0, .slice none 0 0] 109) := ⟨_, rfl⟩
          have b2 : Below W1.heap.size W1 W2 := hW2 ▸ below_alloc W1 _
          have O2 : Hid (W2.ownsRow w.heap.size 109 9 (.slice b4 m3 e4) m3 (rvs L)) := own_later OL.out (below_on b1 b2)
          have NW : Hid (∀ j u, [Value.string nm, .int .i64 pa, .int .i64 lo, .slice a5 n5 k5, .int .i64 (sr : Int), .bool false, .slice none 0 0, .slice none 0 0, .slice none 0 0][j]? = some u → W2.cell? ((⟨W1.heap.size, 0, none⟩ : Addr).add j) = some u) := by
            unfold Hid
            rw [hW2]
            exact World.news_of_block (heap_alloc_new W1 _)
          have B2 := hide b2
          have HW2 := hide hW2
          have SZ2 : Hid (w.heap.size ≤ W2.heap.size) := by have := b1.size; have := b2.size; unfold Hid; omega
          clear hW1 hg6 b1 k6 z1 z2 z3 z4 hW2 b2
          go_wp2_with (at_builtin; rw [← HW2.out]; refine wpList_append_lies _ rfl _ _ 72 rfl w.heap.size 109 ir (.agg #[.string ⟨#[]⟩, .int .i64 0, .int .i64 0, .slice none 0 0, .int .i64 0, .bool false, .slice none 0 0, .slice none 0 0, .slice none 0 0]) 9 144 Tryz.underlying72 hir hr0 hr1 hr2 rfl (by decide) (.slice b4 m3 e4) m3 (rvs L) rfl O2.out ⟨W1.heap.size, 0, none⟩ 1 1 [.string nm, .int .i64 pa, .int .i64 lo, .slice a5 n5 k5, .int .i64 (sr : Int), .bool false, .slice none 0 0, .slice none 0 0, .slice none 0 0] rfl rfl NW.out (by intro u hu; simp at hu; rcases hu with rfl | rfl | rfl | rfl | rfl | rfl | rfl <;> rfl) (by omega) (by unfold maxLen; omega) (by omega) SZ2.out _ rfl ?_)
          intro g9 c9 w9 ho9 hg9 hw9 _
          have n6 : Value.ownBlock (.slice b4 m3 e4) ≠ some g6 := own_not (own_later OL.out B1.out) K6.out (by decide)
          have k9 : w9.heap[g6]? = some (.cells #[.string nm, .int .i64 pa, .int .i64 lo, .slice a5 n5 k5] 35 (0, 0)) := (hg9.block g6 (Nat.lt_of_lt_of_le (lt_of_block K6.out) B2.out.size) (fun e => n6 e.symm)).trans ((B2.out.block g6 (lt_of_block K6.out)).trans K6.out)
          have c9' := (row4 k9).2.2.2
          have BW : Hid (Below w.heap.size w w9) := by
            have hb := below_on HR.out.below (below_on B1.out B2.out)
            exact hb.grown hg9 hb.size (fun k e => (O2.out.lt k e).1)
          have RN : Hid (Rl Q w (roS sys ++ (roF sm fns).take (j + 1)) (.slice (some ⟨g9, 0, none⟩) (m3 + 1) c9) w9) := by
            unfold Hid
            rw [HT.out]
            exact Rl.mk' (x := ⟨⟨⟨nm, pa, lo, code⟩, sr, false, [], []⟩, .slice a5 n5 k5, .slice none 0 0, .slice none 0 0, .slice none 0 0⟩) HM3.out L12.out.1 L12.out.2 ⟨HRV.out, rfl⟩ ho9 BW.out
          have t5 : (sr : Int) + (n5 : Int) ≤ 2000 := by omega
          clear x1 x2 x3 x4 ho9 hg9 hw9 k9 n6 O2 NW OL K6 HR B1 B2 SZ2 HW2
          go_wp2_with fail
          go_roundw
          case rel => exact ⟨j + 1, by omega, by go_num, by rw [HSS.out, ← Nat.add_assoc, ← HSR.out]; go_num, RN⟩
          case measure => simp [intOf]; omega
        · have u1 : ¬ (j : Int) < (nf : Int) := by omega
          have RF : Hid (Rl Q w (rosOf ⟨sys, fns⟩) (.slice b4 m3 e4) wr) := by
            have e : (roF sm fns).take j = roF sm fns := List.take_of_length_le (by rw [roF_len]; have := HNF.out; omega)
            have h1 := HR.out
            rw [e, HSM.out] at h1
            exact h1
          clear HR OL
          go_wp2_with fail
          go_ret
          exact ⟨_, rfl, RF.out⟩
end Go.Proofs.YtfkhhplcogedmaaGreatDoor
