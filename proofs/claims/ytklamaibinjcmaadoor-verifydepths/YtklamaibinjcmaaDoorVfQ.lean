/-
  Verify: fault, Depths.
-/
import Derived.Test.YtklamaibinjcmaaDoorVfO
import Derived.Test.YtklamaibinjcmaaDoorEnE
namespace Go.Proofs.YtklamaibinjcmaaDoor
open Go.RowKit
set_option maxRecDepth 100000
/-- An error: none, or a fault at a place. -/
def Flt (W : World) (v : Value) : Option (Int × Int) → Prop
  | none => v = .nilIface
  | some (a, e) => ∃ g, v = .iface 73 (.pointer (some ⟨g, 0, none⟩)) ∧ W.heap[g]? = some (.cells #[.int .i64 a, .int .i64 e] 76 (0, 0))
theorem Flt.later {W W' : World} {v : Value} {o : Option (Int × Int)} (h : Flt W v o) (hb : Below W.heap.size W W') : Flt W' v o := by
  cases o with
  | none => exact h
  | some x =>
    obtain ⟨a, e⟩ := x
    obtain ⟨g, h1, h2⟩ := h
    exact ⟨g, h1, (hb.block g (lt_of_block h2)).trans h2⟩
theorem fault_any (a e : Int) (W : World) : Calls Tryd.prog 23 #[.int .i64 a, .int .i64 e] W fun en w' => ∃ v, en = .returned v ∧ Flt w' v (some (a, e)) ∧ Below W.heap.size W w' := by
  go_enter Tryd.func23, Tryd.ntmps23
  go_wp2_with fail
  go_ret
  exact ⟨_, rfl, ⟨_, rfl, heap_alloc_new W _⟩, below_alloc W _⟩
/-- What Depths answers. -/
def DpsOut (B : Nat) (fs : List Rt) (c : List Ins) (w' : World) (v ve : Value) : Prop :=
  (2000 < c.length ∧ v = .slice none 0 0 ∧ Flt w' ve (some (0, 130))) ∨
  (c = [] ∧ v = .slice none 0 0 ∧ Flt w' ve (some (0, 153))) ∨
  (c.length ≤ 2000 ∧ c ≠ [] ∧ ∃ p, Dpo 150 151 153 fs c (some p) ∧ v = .slice none 0 0 ∧ Flt w' ve (some ((p : Int), wrR 150 151 153 fs c p))) ∨
  (c.length ≤ 2000 ∧ c ≠ [] ∧ Dpo 150 151 153 fs c none ∧ ve = .nilIface ∧ w'.ownsRow B 3 1 v c.length ((List.range c.length).map fun p => Value.int .i64 (dpR fs c p)))
set_option maxHeartbeats 4000000 in
theorem depthsof_any {Q : Nat → Prop} {w : World} {vs vf vc : Value} {c : List Ins} {fs : List Rt} (nm : ByteArray) (pa lo : Int) (hs : ∃ a n c, vs = .slice a n c) (h : Il Q w vc c) (hf : Rts Q w vf fs) (ht : Tb w) : Calls Tryd.prog 9 #[.agg #[vs, vf], .agg #[.string nm, .int .i64 pa, .int .i64 lo, vc]] w fun e w' => ∃ v ve, e = .returned (.tuple #[v, ve]) ∧ DpsOut w.heap.size fs c w' v ve ∧ Below w.heap.size w w' := by
  have JF : Hid (∀ a e W, Calls Tryd.prog 23 #[.int .i64 a, .int .i64 e] W fun en w' => ∃ v, en = .returned v ∧ Flt w' v (some (a, e)) ∧ Below W.heap.size W w') := fault_any
  have JD : Hid (c.length ≤ 2000 → ∀ W, Below w.heap.size w W → Calls Tryd.prog 24 #[.agg #[vc, vf]] W fun e w' => DpOut W.heap.size fs c w' e ∧ Below W.heap.size W w') := fun hc W hW => depths_any (h.later hW) (hf.later hW) (ht.later hW) hc
  obtain ⟨ao, co, rfl, h1, h2⟩ := h.at
  obtain ⟨af, cf, rfl, -, -, -⟩ := hf
  obtain ⟨as', ns, cs, rfl⟩ := hs
  obtain ⟨n, hn⟩ : ∃ n, n = c.length := ⟨_, rfl⟩
  obtain ⟨nf, hnf⟩ : ∃ n, n = fs.length := ⟨_, rfl⟩
  rw [← hn, ← hnf] at JD
  rw [← hn] at h1 ⊢
  rw [← hnf]
  have HN := hide hn
  clear h hn hnf ht
  obtain ⟨w0, hw0⟩ : ∃ X, X = (w.alloc (.cells #[.slice as' ns cs, .slice af nf cf] 25)).alloc (.cells #[.string nm, .int .i64 pa, .int .i64 lo, .slice ao n co] 28) := ⟨_, rfl⟩
  have B0 : Hid (Below w.heap.size w w0) := by unfold Hid; rw [hw0]; exact below_on (below_alloc w _) (below_alloc _ _)
  have hb : w0.heap[w.heap.size]? = some (.cells #[.slice as' ns cs, .slice af nf cf] 25 (0, 0)) := by
    rw [hw0]
    exact ((below_alloc (w.alloc (.cells #[.slice as' ns cs, .slice af nf cf] 25)) _).block w.heap.size (by simp)).trans (heap_alloc_new w _)
  have hb' : w0.heap[w.heap.size + 1]? = some (.cells #[.string nm, .int .i64 pa, .int .i64 lo, .slice ao n co] 28 (0, 0)) := by
    rw [hw0]
    have := heap_alloc_new (w.alloc (.cells #[.slice as' ns cs, .slice af nf cf] 25)) (.cells #[.string nm, .int .i64 pa, .int .i64 lo, .slice ao n co] 28)
    simpa using this
  have c1 : w0.cell? ⟨w.heap.size, 1, none⟩ = some (.slice af nf cf) := by rw [cell_of_row _ _ _ _ 25 (0, 0) hb]; rfl
  have c2 : w0.cell? ⟨w.heap.size + 1, 3, none⟩ = some (.slice ao n co) := by rw [cell_of_row _ _ _ _ 28 (0, 0) hb']; rfl
  obtain ⟨gp, hgp⟩ : ∃ x, x = w.heap.size := ⟨_, rfl⟩
  obtain ⟨gr, hgr⟩ : ∃ x, x = w.heap.size + 1 := ⟨_, rfl⟩
  rw [← hgr] at c2
  rw [← hgp] at c1
  go_enter Tryd.func9, Tryd.ntmps9
  go_upto_region 1 with fail
  rw [← hw0, ← hgr, ← hgp]
  clear hw0 hgr hgp hb hb'
  by_cases cn : (n : Int) > 2000
  · have HO : Hid (2000 < c.length) := by have := HN.out; unfold Hid; omega
    go_wp2_with fail
    refine (JF.out _ _ _).mono ?_
    rintro e w1 ⟨v1, rfl, f1, b1⟩
    have F1 := hide f1
    have B1 := hide (below_on B0.out b1)
    clear f1 b1 c1 c2 JD JF
    go_wp2_with fail
    go_ret2
    exact ⟨_, _, rfl, .inl ⟨HO.out, rfl, F1.out⟩, B1.out⟩
  · have HC : Hid (c.length ≤ 2000) := by have := HN.out; unfold Hid; omega
    have J1 := hide (JD.out (by omega) w0 B0.out)
    clear JD
    go_wp2_with fail
    refine J1.out.mono ?_
    rintro e w1 ⟨ho, b1⟩
    have B1 := hide (below_on B0.out b1)
    have hsz := B0.out.size
    clear c1 c2 J1 b1
    rcases ho with ⟨k1, rfl⟩ | ⟨k1, p, k2, rfl⟩ | ⟨k1, k2, v, rfl, k3⟩
    · have K1 := hide k1
      clear k1
      go_wp2_with fail
      refine (JF.out _ _ _).mono ?_
      rintro e w2 ⟨v2, rfl, f2, b2⟩
      have F2 := hide f2
      have B2 := hide (below_on B1.out b2)
      clear f2 b2 JF
      go_wp2_with fail
      go_ret2
      exact ⟨_, _, rfl, .inr (.inl ⟨K1.out, rfl, F2.out⟩), B2.out⟩
    · have K1 := hide k1
      have K2 := hide k2
      have hw : wrR 150 151 153 fs c p ≠ 0 := k2.2.1.2
      obtain ⟨wv, hwv⟩ : ∃ x, x = wrR 150 151 153 fs c p := ⟨_, rfl⟩
      have HWV := hide hwv
      rw [← hwv] at hw ⊢
      have f1 : (wv != 0) = true := by simp [hw]
      clear k1 k2 hwv hw
      go_wp2_with fail
      refine (JF.out _ _ _).mono ?_
      rintro e w2 ⟨v2, rfl, f2, b2⟩
      have F2 := hide f2
      have B2 := hide (below_on B1.out b2)
      clear f2 b2 JF
      go_wp2_with fail
      go_ret2
      exact ⟨_, _, rfl, .inr (.inr (.inl ⟨HC.out, K1.out, p, K2.out, rfl, HWV.out ▸ F2.out⟩)), B2.out⟩
    · have K1 := hide k1
      have K2 := hide k2
      have K3 := hide (own_lower k3 hsz)
      obtain ⟨av, cv, rfl⟩ := own_len k3
      clear k1 k2 k3
      go_wp2_with fail
      go_ret2
      exact ⟨_, _, rfl, .inr (.inr (.inr ⟨HC.out, K1.out, K2.out, rfl, K3.out⟩)), B1.out⟩
end Go.Proofs.YtklamaibinjcmaaDoor
