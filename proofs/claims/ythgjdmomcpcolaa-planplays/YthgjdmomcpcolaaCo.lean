/-
  Plan: has, Conflict.
-/
import Derived.Test.YthgjdmomcpcolaaNe
namespace Go.Proofs.Ythgjdmomcpcolaa
open Go.RowKit
set_option maxRecDepth 100000
theorem Pl.cell {w : World} {B g : Nat} {L : List Sy} (h : Pl w B g L) : ∃ ao c vs, w.cell? ⟨g, 0, none⟩ = some (.slice ao L.length c) ∧ As w B (.slice ao L.length c) vs L ∧ vs.length = L.length ∧ L.length ≤ c ∧ c ≤ 9223372036854775807 := by
  obtain ⟨va, vs, vt, rs, sts, h1, h2, -⟩ := h
  obtain ⟨ao, c, rfl⟩ := own_len h2.1
  have hc := own_cap h2.1
  have hv := h2.2.1
  rw [hv] at h1 h2 hc
  refine ⟨ao, c, vs, ?_, h2, hv, hc.1, hc.2⟩
  rw [cell_of_row w _ _ _ 66 (0, 0) h1]; rfl
theorem has_any {w : World} {B g : Nat} {L : List Sy} (h : Pl w B g L) (x : Int) : Calls Try.prog 35 #[.pointer (some ⟨g, 0, none⟩), .int .i64 x] w fun e w' => e = .returned (.bool (decide (0 ≤ x ∧ x < (L.length : Int)))) ∧ w' = w := by
  obtain ⟨ao, c, vs, c0, -⟩ := h.cell
  clear h
  go_enter Try.func35, Try.ntmps35
  by_cases h1 : 0 ≤ x
  · have t1 : x ≥ 0 := h1
    by_cases h2 : x < (L.length : Int)
    · rw [decide_eq_true ⟨h1, h2⟩]
      go_wp2_with fail
      go_ret
      exact ⟨rfl, rfl⟩
    · rw [decide_eq_false (fun e => h2 e.2)]
      go_wp2_with fail
      go_ret
      exact ⟨rfl, rfl⟩
  · rw [decide_eq_false (fun e => h1 e.1)]
    have t1 : ¬ x ≥ 0 := h1
    go_wp2_with fail
    go_ret
    exact ⟨rfl, rfl⟩
/-- Do the systems of these numbers conflict? -/
def cz (L : List Sy) (a b : Int) : Bool := decide (a ≠ b ∧ (0 ≤ a ∧ a < L.length) ∧ (0 ≤ b ∧ b < L.length)) && cn L a.toNat b.toNat
theorem cz_nat (L : List Sy) (i k : Nat) (hi : i < L.length) (hk : k < L.length) (hne : i ≠ k) : cz L (i : Int) (k : Int) = cn L i k := by
  simp only [cz]
  rw [decide_eq_true ⟨by omega, ⟨by omega, by omega⟩, by omega, by omega⟩]
  simp
set_option maxHeartbeats 4000000 in
theorem conflict_any {w : World} {B g : Nat} {L : List Sy} (h : Pl w B g L) (a b : Int) : Calls Try.prog 15 #[.pointer (some ⟨g, 0, none⟩), .int .i64 a, .int .i64 b] w fun e w' => e = .returned (.bool (cz L a b)) ∧ Below w.heap.size w w' := by
  have JA := hide (has_any h a)
  have JB := hide (has_any h b)
  have H := hide h
  by_cases hab : a = b
  · have hz : cz L a b = false := by simp [cz, hab]
    rw [hz]
    subst hab
    clear h
    go_enter Try.func15, Try.ntmps15
    go_wp2_with fail
    go_ret
    exact ⟨rfl, Below.refl _ _⟩
  · by_cases ha : 0 ≤ a ∧ a < (L.length : Int)
    · rw [decide_eq_true ha] at JA
      by_cases hb : 0 ≤ b ∧ b < (L.length : Int)
      · rw [decide_eq_true hb] at JB
        obtain ⟨i, rfl⟩ : ∃ i : Nat, a = (i : Int) := ⟨a.toNat, by omega⟩
        obtain ⟨k, rfl⟩ : ∃ k : Nat, b = (k : Int) := ⟨b.toNat, by omega⟩
        have hi : i < L.length := by omega
        have hk : k < L.length := by omega
        rw [cz_nat L i k hi hk (by omega), cn_at L i k hi hk]
        obtain ⟨ao, c, vs, c0, hA, hvl, hc1, hc2⟩ := h.cell
        obtain ⟨gv, cv', e0, -⟩ := own_form hA.1 (by omega)
        simp only [Value.slice.injEq] at e0
        obtain ⟨rfl, -, rfl⟩ := e0
        obtain ⟨p1, p2⟩ := hA.at i (by omega)
        obtain ⟨q1, q2⟩ := hA.at k (by omega)
        have hAi := hA.2.2 i (by omega) hi
        have hAk := hA.2.2 k (by omega) hk
        have hsr : ∀ s ∈ L, s.1.Pairwise (· < ·) ∧ s.2.Pairwise (· < ·) := by
          obtain ⟨va, vs, vt, rs, sts, -, -, -, -, h5, -⟩ := h
          exact h5
        have ri := hsr _ (List.getElem_mem hi)
        have rk := hsr _ (List.getElem_mem hk)
        generalize vs[i]'(by omega) = vi at *
        generalize vs[k]'(by omega) = vk at *
        generalize L[i] = si at *
        generalize L[k] = sk at *
        obtain ⟨vi1, vi2⟩ := vi
        obtain ⟨vk1, vk2⟩ := vk
        dsimp only at p1 p2 q1 q2 hAi hAk
        obtain ⟨x1, y1, rfl⟩ := own_len hAi.1
        obtain ⟨x2, y2, rfl⟩ := own_len hAi.2.1
        obtain ⟨x3, y3, rfl⟩ := own_len hAk.1
        obtain ⟨x4, y4, rfl⟩ := own_len hAk.2.1
        have t1 : ¬ (i : Int) = (k : Int) := hab
        have t2 : (i : Int) < (L.length : Int) := by omega
        have t3 : (k : Int) < (L.length : Int) := by omega
        have HAi := hide hAi
        have HAk := hide hAk
        clear hA hAi hAk hsr h
        go_enter Try.func15, Try.ntmps15
        go_wp2_with fail
        refine JA.out.mono ?_
        rintro e w1 ⟨rfl, rfl⟩
        go_wp2_with fail
        refine JB.out.mono ?_
        rintro e w2 ⟨rfl, rfl⟩
        have hik : ((i : Int) == (k : Int)) = false := by simpa using t1
        rw [hik]
        have g1 : g < w2.heap.size := World.block_lt_of_cell? w2 _ c0
        have g2 : gv < w2.heap.size := World.block_lt_of_cell? w2 _ p1
        have m1 : ¬ g = w2.heap.size := by omega
        have m2 : ¬ g = w2.heap.size + 1 := by omega
        have m3 : ¬ gv = w2.heap.size := by omega
        have m4 : ¬ gv = w2.heap.size + 1 := by omega
        go_wp2_with fail
        have JM1 : Hid (∀ V, Below w2.heap.size w2 V → Calls Try.prog 38 #[.slice x2 si.2.length y2, .slice x4 sk.2.length y4] V fun e w' => e = .returned (.bool (meets si.2 sk.2)) ∧ Below V.heap.size V w') := fun V hV => meet_any (Rl.of (own_later HAi.out.2.1 hV)) (Rl.of (own_later HAk.out.2.1 hV)) ri.2 rk.2
        have JM2 : Hid (∀ V, Below w2.heap.size w2 V → Calls Try.prog 38 #[.slice x2 si.2.length y2, .slice x3 sk.1.length y3] V fun e w' => e = .returned (.bool (meets si.2 sk.1)) ∧ Below V.heap.size V w') := fun V hV => meet_any (Rl.of (own_later HAi.out.2.1 hV)) (Rl.of (own_later HAk.out.1 hV)) ri.2 rk.1
        have JM3 : Hid (∀ V, Below w2.heap.size w2 V → Calls Try.prog 38 #[.slice x1 si.1.length y1, .slice x4 sk.2.length y4] V fun e w' => e = .returned (.bool (meets si.1 sk.2)) ∧ Below V.heap.size V w') := fun V hV => meet_any (Rl.of (own_later HAi.out.1 hV)) (Rl.of (own_later HAk.out.2.1 hV)) ri.1 rk.2
        clear JA JB H ri rk HAi HAk
        go_region
        · obtain ⟨W, hW⟩ : ∃ X, X = ((w2.alloc (Obj.cells #[Value.slice x1 si.1.length y1, Value.slice x2 si.2.length y2] 74)).alloc (Obj.cells #[Value.slice x3 sk.1.length y3, Value.slice x4 sk.2.length y4] 74)).drew := ⟨_, rfl⟩
          rw [← hW]
          have hbW : Below w2.heap.size w2 W := by
            rw [hW]
            exact below_on (below_on (below_alloc w2 _) (below_alloc _ _)) (below_drew _)
          have hA : W.heap[w2.heap.size]? = some (.cells #[Value.slice x1 si.1.length y1, Value.slice x2 si.2.length y2] 74 (0, 0)) := by
            rw [hW]
            have := (below_alloc (w2.alloc (Obj.cells #[Value.slice x1 si.1.length y1, Value.slice x2 si.2.length y2] 74)) (Obj.cells #[Value.slice x3 sk.1.length y3, Value.slice x4 sk.2.length y4] 74)).block w2.heap.size (by simp)
            exact this.trans (heap_alloc_new w2 _)
          have hB : W.heap[w2.heap.size + 1]? = some (.cells #[Value.slice x3 sk.1.length y3, Value.slice x4 sk.2.length y4] 74 (0, 0)) := by
            rw [hW]
            exact heap_alloc2_new w2 _ _
          have z1 : W.cell? ⟨w2.heap.size, 0, none⟩ = some (.slice x1 si.1.length y1) := by rw [cell_of_row W _ _ _ 74 (0, 0) hA]; rfl
          have z2 : W.cell? ⟨w2.heap.size, 1, none⟩ = some (.slice x2 si.2.length y2) := by rw [cell_of_row W _ _ _ 74 (0, 0) hA]; rfl
          have z3 : W.cell? ⟨w2.heap.size + 1, 0, none⟩ = some (.slice x3 sk.1.length y3) := by rw [cell_of_row W _ _ _ 74 (0, 0) hB]; rfl
          have z4 : W.cell? ⟨w2.heap.size + 1, 1, none⟩ = some (.slice x4 sk.2.length y4) := by rw [cell_of_row W _ _ _ 74 (0, 0) hB]; rfl
          have hz : ∀ V, Below W.heap.size W V → V.cell? ⟨w2.heap.size, 0, none⟩ = some (.slice x1 si.1.length y1) ∧ V.cell? ⟨w2.heap.size, 1, none⟩ = some (.slice x2 si.2.length y2) ∧ V.cell? ⟨w2.heap.size + 1, 0, none⟩ = some (.slice x3 sk.1.length y3) ∧ V.cell? ⟨w2.heap.size + 1, 1, none⟩ = some (.slice x4 sk.2.length y4) := fun V hV => ⟨(World.cell?_of_block (hV.block _ (World.block_lt_of_cell? W _ z1))).trans z1, (World.cell?_of_block (hV.block _ (World.block_lt_of_cell? W _ z2))).trans z2, (World.cell?_of_block (hV.block _ (World.block_lt_of_cell? W _ z3))).trans z3, (World.cell?_of_block (hV.block _ (World.block_lt_of_cell? W _ z4))).trans z4⟩
          have HZ := hide hz
          have HBW := hide hbW
          clear hW hA hB hz hbW
          skip
          cases hm1 : meets si.2 sk.2 with
          | true =>
            have J1 := hide (JM1.out W HBW.out)
            rw [hm1] at J1
            go_wp2_with fail
            refine J1.out.mono ?_
            rintro e w3 ⟨rfl, b3⟩
            go_wp2_with fail
            go_ret
            rw [show cf si sk = true by simp [cf, hm1]]
            exact ⟨rfl, below_on HBW.out b3⟩
          | false =>
            have J1 := hide (JM1.out W HBW.out)
            rw [hm1] at J1
            go_wp2_with fail
            refine J1.out.mono ?_
            rintro e w3 ⟨rfl, b3⟩
            have HB3 := hide (below_on HBW.out b3)
            have HB3' := hide b3
            obtain ⟨k1, k2, k3, k4⟩ := HZ.out w3 b3
            clear b3
            cases hm2 : meets si.2 sk.1 with
            | true =>
              have J2 := hide (JM2.out w3 HB3.out)
              rw [hm2] at J2
              go_wp2_with fail
              refine J2.out.mono ?_
              rintro e w4 ⟨rfl, b4⟩
              go_wp2_with fail
              go_ret
              rw [show cf si sk = true by simp [cf, hm1, hm2]]
              exact ⟨rfl, below_on HB3.out b4⟩
            | false =>
              have J2 := hide (JM2.out w3 HB3.out)
              rw [hm2] at J2
              go_wp2_with fail
              refine J2.out.mono ?_
              rintro e w4 ⟨rfl, b4⟩
              have HB4 := hide (below_on HB3.out b4)
              obtain ⟨j1, j2, j3, j4⟩ := HZ.out w4 (below_on HB3'.out b4)
              have J3 := hide (JM3.out w4 HB4.out)
              clear b4
              go_wp2_with fail
              refine J3.out.mono ?_
              rintro e w5 ⟨rfl, b5⟩
              go_wp2_with fail
              go_ret
              rw [show cf si sk = (meets si.2 sk.2 || meets si.2 sk.1 || meets si.1 sk.2) from rfl, hm1, hm2, Bool.false_or, Bool.false_or]
              exact ⟨rfl, below_on HB4.out b5⟩
        · obtain ⟨W, hW⟩ : ∃ X, X = ((w2.alloc (Obj.cells #[Value.slice x3 sk.1.length y3, Value.slice x4 sk.2.length y4] 74)).alloc (Obj.cells #[Value.slice x1 si.1.length y1, Value.slice x2 si.2.length y2] 74)).drew := ⟨_, rfl⟩
          rw [← hW]
          have hbW : Below w2.heap.size w2 W := by
            rw [hW]
            exact below_on (below_on (below_alloc w2 _) (below_alloc _ _)) (below_drew _)
          have hA : W.heap[w2.heap.size]? = some (.cells #[Value.slice x3 sk.1.length y3, Value.slice x4 sk.2.length y4] 74 (0, 0)) := by
            rw [hW]
            have := (below_alloc (w2.alloc (Obj.cells #[Value.slice x3 sk.1.length y3, Value.slice x4 sk.2.length y4] 74)) (Obj.cells #[Value.slice x1 si.1.length y1, Value.slice x2 si.2.length y2] 74)).block w2.heap.size (by simp)
            exact this.trans (heap_alloc_new w2 _)
          have hB : W.heap[w2.heap.size + 1]? = some (.cells #[Value.slice x1 si.1.length y1, Value.slice x2 si.2.length y2] 74 (0, 0)) := by
            rw [hW]
            exact heap_alloc2_new w2 _ _
          have z1 : W.cell? ⟨w2.heap.size + 1, 0, none⟩ = some (.slice x1 si.1.length y1) := by rw [cell_of_row W _ _ _ 74 (0, 0) hB]; rfl
          have z2 : W.cell? ⟨w2.heap.size + 1, 1, none⟩ = some (.slice x2 si.2.length y2) := by rw [cell_of_row W _ _ _ 74 (0, 0) hB]; rfl
          have z3 : W.cell? ⟨w2.heap.size, 0, none⟩ = some (.slice x3 sk.1.length y3) := by rw [cell_of_row W _ _ _ 74 (0, 0) hA]; rfl
          have z4 : W.cell? ⟨w2.heap.size, 1, none⟩ = some (.slice x4 sk.2.length y4) := by rw [cell_of_row W _ _ _ 74 (0, 0) hA]; rfl
          have hz : ∀ V, Below W.heap.size W V → V.cell? ⟨w2.heap.size + 1, 0, none⟩ = some (.slice x1 si.1.length y1) ∧ V.cell? ⟨w2.heap.size + 1, 1, none⟩ = some (.slice x2 si.2.length y2) ∧ V.cell? ⟨w2.heap.size, 0, none⟩ = some (.slice x3 sk.1.length y3) ∧ V.cell? ⟨w2.heap.size, 1, none⟩ = some (.slice x4 sk.2.length y4) := fun V hV => ⟨(World.cell?_of_block (hV.block _ (World.block_lt_of_cell? W _ z1))).trans z1, (World.cell?_of_block (hV.block _ (World.block_lt_of_cell? W _ z2))).trans z2, (World.cell?_of_block (hV.block _ (World.block_lt_of_cell? W _ z3))).trans z3, (World.cell?_of_block (hV.block _ (World.block_lt_of_cell? W _ z4))).trans z4⟩
          have HZ := hide hz
          have HBW := hide hbW
          clear hW hA hB hz hbW
          skip
          cases hm1 : meets si.2 sk.2 with
          | true =>
            have J1 := hide (JM1.out W HBW.out)
            rw [hm1] at J1
            go_wp2_with fail
            refine J1.out.mono ?_
            rintro e w3 ⟨rfl, b3⟩
            go_wp2_with fail
            go_ret
            rw [show cf si sk = true by simp [cf, hm1]]
            exact ⟨rfl, below_on HBW.out b3⟩
          | false =>
            have J1 := hide (JM1.out W HBW.out)
            rw [hm1] at J1
            go_wp2_with fail
            refine J1.out.mono ?_
            rintro e w3 ⟨rfl, b3⟩
            have HB3 := hide (below_on HBW.out b3)
            have HB3' := hide b3
            obtain ⟨k1, k2, k3, k4⟩ := HZ.out w3 b3
            clear b3
            cases hm2 : meets si.2 sk.1 with
            | true =>
              have J2 := hide (JM2.out w3 HB3.out)
              rw [hm2] at J2
              go_wp2_with fail
              refine J2.out.mono ?_
              rintro e w4 ⟨rfl, b4⟩
              go_wp2_with fail
              go_ret
              rw [show cf si sk = true by simp [cf, hm1, hm2]]
              exact ⟨rfl, below_on HB3.out b4⟩
            | false =>
              have J2 := hide (JM2.out w3 HB3.out)
              rw [hm2] at J2
              go_wp2_with fail
              refine J2.out.mono ?_
              rintro e w4 ⟨rfl, b4⟩
              have HB4 := hide (below_on HB3.out b4)
              obtain ⟨j1, j2, j3, j4⟩ := HZ.out w4 (below_on HB3'.out b4)
              have J3 := hide (JM3.out w4 HB4.out)
              clear b4
              go_wp2_with fail
              refine J3.out.mono ?_
              rintro e w5 ⟨rfl, b5⟩
              go_wp2_with fail
              go_ret
              rw [show cf si sk = (meets si.2 sk.2 || meets si.2 sk.1 || meets si.1 sk.2) from rfl, hm1, hm2, Bool.false_or, Bool.false_or]
              exact ⟨rfl, below_on HB4.out b5⟩
      · have hz : cz L a b = false := by simp [cz, hb]
        rw [hz]
        rw [decide_eq_false hb] at JB
        have t1 : (a == b) = false := by simpa using hab
        clear h
        go_enter Try.func15, Try.ntmps15
        go_wp2_with fail
        refine JA.out.mono ?_
        rintro e w1 ⟨rfl, rfl⟩
        go_wp2_with fail
        refine JB.out.mono ?_
        rintro e w2 ⟨rfl, rfl⟩
        go_wp2_with fail
        go_ret
        exact ⟨rfl, Below.refl _ _⟩
    · have hz : cz L a b = false := by simp [cz, ha]
      rw [hz]
      rw [decide_eq_false ha] at JA
      have t1 : (a == b) = false := by simpa using hab
      clear h
      go_enter Try.func15, Try.ntmps15
      go_wp2_with fail
      refine JA.out.mono ?_
      rintro e w1 ⟨rfl, rfl⟩
      go_wp2_with fail
      go_ret
      exact ⟨rfl, Below.refl _ _⟩
end Go.Proofs.Ythgjdmomcpcolaa
