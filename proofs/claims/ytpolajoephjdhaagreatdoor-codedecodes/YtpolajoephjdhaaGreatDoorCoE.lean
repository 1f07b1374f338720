/-
  isInstr, isRoutine, mayBeListed.
-/
import Derived.Test.YtpolajoephjdhaaGreatDoorCoD
namespace Go.Proofs.YtpolajoephjdhaaGreatDoor
open Go.RowKit
set_option maxRecDepth 100000
set_option maxHeartbeats 1000000 in
theorem isinstr_any (i : Ins) (W : World) (ht : Tb W) : Calls Tryz.prog 83 #[insV i] W fun e w' => e = .returned (.bool (isIns i)) ∧ Below W.heap.size W w' := by
  obtain ⟨op, a⟩ := i
  obtain ⟨w0, hw0⟩ : ∃ X, X = W.alloc (.cells #[.int .i64 op, .int .i64 a] 56) := ⟨_, rfl⟩
  have B0 : Below W.heap.size W w0 := hw0 ▸ below_alloc W _
  have J1 := hide (fun w => isop_any op w)
  have J2 := hide (row_any op w0 (ht.later B0))
  have n1 : w0.heap[W.heap.size]? = some (.cells #[.int .i64 op, .int .i64 a] 56 (0, 0)) := by rw [hw0]; exact heap_alloc_new W _
  obtain ⟨B, hB⟩ : ∃ B, B = W.heap.size := ⟨_, rfl⟩
  rw [← hB] at n1
  have c0 : w0.cell? ⟨B, 0, none⟩ = some (.int .i64 op) := by rw [cell_of_row w0 _ _ _ 56 (0, 0) n1]; rfl
  have c1 : w0.cell? ⟨B, 1, none⟩ = some (.int .i64 a) := by rw [cell_of_row w0 _ _ _ 56 (0, 0) n1]; rfl
  obtain ⟨te, hte⟩ : ∃ t, t = isIns ⟨op, a⟩ := ⟨_, rfl⟩
  rw [← hte]
  have TE := hide hte
  have HW := hide hw0
  have HB := hide B0
  have EB := hide hB
  clear hte n1 B0 ht
  unfold isIns at TE
  unfold insV
  dsimp only at TE ⊢
  have f1 := fldR1 (opk op)
  by_cases h1 : 1 ≤ op ∧ op ≤ 39
  · rw [show decide (1 ≤ op ∧ op ≤ 39) = true by simp [h1]] at J1 TE
    by_cases h2 : a = 0
    · subst h2
      obtain rfl : te = true := by rw [TE.out]; simp
      clear h1
      go_enter Tryz.func83, Tryz.ntmps83
      go_upto_region 1 with fail
      rw [← hw0, ← hB]
      clear hw0 hB
      go_wp2_with (go_at_call 87; refine (J1.out _).mono ?_; rintro e w' ⟨rfl, rfl⟩)
      go_ret
      exact ⟨rfl, HB.out⟩
    · have t2 : (a == 0) = false := by simp [h2]
      obtain rfl : te = numb (opk op) := by rw [TE.out, t2]; simp
      clear h1 h2
      generalize opk op = k at *
      go_enter Tryz.func83, Tryz.ntmps83
      go_upto_region 1 with fail
      rw [← hw0, ← hB]
      clear hw0 hB
      unfold rowV at J2
      go_wp2_with (first | (go_at_call 87; refine (J1.out _).mono ?_; rintro e w' ⟨rfl, rfl⟩) | (go_at_call 56; refine J2.out.mono ?_; rintro e w' ⟨rfl, hb⟩))
      go_ret
      exact ⟨rfl, below_on HB.out hb⟩
  · rw [show decide (1 ≤ op ∧ op ≤ 39) = false by simp; omega] at J1 TE
    obtain rfl : te = false := by rw [TE.out]; simp
    clear h1
    go_enter Tryz.func83, Tryz.ntmps83
    go_upto_region 1 with fail
    rw [← hw0, ← hB]
    clear hw0 hB
    go_wp2_with (go_at_call 87; refine (J1.out _).mono ?_; rintro e w' ⟨rfl, rfl⟩)
    go_ret
    exact ⟨rfl, HB.out⟩
end Go.Proofs.YtpolajoephjdhaaGreatDoor
