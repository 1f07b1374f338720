/-
  Of code: two small facts.
-/
import Derived.Test.YtklamaibinjcmaaDoorMgB
namespace Go.Proofs.YtklamaibinjcmaaDoor
open Go.RowKit
theorem infoB : (Tryd.prog.info? 5).map (fun i => (i.zero, i.size, i.bytes)) = some (some (.int .u8 0), 1, 1) := by kernel_rfl
theorem rtOk_code {r : Rt} (h : rtOk r = true) : r.code.length ≤ 2000 := by
  unfold rtOk at h
  simp only [Bool.and_eq_true, decide_eq_true_eq] at h
  exact h.1.2
theorem row4 {w : World} {B : Nat} {x y z t : Value} (h : w.heap[B]? = some (.cells #[x, y, z, t] 28 (0, 0))) : w.cell? ⟨B, 0, none⟩ = some x ∧ w.cell? ⟨B, 1, none⟩ = some y ∧ w.cell? ⟨B, 2, none⟩ = some z ∧ w.cell? ⟨B, 3, none⟩ = some t := by
  refine ⟨?_, ?_, ?_, ?_⟩ <;> rw [cell_of_row w _ _ _ 28 (0, 0) h] <;> rfl
theorem Il.i6 {Q : Nat → Prop} {W : World} {v : Value} {l : List Ins} (h : Il Q W v l) : ∀ i ∈ l, I6 i.a := by
  obtain ⟨ao, c, h1, h2, h3, h4⟩ := h
  intro i hi
  obtain ⟨k, hk, rfl⟩ := List.getElem_of_mem hi
  obtain ⟨g, o, -, -, h5⟩ := h4 (by omega)
  exact (h5 k hk).2.1
end Go.Proofs.YtklamaibinjcmaaDoor
