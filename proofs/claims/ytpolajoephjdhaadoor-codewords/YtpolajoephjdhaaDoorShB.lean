/-
  The law's fault.
-/
import Derived.Test.YtpolajoephjdhaaDoorShA
namespace Go.Proofs.YtpolajoephjdhaaDoor
open Go.RowKit
set_option maxRecDepth 100000
theorem ta_is (p : Value) (w : World) : (Instr.typeAssert (.iface 78 p) 42 78 true).run Tryd.prog w = .ok (.tuple #[p, .bool true]) w := by
  simp [Instr.typeAssert, run_underlying Tryd.underlying78, go_sem, Result.andThen]
theorem fault_none (W : World) : Calls Tryd.prog 18 #[.nilIface] W fun e W' => e = .returned (.tuple #[.int .i64 0, .int .i64 0, .bool true]) ∧ W' = W := by
  go_enter Tryd.func18, Tryd.ntmps18
  go_wp2_with fail
  go_ret3
  exact ⟨rfl, rfl⟩
set_option maxHeartbeats 2000000 in
theorem fault_some {W : World} {g a er : Nat} (hg : W.heap[g]? = some (.cells #[.int .i64 (a : Int), .int .i64 (er : Int)] 80 (0, 0))) (her : er ≠ 0) : Calls Tryd.prog 18 #[.iface 78 (.pointer (some ⟨g, 0, none⟩))] W fun e W' => e = .returned (.tuple #[.int .i64 (a : Int), .int .i64 (er : Int), .bool true]) ∧ Below W.heap.size W W' := by
  have ta := ta_is (.pointer (some ⟨g, 0, none⟩))
  have c0 : W.cell? ⟨g, 0, none⟩ = some (.int .i64 (a : Int)) := by rw [cell_of_row W g _ _ 80 (0, 0) hg]; rfl
  have c1 : W.cell? ⟨g, 1, none⟩ = some (.int .i64 (er : Int)) := by rw [cell_of_row W g _ _ 80 (0, 0) hg]; rfl
  have t2 : Hid (((er : Int) != 0) = true) := by unfold Hid; rw [bne_iff_ne]; omega
  clear hg
  go_enter Tryd.func18, Tryd.ntmps18
  go_upto_region 6 with fail
  go_region
  all_goals go_wp2_with fail
  all_goals go_ret3
  all_goals (refine ⟨?_, below_drew W⟩; show Ending.returned (.tuple #[.int .i64 (a : Int), .int .i64 (er : Int), .bool ((er : Int) != 0)]) = _; rw [t2.out])
end Go.Proofs.YtpolajoephjdhaaDoor
