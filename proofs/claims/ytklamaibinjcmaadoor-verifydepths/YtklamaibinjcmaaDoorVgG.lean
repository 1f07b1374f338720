/-
  Verify: the law's pick and fault.
-/
import Derived.Test.YtklamaibinjcmaaDoorVfQ
namespace Go.Proofs.YtklamaibinjcmaaDoor
open Go.RowKit
set_option maxRecDepth 100000
theorem lpick_any (c : Int) (hc : I6 c) (n : Nat) (h0 : 0 < n) (hn : n ≤ 1000000) (W : World) : Calls Tryd.prog 16 #[.int .i64 c, .int .i64 (n : Int)] W fun e w' => (∃ k : Nat, k < n ∧ e = .returned (.int .i64 (k : Int))) ∧ w' = W := by
  have key : ∀ x : Int, 0 ≤ x → x ≤ 9223372036854775807 → ∃ k : Nat, k < n ∧ x.tmod (n : Int) = (k : Int) := fun x hx _ => by
    refine ⟨(x.tmod n).toNat, ?_, ?_⟩
    · rw [Int.tmod_eq_emod_of_nonneg hx]
      have h1 := Int.emod_lt_of_pos x (show (0 : Int) < (n : Int) by omega)
      have h2 := Int.emod_nonneg x (show (n : Int) ≠ 0 by omega)
      omega
    · rw [Int.tmod_eq_emod_of_nonneg hx]
      have h2 := Int.emod_nonneg x (show (n : Int) ≠ 0 by omega)
      omega
  unfold I6 at hc
  have hn0 : ((n : Int) == 0) = false := beq_eq_false_iff_ne.2 (by omega)
  have hn1 : ¬ (n : Int) = 0 := by omega
  by_cases c0 : c < 0
  · obtain ⟨k, hk, e⟩ := key (-(c + 1)) (by omega) (by omega)
    have t1 : IntKind.i64.wrap (c + 1) = c + 1 := by rw [IntKind.wrap_i64]; omega
    have t2 : IntKind.i64.wrap (-(c + 1)) = -(c + 1) := by rw [IntKind.wrap_i64]; omega
    have HK : Hid (k < n) := hk
    clear key
    go_enter Tryd.func16, Tryd.ntmps16
    go_wp2_with fail
    go_ret
    exact ⟨⟨k, HK.out, by first | rfl | exact ret_int e | exact ret_int (by simpa using e)⟩, rfl⟩
  · obtain ⟨k, hk, e⟩ := key c (by omega) (by omega)
    have HK : Hid (k < n) := hk
    clear key
    go_enter Tryd.func16, Tryd.ntmps16
    go_wp2_with fail
    go_ret
    exact ⟨⟨k, HK.out, by first | rfl | exact ret_int e | exact ret_int (by simpa using e)⟩, rfl⟩
theorem ta_is (p : Value) (w : World) : (Instr.typeAssert (.iface 73 p) 34 73 true).run Tryd.prog w = .ok (.tuple #[p, .bool true]) w := by
  simp [Instr.typeAssert, run_underlying Tryd.underlying73, go_sem, Result.andThen]
/-- What the law makes of an error. -/
def lfV : Option (Int × Int) → Value
  | none => .tuple #[.int .i64 0, .int .i64 0, .bool true]
  | some (a, e) => .tuple #[.int .i64 a, .int .i64 e, .bool (e != 0)]
set_option maxHeartbeats 4000000 in
theorem lfault_any {W : World} {v : Value} {o : Option (Int × Int)} (h : Flt W v o) : Calls Tryd.prog 13 #[v] W fun e w' => e = .returned (lfV o) ∧ Below W.heap.size W w' := by
  cases o with
  | none =>
    obtain rfl : v = .nilIface := h
    go_enter Tryd.func13, Tryd.ntmps13
    go_wp2_with fail
    go_ret3
    exact ⟨rfl, Below.refl _ _⟩
  | some x =>
    obtain ⟨a, er⟩ := x
    obtain ⟨g, rfl, hg⟩ := h
    have c0 : W.cell? ⟨g, 0, none⟩ = some (.int .i64 a) := by rw [cell_of_row W _ _ _ 76 (0, 0) hg]; rfl
    have c1 : W.cell? ⟨g, 1, none⟩ = some (.int .i64 er) := by rw [cell_of_row W _ _ _ 76 (0, 0) hg]; rfl
    have HC : Hid (W.drew.cell? ⟨g, 0, none⟩ = some (.int .i64 a) ∧ W.drew.cell? ⟨g, 1, none⟩ = some (.int .i64 er)) := ⟨c0, c1⟩
    have hta := ta_is
    clear hg
    go_enter Tryd.func13, Tryd.ntmps13
    go_upto_region 6 with fail
    clear c0 c1
    go_region_held3 (fun V => V.cell? ⟨g, 0, none⟩ = some (.int .i64 a) ∧ V.cell? ⟨g, 1, none⟩ = some (.int .i64 er)) (exact HC.out) (fail)
    go_wp2_with fail
    go_ret3
    exact ⟨rfl, below_drew W⟩
end Go.Proofs.YtklamaibinjcmaaDoor
