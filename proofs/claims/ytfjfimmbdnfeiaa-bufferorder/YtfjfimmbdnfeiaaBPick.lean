/-
  Buffer: the law's pick.
-/
import Derived.Test.YtfjfimmbdnfeiaaBApp
import Derived.Test.YtfjfimmbdnfeiaaBMath
namespace Go.Proofs.Ytfjfimmbdnfeiaa
open Go.RowKit
set_option maxRecDepth 100000
def pickZ (c : Int) (n : Nat) : Nat := ((if c < 0 then -(c + 1) else c).tmod n).toNat
theorem pickZ_lt (c : Int) (n : Nat) (h0 : 0 < n) : pickZ c n < n ∧ (if c < 0 then -(c + 1) else c).tmod n = (pickZ c n : Int) := by
  unfold pickZ
  generalize hx : (if c < 0 then -(c + 1) else c) = x
  have hx0 : 0 ≤ x := by rw [← hx]; split <;> omega
  rw [Int.tmod_eq_emod_of_nonneg hx0]
  have h1 := Int.emod_lt_of_pos x (show (0 : Int) < (n : Int) by omega)
  have h2 := Int.emod_nonneg x (show (n : Int) ≠ 0 by omega)
  omega
theorem bpick_any (c : Int) (hc : -9223372036854775808 ≤ c ∧ c ≤ 9223372036854775807) (n : Nat) (h0 : 0 < n) (hn : n ≤ 1000000) (W : World) : Calls Try.prog 7 #[.int .i64 c, .int .i64 (n : Int)] W fun e w' => e = .returned (.int .i64 (pickZ c n : Int)) ∧ w' = W := by
  have hp := (pickZ_lt c n h0).2
  have hn0 : ((n : Int) == 0) = false := beq_eq_false_iff_ne.2 (by omega)
  have hn1 : ¬ (n : Int) = 0 := by omega
  by_cases c0 : c < 0
  · rw [if_pos c0] at hp
    have t1 : IntKind.i64.wrap (c + 1) = c + 1 := by rw [IntKind.wrap_i64]; omega
    have t2 : IntKind.i64.wrap (-(c + 1)) = -(c + 1) := by rw [IntKind.wrap_i64]; omega
    have HP := hide hp
    clear hp
    go_enter Try.func7, Try.ntmps7
    go_wp2_with fail
    go_ret
    have e := HP.out
    exact ⟨by first | exact ret_int e | exact ret_int (by simpa using e), rfl⟩
  · rw [if_neg c0] at hp
    have HP := hide hp
    clear hp
    go_enter Try.func7, Try.ntmps7
    go_wp2_with fail
    go_ret
    have e := HP.out
    exact ⟨by first | exact ret_int e | exact ret_int (by simpa using e) | exact ret_int (by rw [← Int.tmod_eq_emod_of_nonneg (by omega)]; exact e), rfl⟩
end Go.Proofs.Ytfjfimmbdnfeiaa
