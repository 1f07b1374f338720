/-
  The law's pick.
-/
import Derived.Test.YtkohlhnkaklnpaaSum
namespace Go.Proofs.Ytkohlhnkaklnpaa
open Go.RowKit
set_option maxHeartbeats 1000000 in
theorem pick_any (c : Int) (n : Nat) (w : World) (h0 : -9223372036854775808 ≤ c) (h1 : c ≤ 9223372036854775807) (hn : 0 < n) (hm : n ≤ 9223372036854775807) :
    Calls Try.prog 19 #[.int .i64 c, .int .i64 n] w fun e w' => (∃ p : Nat, p < n ∧ e = .returned (.int .i64 p)) ∧ w' = w := by
  have hz : ((n : Int) == 0) = false := by rw [beq_eq_false_iff_ne]; omega
  have key : ∀ x : Int, 0 ≤ x → ∃ p : Nat, p < n ∧ x.tmod n = p := fun x hx => by
    have e1 := Int.tmod_eq_emod_of_nonneg (a := x) (b := n) hx
    have e2 := Int.emod_nonneg x (show (n : Int) ≠ 0 by omega)
    have e3 := Int.emod_lt_of_pos x (show (0 : Int) < n by omega)
    exact ⟨(x.tmod n).toNat, by omega, by omega⟩
  by_cases hc : c < 0
  · go_enter Try.func19, Try.ntmps19
    go_wp2
    go_ret
    obtain ⟨p, hp, e⟩ := key (-(c + 1)) (by omega)
    exact ⟨⟨p, hp, ret_int (by rw [← e, Int.neg_tmod])⟩, rfl⟩
  · go_enter Try.func19, Try.ntmps19
    go_wp2
    go_ret
    obtain ⟨p, hp, e⟩ := key c (by omega)
    exact ⟨⟨p, hp, ret_int (by rw [← e, Int.tmod_eq_emod_of_nonneg (by omega)])⟩, rfl⟩
end Go.Proofs.Ytkohlhnkaklnpaa
