/-
  World: letters, digits.
-/
import Derived.Test.YtafmiolehlagkaaGreatWText
namespace Go.Proofs.YtafmiolehlagkaaGreat
open Go.RowKit
set_option maxRecDepth 100000
def isL (c : Int) : Bool := decide (65 ≤ c ∧ c ≤ 90 ∨ 97 ≤ c ∧ c ≤ 122)
def isD (c : Int) : Bool := decide (48 ≤ c ∧ c ≤ 57)
set_option maxHeartbeats 2000000 in
theorem letter_any (c : Int) (w : World) : Calls Tryz.prog 210 #[.int .u8 c] w fun e w' => e = .returned (.bool (isL c)) ∧ w' = w := by
  by_cases h1 : c ≥ 65
  · by_cases h2 : c ≤ 90
    · have e : isL c = true := decide_eq_true (.inl ⟨h1, h2⟩)
      rw [e]
      go_enter Tryz.func210, Tryz.ntmps210
      go_wp2_with fail
      go_ret
      exact ⟨rfl, rfl⟩
    · by_cases h3 : c ≥ 97
      · by_cases h4 : c ≤ 122
        · have e : isL c = true := decide_eq_true (.inr ⟨h3, h4⟩)
          rw [e]
          go_enter Tryz.func210, Tryz.ntmps210
          go_wp2_with fail
          go_ret
          exact ⟨rfl, rfl⟩
        · have e : isL c = false := decide_eq_false (by omega)
          rw [e]
          go_enter Tryz.func210, Tryz.ntmps210
          go_wp2_with fail
          go_ret
          exact ⟨rfl, rfl⟩
      · have e : isL c = false := decide_eq_false (by omega)
        rw [e]
        go_enter Tryz.func210, Tryz.ntmps210
        go_wp2_with fail
        go_ret
        exact ⟨rfl, rfl⟩
  · have e : isL c = false := decide_eq_false (by omega)
    have h3 : ¬ c ≥ 97 := by omega
    rw [e]
    go_enter Tryz.func210, Tryz.ntmps210
    go_wp2_with fail
    go_ret
    exact ⟨rfl, rfl⟩
set_option maxHeartbeats 2000000 in
theorem digit_any (c : Int) (w : World) : Calls Tryz.prog 211 #[.int .u8 c] w fun e w' => e = .returned (.bool (isD c)) ∧ w' = w := by
  by_cases h1 : c ≥ 48
  · by_cases h2 : c ≤ 57
    · have e : isD c = true := decide_eq_true ⟨h1, h2⟩
      rw [e]
      go_enter Tryz.func211, Tryz.ntmps211
      go_wp2_with fail
      go_ret
      exact ⟨rfl, rfl⟩
    · have e : isD c = false := decide_eq_false (by omega)
      rw [e]
      go_enter Tryz.func211, Tryz.ntmps211
      go_wp2_with fail
      go_ret
      exact ⟨rfl, rfl⟩
  · have e : isD c = false := decide_eq_false (by omega)
    rw [e]
    go_enter Tryz.func211, Tryz.ntmps211
    go_wp2_with fail
    go_ret
    exact ⟨rfl, rfl⟩
end Go.Proofs.YtafmiolehlagkaaGreat
