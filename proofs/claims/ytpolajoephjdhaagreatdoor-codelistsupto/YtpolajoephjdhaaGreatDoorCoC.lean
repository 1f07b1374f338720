/-
  Number, paramsOf, Effect.
-/
import Derived.Test.YtpolajoephjdhaaGreatDoorCoB
namespace Go.Proofs.YtpolajoephjdhaaGreatDoor
open Go.RowKit
set_option maxRecDepth 100000
/-- The op of a word; 0, if there is none. -/
def isWd (s : ByteArray) (k : Nat) : Bool := decide (1 ≤ k) && decide (wd k = s)
def numOf (s : ByteArray) : Nat := ((List.range 40).find? (isWd s)).getD 0
theorem numOf_at {s : ByteArray} {k : Nat} (h1 : 1 ≤ k) (h2 : k < 40) (h3 : wd k = s) (h4 : ∀ j, 1 ≤ j → j < k → wd j ≠ s) : numOf s = k := by
  have : (List.range 40).find? (isWd s) = some k := by
    rw [List.find?_range_eq_some]
    refine ⟨by simp [isWd, h1, h3], by simpa using h2, fun j hj => ?_⟩
    by_cases h : 1 ≤ j
    · simp [isWd, h4 j h hj]
    · simp [isWd]; omega
  unfold numOf
  rw [this]; rfl
theorem numOf_no {s : ByteArray} (h : ∀ j, 1 ≤ j → j < 40 → wd j ≠ s) : numOf s = 0 := by
  have : (List.range 40).find? (isWd s) = none := by
    rw [List.find?_range_eq_none]
    intro j hj
    by_cases h1 : 1 ≤ j
    · simp [isWd, h j h1 hj]
    · simp [isWd]; omega
  unfold numOf
  rw [this]; rfl
theorem numOf_lt (s : ByteArray) : numOf s < 40 := by
  unfold numOf
  cases h : (List.range 40).find? (isWd s) with
  | none => simp
  | some k =>
    rw [List.find?_range_eq_some] at h
    simpa using h.2.1
theorem beq_list (a b : ByteArray) : (a.toList == b.toList) = decide (a = b) := by
  have h : a.toList = b.toList ↔ a = b := by
    constructor
    · intro h
      rw [ByteArray.toList_eq, ByteArray.toList_eq] at h
      exact ByteArray.ext (Array.toList_inj.1 h)
    · rintro rfl; rfl
  rw [Bool.eq_iff_iff, beq_iff_eq, decide_eq_true_eq]
  exact h
theorem number_any (s : ByteArray) (w : World) (ht : Tb w) : Calls Tryz.prog 25 #[.string s] w fun e w' => e = .returned (.int .i64 (numOf s : Int)) ∧ w' = w := by
  go_enter Tryz.func25, Tryz.ntmps25
  go_wp2
  go_loop [3] (fun v => ∃ k : Nat, v = .int .i64 (k : Int) ∧ 1 ≤ k ∧ k ≤ 40 ∧ Hid (∀ j, 1 ≤ j → j < k → wd j ≠ s)) (fun v => 41 - (intOf v).toNat)
  case atStart => exact ⟨1, rfl, by omega, by omega, fun j h1 h2 => by omega⟩
  case round =>
    obtain ⟨k, rfl, h1, h2, h3⟩ := hrel
    by_cases hk : k < 40
    · obtain ⟨c0, -, -, -⟩ := ht k hk
      by_cases he : wd k = s
      · have hb : ((wd k).toList == s.toList) = true := by rw [beq_list]; simp [he]
        have HE := hide (numOf_at h1 hk he h3.out)
        clear he
        go_wp2_with fail
        go_ret
        rw [HE.out]
        exact ⟨rfl, rfl⟩
      · have hb : ((wd k).toList == s.toList) = false := by rw [beq_list]; simp [he]
        have HE : Hid (∀ j, 1 ≤ j → j < k + 1 → wd j ≠ s) := fun j a b => by
          by_cases hj : j = k
          · subst hj; exact he
          · exact h3.out j a (by omega)
        clear he
        go_wp2_with fail
        refine ⟨⟨k + 1, by go_num, by omega, by omega, HE⟩, by simp [intOf]; omega⟩
    · have HE := hide (numOf_no (s := s) (fun j a b => h3.out j a (by omega)))
      go_wp2_with fail
      go_ret
      rw [HE.out]
      exact ⟨rfl, rfl⟩
end Go.Proofs.YtpolajoephjdhaaGreatDoor
