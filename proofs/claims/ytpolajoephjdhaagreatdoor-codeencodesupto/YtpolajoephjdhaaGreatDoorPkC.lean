/-
  Numbers read, as plain functions.
-/
import Derived.Lib.Varint
namespace Go.Proofs.YtpolajoephjdhaaGreatDoor.Dec

def getFrom : Nat → Nat → List UInt8 → Nat × Nat
  | _, _, [] => (0, 0)
  | k, acc, b :: r =>
    if 10 ≤ k then (0, 0)
    else if 128 ≤ b.toNat then getFrom (k + 1) (acc + b.toNat % 128 * 2 ^ (7 * k)) r
    else if (0 < k ∧ b.toNat = 0) ∨ (k = 9 ∧ 1 < b.toNat) then (0, 0)
    else (acc + b.toNat * 2 ^ (7 * k), k + 1)
def getN (l : List UInt8) : Nat × Nat := getFrom 0 0 l

theorem getFrom_nil (k acc : Nat) : getFrom k acc [] = (0, 0) := by unfold getFrom; rfl
theorem getFrom_ten (k acc : Nat) (r : List UInt8) (h : 10 ≤ k) : getFrom k acc r = (0, 0) := by
  cases r with
  | nil => exact getFrom_nil _ _
  | cons b r => unfold getFrom; rw [if_pos h]
theorem getFrom_more {k acc : Nat} {b : UInt8} {r : List UInt8} (hk : k < 10) (hb : 128 ≤ b.toNat) : getFrom k acc (b :: r) = getFrom (k + 1) (acc + b.toNat % 128 * 2 ^ (7 * k)) r := by
  rw [getFrom, if_neg (by omega), if_pos hb]
theorem getFrom_bad {k acc : Nat} {b : UInt8} {r : List UInt8} (hk : k < 10) (hb : b.toNat < 128) (h : (0 < k ∧ b.toNat = 0) ∨ (k = 9 ∧ 1 < b.toNat)) : getFrom k acc (b :: r) = (0, 0) := by
  rw [getFrom, if_neg (by omega), if_neg (by omega), if_pos h]
theorem getFrom_last {k acc : Nat} {b : UInt8} {r : List UInt8} (hk : k < 10) (hb : b.toNat < 128) (h : ¬ ((0 < k ∧ b.toNat = 0) ∨ (k = 9 ∧ 1 < b.toNat))) : getFrom k acc (b :: r) = (acc + b.toNat * 2 ^ (7 * k), k + 1) := by
  rw [getFrom, if_neg (by omega), if_neg (by omega), if_neg h]

/-- What is read lies within the bytes, and fits 64 bits. -/
theorem getFrom_bounds : ∀ (r : List UInt8) (k acc : Nat), k ≤ 10 → acc < 2 ^ (7 * k) → (getFrom k acc r).1 < 18446744073709551616 ∧ (getFrom k acc r).2 ≤ k + r.length ∧ (getFrom k acc r).2 ≤ 10
  | [], k, acc, hk, _ => by rw [getFrom_nil]; exact ⟨by simp, Nat.zero_le _, Nat.zero_le _⟩
  | b :: r, k, acc, hk, ha => by
    by_cases h10 : 10 ≤ k
    · rw [getFrom_ten k acc _ h10]; exact ⟨by simp, Nat.zero_le _, Nat.zero_le _⟩
    have hpow : 2 ^ (7 * (k + 1)) = 128 * 2 ^ (7 * k) := by rw [show 7 * (k + 1) = 7 * k + 7 by omega, Nat.pow_add, Nat.mul_comm]
    by_cases hb : 128 ≤ b.toNat
    · rw [getFrom_more (by omega) hb]
      have hlt : acc + b.toNat % 128 * 2 ^ (7 * k) < 2 ^ (7 * (k + 1)) := by
        have h1 : b.toNat % 128 ≤ 127 := by omega
        have h2 := Nat.mul_le_mul_right (2 ^ (7 * k)) h1
        omega
      obtain ⟨h1, h2, h3⟩ := getFrom_bounds r (k + 1) _ (by omega) hlt
      exact ⟨h1, by simp; omega, h3⟩
    · by_cases hbad : (0 < k ∧ b.toNat = 0) ∨ (k = 9 ∧ 1 < b.toNat)
      · rw [getFrom_bad (by omega) (by omega) hbad]; exact ⟨by simp, Nat.zero_le _, Nat.zero_le _⟩
      · rw [getFrom_last (by omega) (by omega) hbad]
        refine ⟨?_, by simp <;> omega, by simp; try omega⟩
        show acc + b.toNat * 2 ^ (7 * k) < 18446744073709551616
        by_cases h9 : k = 9
        · subst h9
          have hb1 : b.toNat ≤ 1 := by omega
          have h2 := Nat.mul_le_mul_right (2 ^ (7 * 9)) hb1
          have e : 2 ^ (7 * 9) = 9223372036854775808 := by decide
          omega
        · have h1 : b.toNat ≤ 127 := by omega
          have h2 := Nat.mul_le_mul_right (2 ^ (7 * k)) h1
          have h3 : 2 ^ (7 * (k + 1)) ≤ 2 ^ 63 := Nat.pow_le_pow_right (by omega) (by omega)
          have e : 2 ^ 63 = 9223372036854775808 := by decide
          omega
theorem getN_lt (l : List UInt8) : (getN l).1 < 18446744073709551616 := (getFrom_bounds l 0 0 (by omega) (by simp)).1
theorem getN_le (l : List UInt8) : (getN l).2 ≤ l.length := by have := (getFrom_bounds l 0 0 (by omega) (by simp)).2.1; simpa [getN] using this
theorem getN_ten (l : List UInt8) : (getN l).2 ≤ 10 := (getFrom_bounds l 0 0 (by omega) (by simp)).2.2
/-- Where there is none, the number is 0. -/
theorem getFrom_none : ∀ (r : List UInt8) (k acc : Nat), (getFrom k acc r).2 = 0 → (getFrom k acc r).1 = 0
  | [], k, acc, _ => by rw [getFrom_nil]
  | b :: r, k, acc, h => by
    by_cases h10 : 10 ≤ k
    · rw [getFrom_ten k acc _ h10]
    by_cases hb : 128 ≤ b.toNat
    · rw [getFrom_more (by omega) hb] at h ⊢
      exact getFrom_none r _ _ h
    · by_cases hbad : (0 < k ∧ b.toNat = 0) ∨ (k = 9 ∧ 1 < b.toNat)
      · rw [getFrom_bad (by omega) (by omega) hbad]
      · rw [getFrom_last (by omega) (by omega) hbad] at h
        simp at h
theorem getN_none {l : List UInt8} (h : (getN l).2 = 0) : (getN l).1 = 0 := getFrom_none l 0 0 h

/-- Zig-zag undone. -/
def unzig (n : Nat) : Int := if n % 2 = 0 then ((n / 2 : Nat) : Int) else -((n / 2 : Nat) : Int) - 1
theorem unzig_zigzag (x : Int) : unzig (Lib.zigzag x) = x := by unfold unzig Lib.zigzag; split <;> split <;> omega
theorem zigzag_unzig (n : Nat) : Lib.zigzag (unzig n) = n := by unfold unzig Lib.zigzag; split <;> split <;> omega
theorem unzig_bounds {n : Nat} (h : n < 18446744073709551616) : -9223372036854775808 ≤ unzig n ∧ unzig n ≤ 9223372036854775807 := by unfold unzig; split <;> omega

end Go.Proofs.YtpolajoephjdhaaGreatDoor.Dec
