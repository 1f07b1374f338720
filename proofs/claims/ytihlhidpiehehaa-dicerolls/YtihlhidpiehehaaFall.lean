/-
  How long dice are rolled: the states go through all numbers, so one comes that is taken.
-/
import Derived.Test.YtihlhidpiehehaaOn
namespace Go.Proofs.Ytihlhidpiehehaa
/-- So many rolls are left until the state whose number is 0. -/
def dist (s : Int) : Nat := ((7046029254386353131 - s) * 17428512612931826493 % 18446744073709551616).toNat
theorem dist_zero {s : Int} (h0 : 0 ≤ s) (h1 : s < 18446744073709551616) (h : dist s = 0) : mixI s = 0 := by
  have e : s = 7046029254386353131 := by
    unfold dist at h
    obtain ⟨d, hd⟩ : ∃ d, d = 7046029254386353131 - s := ⟨_, rfl⟩
    rw [← hd] at h
    have h2 : d * 17428512612931826493 % 18446744073709551616 = 0 := by omega
    have h3 : d * 17428512612931826493 * 11400714819323198485 % 18446744073709551616 = 0 := by
      rw [Int.mul_emod, h2]
      simp
    have h4 : d * 17428512612931826493 * 11400714819323198485 = d + 18446744073709551616 * (10771413168148108919 * d) := by
      rw [Int.mul_assoc, show (17428512612931826493 : Int) * 11400714819323198485 = 1 + 18446744073709551616 * 10771413168148108919 by simp, Int.mul_add, Int.mul_one, Int.mul_comm d, Int.mul_assoc]
    rw [h4, Int.add_mul_emod_self_left] at h3
    clear h4 h2 h
    omega
  rw [e]
  exact mix_end
theorem dist_key (s r k : Int) (h : r + 18446744073709551616 * k = s + 11400714819323198485) : (7046029254386353131 - r) * 17428512612931826493 = ((7046029254386353131 - s) * 17428512612931826493 - 1) + 18446744073709551616 * (k * 17428512612931826493 - 10771413168148108919) := by omega
theorem dist_one (x : Int) (h : (x % 18446744073709551616).toNat ≠ 0) : ((x - 1) % 18446744073709551616).toNat + 1 = (x % 18446744073709551616).toNat := by
  have := Int.emod_nonneg x (b := 18446744073709551616) (by decide)
  have e : x % 18446744073709551616 ≠ 0 := by omega
  omega
theorem dist_succ {s : Int} (h : dist s ≠ 0) : ∃ k, dist s = k + 1 ∧ dist (nxt s) = k := by
  have h1 : nxt s + 18446744073709551616 * ((s + 11400714819323198485) / 18446744073709551616) = s + 11400714819323198485 := by
    unfold nxt
    exact Int.emod_add_mul_ediv (s + 11400714819323198485) 18446744073709551616
  have h2 : dist (nxt s) = (((7046029254386353131 - s) * 17428512612931826493 - 1) % 18446744073709551616).toNat := by
    have := dist_key s (nxt s) _ h1
    unfold dist
    rw [this, Int.add_mul_emod_self_left]
  have h3 : dist s = ((7046029254386353131 - s) * 17428512612931826493 % 18446744073709551616).toNat := by unfold dist; rfl
  rw [h3] at h
  have h4 := dist_one _ h
  rw [← h2, ← h3] at h4
  exact ⟨_, h4.symm, rfl⟩
/-- The state at which a number below m falls. -/
def fall (m : Int) : Nat → Int → Int
  | 0, s => s
  | k + 1, s => if mixI s < m then s else fall m k (nxt s)
def stop (m s : Int) : Int := fall m (dist s) s
theorem nxt_b (s : Int) : 0 ≤ nxt s ∧ nxt s < 18446744073709551616 := by unfold nxt; omega
theorem stop_now {m s : Int} (h : mixI s < m) : stop m s = s := by
  unfold stop
  cases dist s with
  | zero => rfl
  | succ k => exact if_pos h
theorem stop_on {m s : Int} (h0 : 0 ≤ s) (h1 : s < 18446744073709551616) (hm : 1 ≤ m) (h : ¬ mixI s < m) : stop m s = stop m (nxt s) ∧ dist (nxt s) < dist s := by
  have hd : dist s ≠ 0 := fun e => h (by rw [dist_zero h0 h1 e]; omega)
  obtain ⟨k, h2, h3⟩ := dist_succ hd
  refine ⟨?_, by omega⟩
  unfold stop
  rw [h2, h3, fall, if_neg h]
theorem fall_b (m : Int) : ∀ (k : Nat) (s : Int), 0 ≤ s → s < 18446744073709551616 → 0 ≤ fall m k s ∧ fall m k s < 18446744073709551616
  | 0, _, h0, h1 => ⟨h0, h1⟩
  | k + 1, s, h0, h1 => by
    unfold fall
    split
    · exact ⟨h0, h1⟩
    · exact fall_b m k _ (nxt_b s).1 (nxt_b s).2
/-- What is taken, up to where. -/
def endI (n : Int) : Int := 18446744073709551615 - 18446744073709551615 % n
theorem endI_b {n : Int} (h : 1 ≤ n) (h2 : n ≤ 9223372036854775807) : 1 ≤ endI n ∧ endI n ≤ 18446744073709551615 := by
  unfold endI
  have h1 := Int.emod_nonneg 18446744073709551615 (b := n) (by omega)
  have h3 := Int.emod_lt_of_pos 18446744073709551615 (b := n) (by omega)
  omega
/-- Below: what falls, and the state behind it. -/
def belA (n s : Int) : Int := if n < 1 then 0 else mixI (stop (endI n) s) % n
def belS (n s : Int) : Int := if n < 1 then nxt s else nxt (stop (endI n) s)
theorem belS_b (n s : Int) : 0 ≤ belS n s ∧ belS n s < 18446744073709551616 := by unfold belS; split <;> exact nxt_b _
theorem belA_b {n : Int} (s : Int) (h : 1 ≤ n) : 0 ≤ belA n s ∧ belA n s < n := by
  unfold belA
  rw [if_neg (by omega)]
  exact ⟨Int.emod_nonneg _ (by omega), Int.emod_lt_of_pos _ (by omega)⟩
theorem belA_0 {n : Int} (s : Int) (h : n < 1) : belA n s = 0 := if_pos h
end Go.Proofs.Ytihlhidpiehehaa
