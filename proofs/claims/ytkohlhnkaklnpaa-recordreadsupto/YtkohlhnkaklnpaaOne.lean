/-
  Bytes that are one record; what a Scan of them tells. No program in this text.
-/
import Derived.Test.YtkohlhnkaklnpaaTold
namespace Go.Proofs.Ytkohlhnkaklnpaa
namespace Rc
theorem told_empty {ds : List (List UInt8)} {k : Nat} (h : Told [] ds k) : ds = [] ∧ k = 0 := by
  cases ds with
  | nil => exact ⟨rfl, h⟩
  | cons d ds => exact absurd rfl h.1
theorem told_one {b d : List UInt8} (hg : get b = (d, b.length)) {ds : List (List UInt8)} {k : Nat} (h : Told b ds k) : (ds = [] ∧ k = 0) ∨ (ds = [d] ∧ k = b.length) := by
  cases ds with
  | nil => exact .inl ⟨rfl, h⟩
  | cons e ds =>
    obtain ⟨_, h2, h3, h4⟩ := h
    rw [hg] at h2 h3 h4
    rw [List.drop_length] at h4
    obtain ⟨rfl, h5⟩ := told_empty h4
    refine .inr ⟨by rw [h2], ?_⟩
    have h6 : k - b.length = 0 := h5
    have h7 : b.length ≤ k := h3
    omega
theorem told_one_end {b d : List UInt8} (hg : get b = (d, b.length)) (h0 : b.length ≠ 0) {ds : List (List UInt8)} {k : Nat} (h : Told b ds k) (he : (get (b.drop k)).2 = 0) : ds = [d] ∧ k = b.length := by
  rcases told_one hg h with ⟨rfl, rfl⟩ | h
  · rw [List.drop_zero, hg] at he
    exact absurd he h0
  · exact h
theorem shown_made : made [97, 98] = [130, 2, 144, 173, 12, 249, 97, 98] := by decide +kernel
theorem shown_get : get [130, 2, 144, 173, 12, 249, 97, 98] = ([97, 98], 8) := by decide +kernel
end Rc
end Go.Proofs.Ytkohlhnkaklnpaa
