/-
  Bytes that are one record; what a Scan of them tells. No program in this text.
-/
import Derived.Test.YtkohlhnkaklnpaaTold
namespace Go.Proofs.Ytkohlhnkaklnpaa
namespace Rc
theorem told_one {b d : List UInt8} (hg : get b = (d, b.length)) {ds : List (List UInt8)} {k : Nat} (h : Told b ds k) : (ds = [] ∧ k = 0) ∨ (ds = [d] ∧ k = b.length) := by
  induction h with
  | none => exact .inl ⟨rfl, rfl⟩
  | more h hn ih =>
    rcases ih with ⟨rfl, rfl⟩ | ⟨rfl, rfl⟩
    · refine .inr ?_
      rw [List.drop_zero, hg]
      simp
    · rw [List.drop_length] at hn
      exact absurd rfl hn
theorem told_one_end {b d : List UInt8} (hg : get b = (d, b.length)) (h0 : b.length ≠ 0) {ds : List (List UInt8)} {k : Nat} (h : Told b ds k) (he : (get (b.drop k)).2 = 0) : ds = [d] ∧ k = b.length := by
  rcases told_one hg h with ⟨rfl, rfl⟩ | h
  · rw [List.drop_zero, hg] at he
    exact absurd he h0
  · exact h
theorem shown_made : made [97, 98] = [130, 2, 144, 173, 12, 249, 97, 98] := by decide +kernel
theorem shown_get : get [130, 2, 144, 173, 12, 249, 97, 98] = ([97, 98], 8) := by decide +kernel
end Rc
end Go.Proofs.Ytkohlhnkaklnpaa
