/-
  What a Scan tells, step by step. No program in this text.
-/
import Derived.Test.YtkohlhnkaklnpaaMath
namespace Go.Proofs.Ytkohlhnkaklnpaa
namespace Rc
theorem get_le (b : List UInt8) : (get b).2 ≤ b.length := by
  unfold get
  split
  · rename_i h
    have := h.1.2.2.2
    exact this
  · exact Nat.zero_le _
theorem get_seven {b : List UInt8} (h : (get b).2 ≠ 0) : 7 ≤ (get b).2 := by
  unfold get at h ⊢
  split
  · rename_i hw
    have := siz_pos hw.1.2.1
    have := hw.1.2.1
    simp only
    omega
  · rename_i hw
    rw [if_neg hw] at h
    simp at h
theorem get_ne {b : List UInt8} (h : (get b).2 ≠ 0) : (get b).1 ≠ [] := by
  unfold get at h ⊢
  split
  · rename_i hw
    intro e
    have := data_length hw.1
    rw [show data b = [] from e] at this
    exact hw.1.2.1 this.symm
  · rename_i hw
    rw [if_neg hw] at h
    simp at h
/-- From the front so many records are told, of so many bytes. -/
inductive Told (b : List UInt8) : List (List UInt8) → Nat → Prop
  | none : Told b [] 0
  | more {ds : List (List UInt8)} {k : Nat} : Told b ds k → (get (b.drop k)).2 ≠ 0 → Told b (ds ++ [(get (b.drop k)).1]) (k + (get (b.drop k)).2)
theorem Told.le {b : List UInt8} {ds : List (List UInt8)} {k : Nat} (h : Told b ds k) : k ≤ b.length := by
  cases h with
  | none => exact Nat.zero_le _
  | @more ds k h hn =>
    have h1 := get_le (b.drop k)
    have h2 := get_seven hn
    rw [List.length_drop] at h1
    omega
theorem Told.count {b : List UInt8} {ds : List (List UInt8)} {k : Nat} (h : Told b ds k) : 7 * ds.length ≤ k := by
  induction h with
  | none => exact Nat.zero_le _
  | more h hn ih =>
    have h2 := get_seven hn
    simp
    omega
end Rc
end Go.Proofs.Ytkohlhnkaklnpaa
