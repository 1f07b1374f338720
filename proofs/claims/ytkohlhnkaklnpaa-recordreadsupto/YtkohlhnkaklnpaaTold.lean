/-
  What a Scan tells, step by step. No program in this text.
-/
import Derived.Test.YtkohlhnkaklnpaaMath
namespace Go.Proofs.Ytkohlhnkaklnpaa
namespace Rc
theorem get_le (b : List UInt8) : (get b).2 ≤ b.length := by
  by_cases h : whole b ∧ sum4 (b.take (1 + siz b) ++ data b) = (b.drop (1 + siz b)).take 4
  · rw [get_pos h.1 h.2]
    exact h.1.2.2.2
  · rw [get_neg h]
    exact Nat.zero_le _
theorem get_whole {b : List UInt8} (h : (get b).2 ≠ 0) : whole b ∧ sum4 (b.take (1 + siz b) ++ data b) = (b.drop (1 + siz b)).take 4 ∧ get b = (data b, 1 + siz b + 4 + num b) := by
  by_cases hw : whole b ∧ sum4 (b.take (1 + siz b) ++ data b) = (b.drop (1 + siz b)).take 4
  · exact ⟨hw.1, hw.2, get_pos hw.1 hw.2⟩
  · rw [get_neg hw] at h
    exact absurd rfl h
theorem get_seven {b : List UInt8} (h : (get b).2 ≠ 0) : 7 ≤ (get b).2 := by
  obtain ⟨hw, _, e⟩ := get_whole h
  have h1 := siz_pos hw.2.1
  have h2 := hw.2.1
  rw [e]
  show 7 ≤ 1 + siz b + 4 + num b
  omega
theorem get_ne {b : List UInt8} (h : (get b).2 ≠ 0) : (get b).1 ≠ [] := by
  obtain ⟨hw, _, e⟩ := get_whole h
  rw [e]
  intro hd
  have hl := data_length hw
  rw [show data b = [] from hd] at hl
  exact hw.2.1 hl.symm
/-- From the front so many records are told, of so many bytes. -/
def Told : List UInt8 → List (List UInt8) → Nat → Prop
  | _, [], k => k = 0
  | b, d :: ds, k => (get b).2 ≠ 0 ∧ d = (get b).1 ∧ (get b).2 ≤ k ∧ Told (b.drop (get b).2) ds (k - (get b).2)
theorem Told.none {b : List UInt8} : Told b [] 0 := rfl
theorem told_more : ∀ (ds : List (List UInt8)) (b : List UInt8) (k : Nat), Told b ds k → (get (b.drop k)).2 ≠ 0 → Told b (ds ++ [(get (b.drop k)).1]) (k + (get (b.drop k)).2)
  | [], b, k, h, hn => by
    obtain rfl : k = 0 := h
    rw [List.drop_zero] at hn ⊢
    exact ⟨hn, rfl, by omega, by show 0 + (get b).2 - (get b).2 = 0; omega⟩
  | d :: ds, b, k, ⟨h1, h2, h3, h4⟩, hn => by
    have e : b.drop k = (b.drop (get b).2).drop (k - (get b).2) := by rw [List.drop_drop]; congr 1; omega
    rw [e] at hn ⊢
    have ih := told_more ds _ _ h4 hn
    refine ⟨h1, h2, by omega, ?_⟩
    rw [show k + (get ((b.drop (get b).2).drop (k - (get b).2))).2 - (get b).2 = k - (get b).2 + (get ((b.drop (get b).2).drop (k - (get b).2))).2 by omega]
    exact ih
theorem Told.more {b : List UInt8} {ds : List (List UInt8)} {k : Nat} (h : Told b ds k) (hn : (get (b.drop k)).2 ≠ 0) : Told b (ds ++ [(get (b.drop k)).1]) (k + (get (b.drop k)).2) := told_more ds b k h hn
theorem told_le : ∀ (ds : List (List UInt8)) (b : List UInt8) (k : Nat), Told b ds k → k ≤ b.length ∧ 7 * ds.length ≤ k
  | [], b, k, h => by
    obtain rfl : k = 0 := h
    simp
  | d :: ds, b, k, ⟨h1, h2, h3, h4⟩ => by
    have ih := told_le ds _ _ h4
    have hg := get_le b
    have h7 := get_seven h1
    rw [List.length_drop] at ih
    rw [List.length_cons]
    omega
theorem Told.le {b : List UInt8} {ds : List (List UInt8)} {k : Nat} (h : Told b ds k) : k ≤ b.length := (told_le ds b k h).1
theorem Told.count {b : List UInt8} {ds : List (List UInt8)} {k : Nat} (h : Told b ds k) : 7 * ds.length ≤ k := (told_le ds b k h).2
end Rc
end Go.Proofs.Ytkohlhnkaklnpaa
