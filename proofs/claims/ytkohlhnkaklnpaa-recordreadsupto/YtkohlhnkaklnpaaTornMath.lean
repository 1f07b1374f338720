/-
  Records that are cut off, or of which a byte is turned; several, one behind the other. No program in this text.
-/
import Derived.Test.YtkohlhnkaklnpaaThere
namespace Go.Proofs.Ytkohlhnkaklnpaa
namespace Rc
/-- What is told is written so. -/
theorem get_back {b : List UInt8} (h : (get b).2 ≠ 0) : fits (get b).1 ∧ (get b).2 = (made (get b).1).length ∧ b = made (get b).1 ++ b.drop (get b).2 := by
  obtain ⟨hw, hs, e⟩ := get_whole h
  have hdl := data_length hw
  have h0 := siz_pos hw.2.1
  have hall := hw.2.2.2
  obtain ⟨m, t, rfl⟩ : ∃ m t, b = m :: t := by
    cases b with
    | nil => simp at hall
    | cons m t => exact ⟨m, t, rfl⟩
  have hm : m = 130 := by
    have := hw.1
    simpa using this
  subst hm
  obtain ⟨u1, u2⟩ := getN_back (b := t) (n := (Dec.getN t).1) (s := (Dec.getN t).2) rfl h0
  have u1' : t.take (siz (130 :: t)) = Lib.uvarint (num (130 :: t)) := u1
  have u2' : siz (130 :: t) = (Lib.uvarint (num (130 :: t))).length := u2
  have hh : ((130 : UInt8) :: t).take (1 + siz (130 :: t)) = head (data (130 :: t)).length := by
    rw [hdl, Nat.add_comm, List.take_succ_cons, u1']
    rfl
  rw [e]
  have hml : 1 + siz (130 :: t) + 4 + num (130 :: t) = (made (data (130 :: t))).length := by
    rw [made_length, hdl, ← u2']
  refine ⟨⟨fun e0 => hw.2.1 (by rw [← hdl, show data (130 :: t) = [] from e0]; rfl), by rw [hdl]; exact hw.2.2.1⟩, hml, ?_⟩
  show ((130 : UInt8) :: t) = made (data (130 :: t)) ++ ((130 : UInt8) :: t).drop (1 + siz (130 :: t) + 4 + num (130 :: t))
  have a1 := List.take_append_drop (1 + siz (130 :: t)) ((130 : UInt8) :: t)
  have a2 := List.take_append_drop 4 (((130 : UInt8) :: t).drop (1 + siz (130 :: t)))
  have a3 := List.take_append_drop (num (130 :: t)) (((130 : UInt8) :: t).drop (1 + siz (130 :: t) + 4))
  rw [List.drop_drop] at a2
  rw [List.drop_drop] at a3
  have hd : (((130 : UInt8) :: t).drop (1 + siz (130 :: t) + 4)).take (num (130 :: t)) = data (130 :: t) := rfl
  rw [hd] at a3
  rw [← hs, hh, ← a3] at a2
  rw [hh, ← a2] at a1
  unfold made
  rw [List.append_assoc, List.append_assoc]
  exact a1.symm
/-- Of a record that is cut off nothing is told. -/
theorem get_cut {d : List UInt8} (hf : fits d) {j : Nat} (hj : j < (made d).length) : (get ((made d).take j)).2 = 0 := by
  by_cases h : (get ((made d).take j)).2 = 0
  · exact h
  · exfalso
    obtain ⟨f1, f2, f3⟩ := get_back h
    have hle := get_le ((made d).take j)
    rw [List.length_take] at hle
    have e : made d = made (get ((made d).take j)).1 ++ (((made d).take j).drop (get ((made d).take j)).2 ++ (made d).drop j) := by
      rw [← List.append_assoc, ← f3, List.take_append_drop]
    have g1 := get_made hf []
    rw [List.append_nil, e, get_made f1] at g1
    have g2 := congrArg Prod.snd g1
    simp only at g2
    rw [← e] at g2
    omega
/-- Of a record of which a byte is turned its data is not told. -/
theorem get_turned {d r : List UInt8} (hl : r.length = (made d).length) (hne : r ≠ made d) (h : (get r).2 ≠ 0) : (get r).1 ≠ d := by
  intro e
  obtain ⟨_, f2, f3⟩ := get_back h
  rw [e] at f2 f3
  rw [f2, ← hl, List.drop_length, List.append_nil] at f3
  exact hne f3
/-- The first record is told, then what stands behind it. -/
theorem told_made {d : List UInt8} (hf : fits d) {r : List UInt8} {ds : List (List UInt8)} {k : Nat} (h : Told (made d ++ r) ds k) (he : (get ((made d ++ r).drop k)).2 = 0) :
    ∃ ds' k', ds = d :: ds' ∧ k = (made d).length + k' ∧ Told r ds' k' ∧ (get (r.drop k')).2 = 0 := by
  have hg := get_made hf r
  cases ds with
  | nil =>
    obtain rfl : k = 0 := h
    rw [List.drop_zero, hg] at he
    exact absurd he (made_ne d)
  | cons e ds =>
    obtain ⟨h1, h2, h3, h4⟩ := h
    rw [hg] at h2 h3 h4
    have h3' : (made d).length ≤ k := h3
    rw [List.drop_left] at h4
    refine ⟨ds, k - (made d).length, by rw [h2], by omega, h4, ?_⟩
    rw [show k = (made d).length + (k - (made d).length) by omega, ← List.drop_drop, List.drop_left] at he
    exact he
theorem told_stop {r : List UInt8} {ds : List (List UInt8)} {k : Nat} (hz : (get r).2 = 0) (h : Told r ds k) : ds = [] ∧ k = 0 := by
  cases ds with
  | nil => exact ⟨rfl, h⟩
  | cons d ds => exact absurd hz h.1
theorem told_first {r d : List UInt8} {ds : List (List UInt8)} {k : Nat} (h : Told r (d :: ds) k) : (get r).2 ≠ 0 ∧ d = (get r).1 := ⟨h.1, h.2.1⟩
end Rc
end Go.Proofs.Ytkohlhnkaklnpaa
