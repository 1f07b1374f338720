/-
  Lines, there and back.
-/
import Derived.Test.YtpolajoephjdhaaGreatDoorCoQ
namespace Go.Proofs.YtpolajoephjdhaaGreatDoor
open Go.RowKit
set_option maxRecDepth 100000
theorem has_split (c : UInt8) : ∀ l : List UInt8, hasC c l = true → l = bef c l ++ c :: aft c l
  | [], h => by cases h
  | b :: l, h => by
    rw [hasC] at h
    by_cases hb : (b == c) = true
    · rw [bef, if_pos hb, aft, if_pos hb]
      have : b = c := by simpa using hb
      rw [this]; rfl
    · rw [if_neg hb] at h
      rw [bef, if_neg hb, aft, if_neg hb, List.cons_append, ← has_split c l h]
theorem cut_at (c : UInt8) : ∀ (a r : List UInt8), c ∉ a → bef c (a ++ c :: r) = a ∧ aft c (a ++ c :: r) = r ∧ hasC c (a ++ c :: r) = true
  | [], r, _ => by simp [bef, aft, hasC]
  | b :: a, r, h => by
    have hb : ¬ (b == c) = true := fun e => h (by have : b = c := by simpa using e
                                                  simp [this])
    obtain ⟨e1, e2, e3⟩ := cut_at c a r (fun e => h (by simp [e]))
    rw [List.cons_append, bef, if_neg hb, aft, if_neg hb, hasC, if_neg hb, e1, e2, e3]
    exact ⟨rfl, rfl, rfl⟩
theorem cut_none (c : UInt8) : ∀ (a : List UInt8), c ∉ a → bef c a = a ∧ aft c a = [] ∧ hasC c a = false
  | [], _ => by simp [bef, aft, hasC]
  | b :: a, h => by
    have hb : ¬ (b == c) = true := fun e => h (by have : b = c := by simpa using e
                                                  simp [this])
    obtain ⟨e1, e2, e3⟩ := cut_none c a (fun e => h (by simp [e]))
    rw [bef, if_neg hb, aft, if_neg hb, hasC, if_neg hb, e1, e2, e3]
    exact ⟨rfl, rfl, rfl⟩
/-! ### Numbers -/
def valD : List UInt8 → Nat → Nat
  | [], acc => acc
  | c :: r, acc => valD r (acc * 10 + (c.toNat - 48))
def Dig (l : List UInt8) : Prop := ∀ c ∈ l, 48 ≤ c.toNat ∧ c.toNat ≤ 57
theorem valD_snoc : ∀ (l : List UInt8) (c : UInt8) (acc : Nat), valD (l ++ [c]) acc = valD l acc * 10 + (c.toNat - 48)
  | [], c, acc => rfl
  | b :: l, c, acc => by rw [List.cons_append, valD, valD, valD_snoc l c]
theorem valD_ge : ∀ (l : List UInt8) (acc : Nat), acc ≤ valD l acc
  | [], acc => Nat.le_refl _
  | c :: r, acc => by
    have := valD_ge r (acc * 10 + (c.toNat - 48))
    rw [valD]; omega
theorem dig_nat (d : Nat) (h : d < 10) : (UInt8.ofNat (48 + d)).toNat = 48 + d := by
  rw [UInt8.toNat_ofNat']
  omega
theorem dec_spec : ∀ (n : Nat) (u : Nat), u ≤ n → Dig (Lib.decDigits u) ∧ valD (Lib.decDigits u) 0 = u ∧ Lib.decDigits u ≠ []
  | 0, u, h => by
    obtain rfl : u = 0 := by omega
    rw [Lib.decDigits]
    refine ⟨?_, rfl, by simp⟩
    intro c hc
    simp at hc
    subst hc
    decide
  | n + 1, u, h => by
    rw [Lib.decDigits]
    by_cases hu : u < 10
    · rw [dif_pos hu]
      refine ⟨?_, ?_, by simp⟩
      · intro c hc
        simp only [List.mem_singleton] at hc
        subst hc
        rw [dig_nat u hu]; omega
      · show valD [UInt8.ofNat (48 + u)] 0 = u
        rw [valD, valD, dig_nat u hu]; omega
    · rw [dif_neg hu]
      obtain ⟨h1, h2, h3⟩ := dec_spec n (u / 10) (by omega)
      refine ⟨?_, ?_, by simp⟩
      · intro c hc
        rw [List.mem_append] at hc
        rcases hc with hc | hc
        · exact h1 c hc
        · simp only [List.mem_singleton] at hc
          subst hc
          rw [dig_nat _ (Nat.mod_lt _ (by omega))]; omega
      · rw [valD_snoc, h2, dig_nat _ (Nat.mod_lt _ (by omega))]; omega
theorem uintM_dig (l : List UInt8) : ∀ (acc : Nat), Dig l → valD l acc ≤ 18446744073709551615 → Lib.parseUintM 18446744073709551615 acc l = .ok (valD l acc) := by
  induction l with
  | nil => intro acc _ _; rw [valD, Lib.parseUintM]
  | cons c r ih =>
    intro acc hd hv
    have hc := hd c (by simp)
    have hr : Dig r := fun x hx => hd x (by simp [hx])
    rw [valD] at hv ⊢
    have hg := valD_ge r (acc * 10 + (c.toNat - 48))
    rw [Lib.parseUintM, if_pos hc, if_neg (by omega), if_neg (by omega)]
    exact ih _ hr hv
theorem uintB_dec (u : Nat) (h : u ≤ 18446744073709551615) : Lib.parseUintB 64 (Lib.decDigits u) = .ok u := by
  obtain ⟨h1, h2, h3⟩ := dec_spec u u (Nat.le_refl _)
  unfold Lib.parseUintB
  rw [if_neg (by simpa using h3)]
  have := uintM_dig (Lib.decDigits u) 0 h1 (by rw [h2]; exact h)
  rw [h2] at this
  exact this
theorem rdN_itoa {n : Int} (h : I6 n) : rdN (Lib.itoa n) = n := by
  unfold rdN Lib.itoa I6 at *
  by_cases hn : n < 0
  · rw [if_pos hn]
    have hu := uintB_dec n.natAbs (by omega)
    have : Lib.parseIntB 64 (45 :: Lib.decDigits n.natAbs) = .ok n := by
      unfold Lib.parseIntB
      dsimp only
      rw [if_pos (.inr rfl), hu]
      dsimp only
      rw [if_neg (by intro e; exact e.1 rfl), if_neg (by intro e; have := e.2; omega)]
      congr 1
      rw [if_pos (show UInt8.toNat 45 = 45 from rfl)]
      omega
    rw [this]
  · rw [if_neg hn]
    have hu := uintB_dec n.toNat (by omega)
    obtain ⟨h1, -, h3⟩ := dec_spec n.toNat n.toNat (Nat.le_refl _)
    have : Lib.parseIntB 64 (Lib.decDigits n.toNat) = .ok n := by
      cases hd : Lib.decDigits n.toNat with
      | nil => exact absurd hd h3
      | cons c r =>
        have hc := h1 c (by rw [hd]; simp)
        rw [hd] at hu
        unfold Lib.parseIntB
        dsimp only
        rw [if_neg (by omega), hu]
        dsimp only
        rw [if_neg (by intro e; have := e.2; omega), if_neg (by intro e; have := e.1; omega)]
        congr 1
        rw [if_neg (by omega)]
        omega
    rw [this]
theorem itoa_no {n : Int} {c : UInt8} (hc : c.toNat ≠ 45 ∧ ¬ (48 ≤ c.toNat ∧ c.toNat ≤ 57)) : c ∉ Lib.itoa n := by
  unfold Lib.itoa
  have hd := fun u => (dec_spec u u (Nat.le_refl _)).1
  split
  · intro h
    rw [List.mem_cons] at h
    rcases h with h | h
    · subst h; exact hc.1 rfl
    · exact hc.2 (hd _ c h)
  · intro h
    exact hc.2 (hd _ c h)
end Go.Proofs.YtpolajoephjdhaaGreatDoor
