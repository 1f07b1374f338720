import Derived.Test.YtkohlhnkaklnpaaTold
import Derived.Test.YtkohlhnkaklnpaaDec
import Derived.Lib.VarintMem
/-
  Records, there and back: what is written is told, whatever stands behind it; what is told is written so. No program in this text.
-/
namespace Go.Proofs.Ytkohlhnkaklnpaa
open Go.RowKit

/-! ### Numbers -/
theorem byte_small {y : Nat} (h : y < 256) : (y.toUInt8).toNat = y := by simp [Nat.toUInt8, UInt8.toNat_ofNat']; omega
theorem getFrom_put : ∀ (f y k acc : Nat) (b : List UInt8), y ≤ f → y * 2 ^ (7 * k) < 18446744073709551616 → k < 10 → (0 < k → 0 < y) → Dec.getFrom k acc (Lib.uvarint y ++ b) = (acc + y * 2 ^ (7 * k), k + (Lib.uvarint y).length)
  | f, y, k, acc, b, hf, hy, hk, hpos => by
    by_cases hs : y < 128
    · rw [Lib.uvarint_small hs]
      have e := byte_small (show y < 256 by omega)
      have h9 : k = 9 → y ≤ 1 := by
        rintro rfl
        have : 2 ^ (7 * 9) = 9223372036854775808 := by decide
        omega
      show Dec.getFrom k acc (y.toUInt8 :: b) = _
      rw [Dec.getFrom_last hk (by omega) (by omega), e]
      rfl
    · have hb : (y % 128 + 128).toUInt8.toNat = y % 128 + 128 := byte_small (by omega)
      have hpow : 2 ^ (7 * (k + 1)) = 128 * 2 ^ (7 * k) := by rw [show 7 * (k + 1) = 7 * k + 7 by omega, Nat.pow_add, Nat.mul_comm]
      have hk8 : k < 9 := by
        refine Classical.byContradiction fun h => ?_
        have e : k = 9 := by omega
        subst e
        have : 2 ^ (7 * 9) = 9223372036854775808 := by decide
        omega
      have hm : y * 2 ^ (7 * k) = y % 128 * 2 ^ (7 * k) + y / 128 * 2 ^ (7 * (k + 1)) := by
        rw [hpow, ← Nat.mul_assoc, ← Nat.add_mul]
        congr 1
        omega
      rw [Lib.uvarint_big (by omega), List.cons_append, Dec.getFrom_more hk (by omega)]
      cases f with
      | zero => omega
      | succ f =>
        rw [getFrom_put f (y / 128) (k + 1) _ b (by omega) (by omega) (by omega) (by omega), hb]
        simp only [List.length_cons, Prod.mk.injEq]
        constructor
        · rw [show (y % 128 + 128) % 128 = y % 128 by omega, hm]
          omega
        · omega
theorem getN_put {n : Nat} (h : n < 18446744073709551616) (b : List UInt8) : Dec.getN (Lib.uvarint n ++ b) = (n, (Lib.uvarint n).length) := by
  have := getFrom_put n n 0 0 b (Nat.le_refl _) (by simpa using h) (by omega) (by omega)
  simpa [Dec.getN] using this
theorem getFrom_back : ∀ (b : List UInt8) (k acc : Nat), k ≤ 10 → (Dec.getFrom k acc b).2 ≠ 0 → ∃ y, (Dec.getFrom k acc b).1 = acc + y * 2 ^ (7 * k) ∧ (Dec.getFrom k acc b).2 = k + (Lib.uvarint y).length ∧ b.take (Lib.uvarint y).length = Lib.uvarint y ∧ (0 < k → 0 < y)
  | [], k, acc, _, h => by rw [Dec.getFrom_nil] at h; simp at h
  | c :: b, k, acc, hk, h => by
    by_cases h10 : 10 ≤ k
    · rw [Dec.getFrom_ten k acc _ h10] at h; simp at h
    by_cases hc : 128 ≤ c.toNat
    · rw [Dec.getFrom_more (by omega) hc] at h ⊢
      obtain ⟨y, h1, h2, h3, h4⟩ := getFrom_back b (k + 1) _ (by omega) h
      have hy := h4 (by omega)
      have hlt := c.toNat_lt
      have hpow : 2 ^ (7 * (k + 1)) = 128 * 2 ^ (7 * k) := by rw [show 7 * (k + 1) = 7 * k + 7 by omega, Nat.pow_add, Nat.mul_comm]
      have e1 : (c.toNat % 128 + 128 * y) / 128 = y := by omega
      have e2 : (c.toNat % 128 + 128 * y) % 128 + 128 = c.toNat := by omega
      have e3 : c.toNat.toUInt8 = c := by simp [Nat.toUInt8]
      have eu : Lib.uvarint (c.toNat % 128 + 128 * y) = c :: Lib.uvarint y := by rw [Lib.uvarint_big (by omega), e1, e2, e3]
      refine ⟨c.toNat % 128 + 128 * y, ?_, ?_, ?_, by omega⟩
      · rw [h1, hpow, Nat.add_mul, Nat.mul_assoc 128, ← Nat.mul_assoc y, Nat.mul_comm y 128, Nat.mul_assoc 128]
        omega
      · rw [h2, eu, List.length_cons]
        omega
      · rw [eu, List.length_cons, List.take_succ_cons, h3]
    · by_cases hbad : (0 < k ∧ c.toNat = 0) ∨ (k = 9 ∧ 1 < c.toNat)
      · rw [Dec.getFrom_bad (by omega) (by omega) hbad] at h; simp at h
      · rw [Dec.getFrom_last (by omega) (by omega) hbad] at h ⊢
        have e3 : c.toNat.toUInt8 = c := by simp [Nat.toUInt8]
        have eu : Lib.uvarint c.toNat = [c] := by rw [Lib.uvarint_small (by omega), e3]
        exact ⟨c.toNat, rfl, by rw [eu]; rfl, by rw [eu]; rfl, by omega⟩
theorem getN_back {b : List UInt8} {n s : Nat} (h : Dec.getN b = (n, s)) (hs : s ≠ 0) : b.take s = Lib.uvarint n ∧ s = (Lib.uvarint n).length := by
  have h0 : (Dec.getFrom 0 0 b).2 ≠ 0 := by show (Dec.getN b).2 ≠ 0; rw [h]; exact hs
  obtain ⟨y, h1, h2, h3, _⟩ := getFrom_back b 0 0 (by omega) h0
  have h1' : (Dec.getN b).1 = 0 + y * 2 ^ (7 * 0) := h1
  have h2' : (Dec.getN b).2 = 0 + (Lib.uvarint y).length := h2
  rw [h] at h1' h2'
  simp at h1' h2'
  subst h1'
  exact ⟨by rw [h2']; exact h3, h2'⟩
/-! ### Numbers one by one -/

namespace Rc
theorem num_made {d : List UInt8} (hd : d.length < 18446744073709551616) (j : List UInt8) : num (made d ++ j) = d.length ∧ siz (made d ++ j) = (Lib.uvarint d.length).length := by
  have e : (made d ++ j).drop 1 = Lib.uvarint d.length ++ (sum4 (head d.length ++ d) ++ d ++ j) := by
    simp [made, head]
  unfold num siz
  rw [e, getN_put hd]
  exact ⟨rfl, rfl⟩
theorem whole_made {d : List UInt8} (hf : fits d) (j : List UInt8) : whole (made d ++ j) := by
  have hd := hf.2
  obtain ⟨h1, h2⟩ := num_made (d := d) (by omega) j
  refine ⟨by simp [made, head], ?_, by omega, ?_⟩
  · rw [h1]
    exact fun e => hf.1 (List.eq_nil_of_length_eq_zero e)
  · rw [h1, h2, List.length_append, made_length]
    omega
theorem get_made {d : List UInt8} (hf : fits d) (j : List UInt8) : get (made d ++ j) = (d, (made d).length) := by
  have hd := hf.2
  obtain ⟨h1, h2⟩ := num_made (d := d) (by omega) j
  have hhl := head_length d.length
  have hs := sum4_length (head d.length ++ d)
  have e1 : (made d ++ j).take (1 + (Lib.uvarint d.length).length) = head d.length := by
    rw [made, List.append_assoc, List.take_left' (by omega)]
  have e2 : (made d ++ j).drop (1 + (Lib.uvarint d.length).length) = sum4 (head d.length ++ d) ++ (d ++ j) := by
    rw [made, List.append_assoc, List.drop_left' (by omega), List.append_assoc]
  have e3 : data (made d ++ j) = d := by
    unfold data
    rw [h1, h2, ← List.drop_drop, e2, List.drop_left' (by omega), List.take_left' rfl]
  rw [get_pos (whole_made hf j) (by rw [e3, h2, e1, e2, List.take_left' (by omega)]), e3, h1, h2, made_length]
theorem made_ne (d : List UInt8) : (made d).length ≠ 0 := by
  rw [made_length]
  omega
end Rc
end Go.Proofs.Ytkohlhnkaklnpaa
