/-
  A burst of up to 32 bits (A5, what follows), as plain mathematics: four bytes that stand together are turned. No program in this text.
-/
import Derived.Test.YtkcalcbefhgmcaaCrc
namespace Go.Proofs.Ytkcalcbefhgmcaa.Crc

/-- The byte number j of q. -/
def qb (q j : Nat) : UInt8 := UInt8.ofNat (q / 2 ^ (8 * j) % 256)
theorem qb_toNat (q j : Nat) : (qb q j).toNat = q / 2 ^ (8 * j) % 256 := by simp [qb, UInt8.toNat_ofNat']
/-- The bytes, the first k of the four turned. -/
def st (A : List UInt8) (f : Nat → UInt8) (C : List UInt8) (q k : Nat) : List UInt8 :=
  A ++ (if 0 < k then f 0 ^^^ qb q 0 else f 0) :: (if 1 < k then f 1 ^^^ qb q 1 else f 1) :: (if 2 < k then f 2 ^^^ qb q 2 else f 2) :: (if 3 < k then f 3 ^^^ qb q 3 else f 3) :: C
theorem st_length (A : List UInt8) (f : Nat → UInt8) (C : List UInt8) (q k : Nat) : (st A f C q k).length = A.length + 4 + C.length := by simp [st]; omega
theorem st_at (A : List UInt8) (f : Nat → UInt8) (C : List UInt8) (q k : Nat) (hk : k < 4) (r : List UInt8) (h : A.length + k < (st A f C q k ++ r).length) : (st A f C q k ++ r)[A.length + k] = f k := by
  rw [List.getElem_append_left (by rw [st_length]; omega)]
  simp only [st]
  rw [List.getElem_append_right (by omega)]
  rcases (show k = 0 ∨ k = 1 ∨ k = 2 ∨ k = 3 by omega) with rfl | rfl | rfl | rfl <;> simp
theorem st_set (A : List UInt8) (f : Nat → UInt8) (C : List UInt8) (q k : Nat) (hk : k < 4) (r : List UInt8) : (st A f C q k ++ r).set (A.length + k) (f k ^^^ qb q k) = st A f C q (k + 1) ++ r := by
  rw [List.set_append_left _ _ (by rw [st_length]; omega)]
  congr 1
  unfold st
  rw [List.set_append_right _ _ (by omega), Nat.add_sub_cancel_left]
  rcases (show k = 0 ∨ k = 1 ∨ k = 2 ∨ k = 3 by omega) with rfl | rfl | rfl | rfl <;> simp
theorem split4 (l : List UInt8) (p : Nat) (h : p + 4 ≤ l.length) : ∃ A f C, l = st A f C 0 0 ∧ A.length = p ∧ ∀ q, st A f C q 0 = l := by
  refine ⟨l.take p, fun j => l.getD (p + j) 0, l.drop (p + 4), ?_, by simp; omega, fun q => ?_⟩
  all_goals
    have e : l = l.take p ++ l.drop p := (List.take_append_drop p l).symm
    have d0 : l.drop p = l[p] :: l[p + 1] :: l[p + 2] :: l[p + 3] :: l.drop (p + 4) := by
      rw [List.drop_eq_getElem_cons (by omega), List.drop_eq_getElem_cons (by omega), List.drop_eq_getElem_cons (by omega), List.drop_eq_getElem_cons (by omega)]
    have g : ∀ j, j < l.length → l.getD j 0 = l[j]?.getD 0 := fun j _ => List.getD_eq_getElem?_getD ..
    simp only [st, Nat.lt_irrefl, Nat.not_lt_zero, if_false, Nat.add_zero, List.getD_eq_getElem?_getD]
    rw [List.getElem?_eq_getElem (by omega), List.getElem?_eq_getElem (by omega), List.getElem?_eq_getElem (by omega), List.getElem?_eq_getElem (by omega)]
    simp only [Option.getD_some]
  · rw [← d0]; exact e
  · rw [← d0]; exact e.symm
/-- Turned twice, nothing is turned. -/
theorem st_back (A : List UInt8) (f : Nat → UInt8) (C : List UInt8) (q : Nat) : ∃ f', st A f' C q 0 = st A f C q 4 ∧ st A f' C q 4 = st A f C q 0 := by
  refine ⟨fun j => f j ^^^ qb q j, ?_, ?_⟩
  · simp [st]
  · have e : ∀ x y : UInt8, x ^^^ y ^^^ y = x := fun x y => by rw [UInt8.xor_assoc, UInt8.xor_self, UInt8.xor_zero]
    simp [st, e]

theorem join4 (q : Nat) (h : q < 4294967296) : (q / 2 ^ (8 * 0) % 256) ^^^ (2 ^ 8 * (q / 2 ^ (8 * 1) % 256) ^^^ (2 ^ 16 * (q / 2 ^ (8 * 2) % 256) ^^^ 2 ^ 24 * (q / 2 ^ (8 * 3) % 256))) = q := by
  have xa : ∀ (i x y : Nat), y < 2 ^ i → y ^^^ 2 ^ i * x = y + 2 ^ i * x := fun i x y hy => by
    apply Nat.eq_of_testBit_eq
    intro j
    rw [Nat.testBit_xor, Nat.testBit_two_pow_mul, Nat.add_comm, Nat.testBit_two_pow_mul_add _ hy]
    by_cases hj : j < i
    · simp [hj, show ¬ i ≤ j by omega]
    · have : y.testBit j = false := Nat.testBit_lt_two_pow (Nat.lt_of_lt_of_le hy (Nat.pow_le_pow_right (by omega) (by omega)))
      simp [hj, show i ≤ j by omega, this]
  have e3 : 2 ^ 16 * (q / 2 ^ (8 * 2) % 256) ^^^ 2 ^ 24 * (q / 2 ^ (8 * 3) % 256) = 2 ^ 16 * (q / 2 ^ (8 * 2) % 256) + 2 ^ 24 * (q / 2 ^ (8 * 3) % 256) := xa 24 _ _ (by omega)
  rw [e3]
  have e2 : 2 ^ 16 * (q / 2 ^ (8 * 2) % 256) + 2 ^ 24 * (q / 2 ^ (8 * 3) % 256) = 2 ^ 16 * (q / 2 ^ (8 * 2) % 256 + 2 ^ 8 * (q / 2 ^ (8 * 3) % 256)) := by omega
  rw [e2, xa 16 _ _ (by omega)]
  have e1 : 2 ^ 8 * (q / 2 ^ (8 * 1) % 256) + 2 ^ 16 * (q / 2 ^ (8 * 2) % 256 + 2 ^ 8 * (q / 2 ^ (8 * 3) % 256)) = 2 ^ 8 * (q / 2 ^ (8 * 1) % 256 + 2 ^ 8 * (q / 2 ^ (8 * 2) % 256 + 2 ^ 8 * (q / 2 ^ (8 * 3) % 256))) := by omega
  rw [e1, xa 8 _ _ (by omega)]
  omega

theorem four_fold (s : Nat) (a b c d : UInt8) : crcFold s [a, b, c, d] = crcBits 32 (s ^^^ (a.toNat ^^^ (2 ^ 8 * b.toNat ^^^ (2 ^ 16 * c.toNat ^^^ 2 ^ 24 * d.toNat)))) := by
  rw [← four]; rfl
theorem mul_xor (i x y : Nat) : 2 ^ i * (x ^^^ y) = 2 ^ i * x ^^^ 2 ^ i * y := by
  have := Nat.shiftLeft_xor_distrib (a := x) (b := y) (i := i)
  simpa [Nat.shiftLeft_eq, Nat.mul_comm] using this

/-- A burst is told. -/
theorem burst (A : List UInt8) (f : Nat → UInt8) (C : List UInt8) (q : Nat) (hq : q < 4294967296) (h0 : q ≠ 0) : crc (st A f C q 4) ≠ crc (st A f C q 0) := by
  intro e
  have e1 : crcFold 4294967295 (st A f C q 4) = crcFold 4294967295 (st A f C q 0) := by
    have : crc (st A f C q 4) ^^^ 4294967295 = crc (st A f C q 0) ^^^ 4294967295 := by rw [e]
    unfold crc at this
    rwa [Nat.xor_assoc, Nat.xor_self, Nat.xor_zero, Nat.xor_assoc, Nat.xor_self, Nat.xor_zero] at this
  have hA := crcFold_lt A (s := 4294967295) (by omega)
  generalize hS : crcFold 4294967295 A = S at *
  have sp : ∀ (a b c d : UInt8), crcFold 4294967295 (A ++ a :: b :: c :: d :: C) = crcFold (crcFold S [a, b, c, d]) C := fun a b c d => by
    rw [show A ++ a :: b :: c :: d :: C = A ++ ([a, b, c, d] ++ C) by simp, crcFold_append, crcFold_append, hS]
  simp only [st, Nat.lt_irrefl, Nat.not_lt_zero, if_false, show (0 : Nat) < 4 by omega, show (1 : Nat) < 4 by omega, show (2 : Nat) < 4 by omega, show (3 : Nat) < 4 by omega, if_true] at e1
  rw [sp, sp] at e1
  have e2 := crcFold_inj C (crcFold_lt _ hA) (crcFold_lt _ hA) e1
  rw [four_fold, four_fold] at e2
  simp only [UInt8.toNat_xor, mul_xor, qb_toNat] at e2
  have hx : ∀ a b c d x y z u S : Nat, S ^^^ ((a ^^^ x) ^^^ ((b ^^^ y) ^^^ ((c ^^^ z) ^^^ (d ^^^ u)))) = (S ^^^ (a ^^^ (b ^^^ (c ^^^ d)))) ^^^ (x ^^^ (y ^^^ (z ^^^ u))) := fun a b c d x y z u S => by ac_rfl
  rw [hx, join4 q hq, crcBits_xor] at e2
  have e3 : crcBits 32 q = 0 := by
    have := congrArg (fun t => crcBits 32 (S ^^^ ((f 0).toNat ^^^ (2 ^ 8 * (f 1).toNat ^^^ (2 ^ 16 * (f 2).toNat ^^^ 2 ^ 24 * (f 3).toNat)))) ^^^ t) e2
    simp only [← Nat.xor_assoc, Nat.xor_self, Nat.zero_xor] at this
    exact this
  exact h0 (crcBits_zero 32 hq e3)
end Go.Proofs.Ytkcalcbefhgmcaa.Crc
