import Derived.Lib.Varint
import Derived.Test.YtafmiolehlagkaaGreatPSum
import Derived.Lib.Zigzag
import Derived.Laws.BytesArg
import Derived.Test.YtafmiolehlagkaaGreatPRow
import Derived.Test.YtafmiolehlagkaaGreatTBase
import Derived.Test.YtafmiolehlagkaaGreatTCol
import Derived.Test.YtafmiolehlagkaaGreatWParts
import Derived.Test.YtafmiolehlagkaaGreatWMath
/-
  A1 TO A3 READ, AS PLAIN MATHEMATICS: no program in this text. 'getN': what Get tells of bytes. 'unzig': back from zig-zag.
-/
namespace Go.Proofs.YtafmiolehlagkaaGreat.Pak.Dec

def getFrom : Nat → Nat → List UInt8 → Nat × Nat
  | _, _, [] => (0, 0)
  | k, acc, b :: r =>
    if 10 ≤ k then (0, 0)
    else if 128 ≤ b.toNat then getFrom (k + 1) (acc + b.toNat % 128 * 2 ^ (7 * k)) r
    else if (0 < k ∧ b.toNat = 0) ∨ (k = 9 ∧ 1 < b.toNat) then (0, 0)
    else (acc + b.toNat * 2 ^ (7 * k), k + 1)
def getN (l : List UInt8) : Nat × Nat := getFrom 0 0 l

theorem getFrom_nil (k acc : Nat) : getFrom k acc [] = (0, 0) := by unfold getFrom; rfl
theorem getFrom_ten (k acc : Nat) (r : List UInt8) (h : 10 ≤ k) : getFrom k acc r = (0, 0) := by
  cases r with
  | nil => exact getFrom_nil _ _
  | cons b r => unfold getFrom; rw [if_pos h]
theorem getFrom_more {k acc : Nat} {b : UInt8} {r : List UInt8} (hk : k < 10) (hb : 128 ≤ b.toNat) : getFrom k acc (b :: r) = getFrom (k + 1) (acc + b.toNat % 128 * 2 ^ (7 * k)) r := by
  rw [getFrom, if_neg (by omega), if_pos hb]
theorem getFrom_bad {k acc : Nat} {b : UInt8} {r : List UInt8} (hk : k < 10) (hb : b.toNat < 128) (h : (0 < k ∧ b.toNat = 0) ∨ (k = 9 ∧ 1 < b.toNat)) : getFrom k acc (b :: r) = (0, 0) := by
  rw [getFrom, if_neg (by omega), if_neg (by omega), if_pos h]
theorem getFrom_last {k acc : Nat} {b : UInt8} {r : List UInt8} (hk : k < 10) (hb : b.toNat < 128) (h : ¬ ((0 < k ∧ b.toNat = 0) ∨ (k = 9 ∧ 1 < b.toNat))) : getFrom k acc (b :: r) = (acc + b.toNat * 2 ^ (7 * k), k + 1) := by
  rw [getFrom, if_neg (by omega), if_neg (by omega), if_neg h]

/-- What is read lies within the bytes, and fits 64 bits. -/
theorem getFrom_bounds : ∀ (r : List UInt8) (k acc : Nat), k ≤ 10 → acc < 2 ^ (7 * k) → (getFrom k acc r).1 < 18446744073709551616 ∧ (getFrom k acc r).2 ≤ k + r.length ∧ (getFrom k acc r).2 ≤ 10
  | [], k, acc, hk, _ => by rw [getFrom_nil]; exact ⟨by simp, Nat.zero_le _, Nat.zero_le _⟩
  | b :: r, k, acc, hk, ha => by
    by_cases h10 : 10 ≤ k
    · rw [getFrom_ten k acc _ h10]; exact ⟨by simp, Nat.zero_le _, Nat.zero_le _⟩
    have hpow : 2 ^ (7 * (k + 1)) = 128 * 2 ^ (7 * k) := by rw [show 7 * (k + 1) = 7 * k + 7 by omega, Nat.pow_add, Nat.mul_comm]
    by_cases hb : 128 ≤ b.toNat
    · rw [getFrom_more (by omega) hb]
      have hlt : acc + b.toNat % 128 * 2 ^ (7 * k) < 2 ^ (7 * (k + 1)) := by
        have h1 : b.toNat % 128 ≤ 127 := by omega
        have h2 := Nat.mul_le_mul_right (2 ^ (7 * k)) h1
        omega
      obtain ⟨h1, h2, h3⟩ := getFrom_bounds r (k + 1) _ (by omega) hlt
      exact ⟨h1, by simp; omega, h3⟩
    · by_cases hbad : (0 < k ∧ b.toNat = 0) ∨ (k = 9 ∧ 1 < b.toNat)
      · rw [getFrom_bad (by omega) (by omega) hbad]; exact ⟨by simp, Nat.zero_le _, Nat.zero_le _⟩
      · rw [getFrom_last (by omega) (by omega) hbad]
        refine ⟨?_, by simp <;> omega, by simp; try omega⟩
        show acc + b.toNat * 2 ^ (7 * k) < 18446744073709551616
        by_cases h9 : k = 9
        · subst h9
          have hb1 : b.toNat ≤ 1 := by omega
          have h2 := Nat.mul_le_mul_right (2 ^ (7 * 9)) hb1
          have e : 2 ^ (7 * 9) = 9223372036854775808 := by decide
          omega
        · have h1 : b.toNat ≤ 127 := by omega
          have h2 := Nat.mul_le_mul_right (2 ^ (7 * k)) h1
          have h3 : 2 ^ (7 * (k + 1)) ≤ 2 ^ 63 := Nat.pow_le_pow_right (by omega) (by omega)
          have e : 2 ^ 63 = 9223372036854775808 := by decide
          omega
theorem getN_lt (l : List UInt8) : (getN l).1 < 18446744073709551616 := (getFrom_bounds l 0 0 (by omega) (by simp)).1
theorem getN_le (l : List UInt8) : (getN l).2 ≤ l.length := by have := (getFrom_bounds l 0 0 (by omega) (by simp)).2.1; simpa [getN] using this
theorem getN_ten (l : List UInt8) : (getN l).2 ≤ 10 := (getFrom_bounds l 0 0 (by omega) (by simp)).2.2
/-- Where there is none, the number is 0. -/
theorem getFrom_none : ∀ (r : List UInt8) (k acc : Nat), (getFrom k acc r).2 = 0 → (getFrom k acc r).1 = 0
  | [], k, acc, _ => by rw [getFrom_nil]
  | b :: r, k, acc, h => by
    by_cases h10 : 10 ≤ k
    · rw [getFrom_ten k acc _ h10]
    by_cases hb : 128 ≤ b.toNat
    · rw [getFrom_more (by omega) hb] at h ⊢
      exact getFrom_none r _ _ h
    · by_cases hbad : (0 < k ∧ b.toNat = 0) ∨ (k = 9 ∧ 1 < b.toNat)
      · rw [getFrom_bad (by omega) (by omega) hbad]
      · rw [getFrom_last (by omega) (by omega) hbad] at h
        simp at h
theorem getN_none {l : List UInt8} (h : (getN l).2 = 0) : (getN l).1 = 0 := getFrom_none l 0 0 h

/-- Zig-zag undone. -/
def unzig (n : Nat) : Int := if n % 2 = 0 then ((n / 2 : Nat) : Int) else -((n / 2 : Nat) : Int) - 1
theorem unzig_zigzag (x : Int) : unzig (Lib.zigzag x) = x := by unfold unzig Lib.zigzag; split <;> split <;> omega
theorem zigzag_unzig (n : Nat) : Lib.zigzag (unzig n) = n := by unfold unzig Lib.zigzag; split <;> split <;> omega
theorem unzig_bounds {n : Nat} (h : n < 18446744073709551616) : -9223372036854775808 ≤ unzig n ∧ unzig n ≤ 9223372036854775807 := by unfold unzig; split <;> omega

end Go.Proofs.YtafmiolehlagkaaGreat.Pak.Dec

namespace Go.Proofs.YtafmiolehlagkaaGreat.Pak
open Go.RowKit
set_option maxRecDepth 100000

theorem ret_pair {k k' : IntKind} {a b a' b' : Int} (h : a = a') (h' : b = b') : Ending.returned (.tuple #[.int k a, .int k' b]) = .returned (.tuple #[.int k a', .int k' b']) := by rw [h, h']
theorem andNot128 (b : Nat) (hb : b < 256) : bits .andNot .u8 (b : Int) 128 = ((b % 128 : Nat) : Int) := by
  rw [show (128 : Int) = ((128 : Nat) : Int) by rfl, u8_andNot_nat b 128 hb (by omega), nat_mask7]
theorem and128_nat : ∀ b : Fin 256, b.val &&& 128 = if 128 ≤ b.val then 128 else 0 := by decide +kernel
theorem and128 (b : Nat) (hb : b < 256) : bits .and .u8 (b : Int) 128 = if 128 ≤ b then 128 else 0 := by
  rw [show bits .and .u8 (b : Int) 128 = ((b &&& 128 : Nat) : Int) from u8_and_nat b 128 hb (by omega), and128_nat ⟨b, hb⟩]
  split <;> rfl
theorem or_shift {k acc b : Nat} (hacc : acc < 2 ^ (7 * k)) (hb : b * 2 ^ (7 * k) < 18446744073709551616) (hk : k < 10) :
    bits .or .u64 (acc : Int) (IntKind.u64.wrap ((b : Int) * 2 ^ (7 * k))) = ((acc + b * 2 ^ (7 * k) : Nat) : Int) := by
  have e : ((b : Int) * 2 ^ (7 * k)) = ((b * 2 ^ (7 * k) : Nat) : Int) := by
    rw [Int.natCast_mul, Int.natCast_pow]
    rfl
  have hp : 2 ^ (7 * k) ≤ 2 ^ 63 := Nat.pow_le_pow_right (by omega) (by omega)
  have h63 : 2 ^ 63 = 9223372036854775808 := by decide
  rw [e, IntKind.wrap_u64, show (((b * 2 ^ (7 * k) : Nat) : Int) % 18446744073709551616) = ((b * 2 ^ (7 * k) : Nat) : Int) by omega, u64_or_nat _ _ (by omega) hb, Nat.or_comm, nat_join (7 * k) _ _ (Nat.mul_mod_left _ _) hacc, Nat.add_comm]
theorem or_shift9 {acc b : Nat} (hacc : acc < 9223372036854775808) (hb : b ≤ 1) :
    bits .or .u64 (acc : Int) ((b : Int) * 9223372036854775808) = ((acc + b * 2 ^ (7 * 9) : Nat) : Int) := by
  rw [show ((b : Int) * 9223372036854775808) = ((b * 2 ^ (7 * 9) : Nat) : Int) by rw [show (2 : Nat) ^ (7 * 9) = 9223372036854775808 by decide]; omega]
  have hlt : b * 2 ^ (7 * 9) < 18446744073709551616 := by rw [show (2 : Nat) ^ (7 * 9) = 9223372036854775808 by decide]; omega
  rw [u64_or_nat _ _ (by omega) hlt, Nat.or_comm, nat_join (7 * 9) _ _ (Nat.mul_mod_left _ _) hacc, Nat.add_comm]
theorem or_any (x y : Int) : ∃ a : Nat, a < 18446744073709551616 ∧ bits .or .u64 x y = (a : Int) := by
  have h0 := bits_lo_u64 .or x y
  have h1 := bits_hi_u64 .or x y
  exact ⟨(bits .or .u64 x y).toNat, by omega, by omega⟩
theorem pow_bound {k b : Nat} (hk : k < 9) (hb : b ≤ 127) : b * 2 ^ (7 * k) < 18446744073709551616 ∧ 2 ^ (7 * (k + 1)) = 128 * 2 ^ (7 * k) := by
  have h2 := Nat.mul_le_mul_right (2 ^ (7 * k)) hb
  have hp : 2 ^ (7 * k) ≤ 2 ^ 56 := Nat.pow_le_pow_right (by omega) (by omega)
  have h56 : 2 ^ 56 = 72057594037927936 := by decide
  exact ⟨by omega, by rw [show 7 * (k + 1) = 7 * k + 7 by omega, Nat.pow_add, Nat.mul_comm]⟩

set_option maxHeartbeats 4000000 in
set_option maxRecDepth 100000 in
theorem get_some (g o c : Nat) (l : List UInt8) (w : World) (hl : l.length ≤ maxLen) (hcell : ∀ j (hj : j < l.length), w.cell? ⟨g, o + j, none⟩ = some (.int .u8 (l[j]).toNat)) :
    Calls Tryz.prog 176 #[.slice (some ⟨g, o, none⟩) l.length c] w fun e w' => e = .returned (.tuple #[.int .u64 (Dec.getN l).1, .int .i64 (Dec.getN l).2]) ∧ w' = w := by
  unfold maxLen at hl
  by_cases hmin : (l.length : Int) ≤ 10
  all_goals
    go_enter Tryz.func176, Tryz.ntmps176
    go_wp2
    go_loop [4, 11] (fun s i => ∃ k acc : Nat, k ≤ l.length ∧ k ≤ 10 ∧ i = .int .i64 k ∧ s = .int .u64 acc ∧ acc < 18446744073709551616 ∧ (k < 10 → acc < 2 ^ (7 * k)) ∧ Hid (Dec.getN l = Dec.getFrom k acc (l.drop k))) (fun _ i => l.length - (intOf i).toNat)
    case atStart => exact ⟨0, 0, Nat.zero_le _, by omega, rfl, rfl, by omega, by simp, rfl⟩
    case round =>
      obtain ⟨k, acc, hk, hk10, rfl, rfl, ha, hacc, hdec⟩ := hrel
      by_cases hlt : k < l.length ∧ k < 10
      · obtain ⟨hlt, h10⟩ := hlt
        have hc := hcell k hlt
        have hacc1 := hacc h10
        clear hacc
        have HA := hide hacc1
        clear hacc1
        have hdrop : l.drop k = l[k]'(by omega) :: l.drop (k + 1) := List.drop_eq_getElem_cons (by omega)
        have hdec1 := hdec.out
        rw [hdrop] at hdec1
        generalize l[k]'(by omega) = b at hc hdec1
        clear hdec hdrop hcell
        have hb := b.toNat_lt
        have f1 := andNot128 b.toNat hb
        have f2 := and128 b.toNat hb
        have HD := hide hdec1
        clear hdec1
        by_cases hbig : 128 ≤ b.toNat
        · rw [if_pos hbig] at f2
          rcases (show k < 9 ∨ k = 9 by omega) with h9 | rfl
          · have f3 := or_shift (b := b.toNat % 128) HA.out (pow_bound h9 (by omega)).1 h10
            have f3' : bits .or .u64 (acc : Int) (IntKind.u64.wrap ((b.toNat : Int) % 128 * 2 ^ (7 * k))) = ((acc + b.toNat % 128 * 2 ^ (7 * k) : Nat) : Int) := f3
            go_wp2
            refine ⟨⟨k + 1, acc + b.toNat % 128 * 2 ^ (7 * k), by omega, by omega, by go_num, by first | rfl | exact val_int f3', ?_, ?_, HD.out.trans (Dec.getFrom_more h10 hbig)⟩, by simp [intOf]; omega⟩
            · have h1 := HA.out
              have h2 := (pow_bound h9 (show b.toNat % 128 ≤ 127 by omega)).1
              have hp : 2 ^ (7 * k) ≤ 2 ^ 56 := Nat.pow_le_pow_right (by omega) (by omega)
              have h56 : 2 ^ 56 = 72057594037927936 := by decide
              have h3 := Nat.mul_le_mul_right (2 ^ (7 * k)) (show b.toNat % 128 ≤ 127 by omega)
              omega
            · intro _
              rw [(pow_bound h9 (show b.toNat % 128 ≤ 127 by omega)).2]
              have h1 := HA.out
              have h3 := Nat.mul_le_mul_right (2 ^ (7 * k)) (show b.toNat % 128 ≤ 127 by omega)
              omega
          · obtain ⟨a2, ha2, he⟩ := or_any (acc : Int) (IntKind.u64.wrap ((b.toNat : Int) % 128 * 9223372036854775808))
            have HE := hide he
            clear he
            go_wp2
            refine ⟨⟨10, a2, by omega, by omega, rfl, val_int HE.out, ha2, by omega, HD.out.trans ?_⟩, by simp [intOf]; omega⟩
            rw [Dec.getFrom_more (by omega) hbig, Dec.getFrom_ten _ _ _ (by omega), Dec.getFrom_ten _ _ _ (by omega)]
        · rw [if_neg hbig] at f2
          rcases (show k = 0 ∨ (0 < k ∧ k < 9) ∨ k = 9 by omega) with rfl | ⟨hk0, h9⟩ | rfl
          · obtain rfl : acc = 0 := by have := HA.out; simpa using this
            have E := hide (HD.out.trans (Dec.getFrom_last (by omega) (by omega) (by omega)))
            clear HD HA
            have hc0 : w.cell? ⟨g, o, none⟩ = some (.int .u8 b.toNat) := hc
            have f3 : bits .or .u64 0 (b.toNat : Int) = (b.toNat : Int) := by
              have := u64_or_nat 0 b.toNat (by omega) (by omega)
              rw [Nat.zero_or] at this
              exact this
            have F3 := hide f3
            clear f3
            go_wp2
            go_ret2
            rw [E.out]
            exact ⟨ret_pair (by simp; rw [show (b.toNat : Int) % 128 = (b.toNat : Int) by omega]; exact F3.out) (by simp), rfl⟩
          · by_cases hb0 : b.toNat = 0
            · have E := hide (HD.out.trans (Dec.getFrom_bad (by omega) (by omega) (.inl ⟨hk0, hb0⟩)))
              clear HD
              have hz : ((b.toNat : Int) == 0) = true := by simp [hb0]
              have HB := hide hb0
              clear hb0
              go_wp2
              go_ret2
              rw [E.out]
              exact ⟨ret_pair rfl rfl, rfl⟩
            · have E := hide (HD.out.trans (Dec.getFrom_last (by omega) (by omega) (by omega)))
              clear HD
              have hz : ((b.toNat : Int) == 0) = false := by simp [hb0]
              have f3 := or_shift (b := b.toNat) HA.out (pow_bound h9 (by omega)).1 (by omega)
              have F3 := hide f3
              clear f3
              go_wp2
              go_ret2
              rw [E.out]
              exact ⟨ret_pair (by rw [show (b.toNat : Int) % 128 = (b.toNat : Int) by omega]; exact F3.out) (by simp), rfl⟩
          · have hacc9 : acc < 9223372036854775808 := by have := HA.out; simpa using this
            rcases (show b.toNat = 0 ∨ b.toNat = 1 ∨ 1 < b.toNat by omega) with hb0 | hb1 | hb2
            · have E := hide (HD.out.trans (Dec.getFrom_bad (by omega) (by omega) (.inl ⟨by omega, hb0⟩)))
              clear HD
              have hz : ((b.toNat : Int) == 0) = true := by simp [hb0]
              have HB := hide hb0
              clear hb0
              go_wp2
              go_ret2
              rw [E.out]
              exact ⟨ret_pair rfl rfl, rfl⟩
            · have E := hide (HD.out.trans (Dec.getFrom_last (by omega) (by omega) (by omega)))
              clear HD
              have hz : ((b.toNat : Int) == 0) = false := by simp [hb1]
              have hle : (b.toNat : Int) ≤ 1 := by omega
              have f3 := or_shift9 (b := b.toNat) hacc9 (by omega)
              have F3 := hide f3
              have HB := hide hb1
              clear f3 hb1
              go_wp2
              go_ret2
              rw [E.out]
              exact ⟨ret_pair (by rw [show (b.toNat : Int) % 128 = (b.toNat : Int) by omega]; exact F3.out) (by simp), rfl⟩
            · have E := hide (HD.out.trans (Dec.getFrom_bad (by omega) (by omega) (.inr ⟨rfl, hb2⟩)))
              clear HD
              have hz : ((b.toNat : Int) == 0) = false := by rw [beq_eq_false_iff_ne]; omega
              go_wp2
              go_ret2
              rw [E.out]
              exact ⟨ret_pair rfl rfl, rfl⟩
      · have E := hide (hdec.out.trans (show _ = ((0, 0) : Nat × Nat) by
          by_cases h : k < 10
          · rw [List.drop_eq_nil_of_le (by omega)]; exact Dec.getFrom_nil _ _
          · exact Dec.getFrom_ten _ _ _ (by omega)))
        clear hdec
        go_wp2
        go_ret2
        rw [E.out]
        exact ⟨ret_pair rfl rfl, rfl⟩

set_option maxHeartbeats 1000000 in
set_option maxRecDepth 100000 in
theorem get_nil (ao : Option Addr) (c : Nat) (w : World) :
    Calls Tryz.prog 176 #[.slice ao 0 c] w fun e w' => e = .returned (.tuple #[.int .u64 0, .int .i64 0]) ∧ w' = w := by
  go_enter Tryz.func176, Tryz.ntmps176
  go_wp2
  refine wp_loop_rounds 1 ?_
  rw [rounds_succ]
  go_wp2
  go_ret2
  exact ⟨rfl, rfl⟩

/-- Get: what the bytes begin with. -/
theorem get_any (v : Value) (l : List UInt8) (w : World) (h : Bs w v l) :
    Calls Tryz.prog 176 #[v] w fun e w' => e = .returned (.tuple #[.int .u64 (Dec.getN l).1, .int .i64 (Dec.getN l).2]) ∧ w' = w := by
  rcases h.parts with ⟨ao, c, rfl, rfl⟩ | ⟨g, o, c, rfl, _, h1, h2, h3⟩
  · exact get_nil ao c w
  · exact get_some g o c l w (by omega) h3
end Go.Proofs.YtafmiolehlagkaaGreat.Pak

namespace Go.Proofs.YtafmiolehlagkaaGreat.Pak
open Go.RowKit
set_option maxRecDepth 100000

theorem unzig_eq (n : Nat) (h : n < 18446744073709551616) : bits .xor .i64 ((n : Int) / 2) (wrap64 (-wrap64 (bits .and .u64 (n : Int) 1))) = Dec.unzig n := by
  rw [Lib.u64_and1 _ (by omega) (by omega)]
  unfold Dec.unzig
  rcases Nat.mod_two_eq_zero_or_one n with h2 | h2
  · rw [if_pos h2, show (n : Int) % 2 = 0 by omega, show wrap64 (-wrap64 0) = 0 by decide +kernel, show (n : Int) / 2 = ((n / 2 : Nat) : Int) by omega]
    show IntKind.i64.wrap ((BitVec.ofInt 64 ((n / 2 : Nat) : Int) ^^^ BitVec.ofInt 64 0).toNat : Int) = _
    rw [BitVec.toNat_xor, show (BitVec.ofInt 64 0).toNat = 0 by decide, Nat.xor_zero, ofInt_u64 _ (by omega), IntKind.wrap_i64]
    omega
  · rw [if_neg (by omega), show (n : Int) % 2 = 1 by omega, show wrap64 (-wrap64 1) = -1 by decide +kernel, show (n : Int) / 2 = ((n / 2 : Nat) : Int) by omega]
    have e := Lib.i64_not (n / 2) (by omega)
    rw [← e]
    show IntKind.i64.wrap ((BitVec.ofInt 64 ((n / 2 : Nat) : Int) ^^^ BitVec.ofInt 64 (-1)).toNat : Int) = IntKind.i64.wrap ((BitVec.ofInt 64 (-1) ^^^ BitVec.ofInt 64 ((n / 2 : Nat) : Int)).toNat : Int)
    rw [BitVec.xor_comm]

set_option maxHeartbeats 1000000 in
set_option maxRecDepth 100000 in
theorem unfold_any (n : Nat) (w : World) (h : n < 18446744073709551616) :
    Calls Tryz.prog 201 #[.int .u64 n] w fun e w' => e = .returned (.int .i64 (Dec.unzig n)) ∧ w' = w := by
  go_enter Tryz.func201, Tryz.ntmps201
  go_wp2
  go_ret
  exact ⟨ret_int (unzig_eq n h), rfl⟩

set_option maxHeartbeats 1000000 in
set_option maxRecDepth 100000 in
theorem getInt_any (v : Value) (l : List UInt8) (w : World) (h : Bs w v l) :
    Calls Tryz.prog 178 #[v] w fun e w' => e = .returned (.tuple #[.int .i64 (Dec.unzig (Dec.getN l).1), .int .i64 (Dec.getN l).2]) ∧ w' = w := by
  have hg := get_any v l w h
  have hu := unfold_any (Dec.getN l).1 w (Dec.getN_lt l)
  clear h
  go_enter Tryz.func178, Tryz.ntmps178
  go_wp2_with (first | (go_at_call 176; refine hg.mono ?_; rintro e w' ⟨rfl, rfl⟩) | (go_at_call 201; refine hu.mono ?_; rintro e w' ⟨rfl, rfl⟩))
  go_ret2
  exact ⟨rfl, rfl⟩

/-- What GetText tells. -/
def textN (l : List UInt8) : List UInt8 × Nat :=
  if (Dec.getN l).2 = 0 ∨ l.length - (Dec.getN l).2 < (Dec.getN l).1 then ([], 0) else ((l.drop (Dec.getN l).2).take (Dec.getN l).1, (Dec.getN l).2 + (Dec.getN l).1)

end Go.Proofs.YtafmiolehlagkaaGreat.Pak

/-
  A4 READ, AS PLAIN MATHEMATICS: numbers one by one, runs, a whole row. No program in this text.
-/
namespace Go.Proofs.YtafmiolehlagkaaGreat.Pak.Rd
open Go.RowKit
set_option maxRecDepth 100000

/-- So many numbers from the front. -/
def nums : Nat → List UInt8 → Option (List Int × Nat)
  | 0, _ => some ([], 0)
  | k + 1, b => if (Dec.getN b).2 = 0 then none else (nums k (b.drop (Dec.getN b).2)).map fun r => (Dec.unzig (Dec.getN b).1 :: r.1, (Dec.getN b).2 + r.2)
/-- So many runs from the front, 'left' numbers in all; the number ahead is not taken again. -/
def runs : Nat → Nat → Option Int → List UInt8 → Option (List Int × Nat)
  | 0, left, _, _ => if left = 0 then some ([], 0) else none
  | m + 1, left, last, b =>
    if (Dec.getN b).2 = 0 ∨ (Dec.getN b).1 = 0 ∨ left < (Dec.getN b).1 then none
    else if (Dec.getN (b.drop (Dec.getN b).2)).2 = 0 ∨ last = some (Dec.unzig (Dec.getN (b.drop (Dec.getN b).2)).1) then none
    else (runs m (left - (Dec.getN b).1) (some (Dec.unzig (Dec.getN (b.drop (Dec.getN b).2)).1)) (b.drop ((Dec.getN b).2 + (Dec.getN (b.drop (Dec.getN b).2)).2))).map
      fun r => (List.replicate (Dec.getN b).1 (Dec.unzig (Dec.getN (b.drop (Dec.getN b).2)).1) ++ r.1, (Dec.getN b).2 + (Dec.getN (b.drop (Dec.getN b).2)).2 + r.2)
/-- Sums of steps: each number is added to the one ahead. -/
def sumsFrom : Int → List Int → List Int
  | _, [] => []
  | p, z :: r => wrap64 (z + p) :: sumsFrom (wrap64 (z + p)) r
def sums : List Int → List Int
  | [] => []
  | z :: r => z :: sumsFrom z r
/-- Count numbers in a form: the numbers and how many bytes they have. -/
def form (b : List UInt8) (f count : Nat) : Option (List Int × Nat) :=
  if f = 2 then
    (if (Dec.getN b).2 = 0 then none else (runs (Dec.getN b).1 count none (b.drop (Dec.getN b).2)).map fun r => (r.1, (Dec.getN b).2 + r.2))
  else (nums count b).map fun r => (if f = 1 then sums r.1 else r.1, r.2)
/-- What GetRow tells. -/
def row (b : List UInt8) (most : Int) : List Int × Nat :=
  if (Dec.getN b).2 = 0 ∨ most < 0 ∨ (min most 100000) < ((Dec.getN b).1 : Int) then ([], 0)
  else if (Dec.getN b).1 = 0 then ([], (Dec.getN b).2)
  else if (Dec.getN b).2 = b.length ∨ 3 ≤ (b.getD (Dec.getN b).2 0).toNat then ([], 0)
  else match form (b.drop ((Dec.getN b).2 + 1)) (b.getD (Dec.getN b).2 0).toNat (Dec.getN b).1 with
    | none => ([], 0)
    | some (zs, s) => if Rw.best zs ≠ (b.getD (Dec.getN b).2 0).toNat then ([], 0) else (zs, (Dec.getN b).2 + 1 + s)

theorem unzig_fits (b : List UInt8) : Rw.Fits (Dec.unzig (Dec.getN b).1) := Dec.unzig_bounds (Dec.getN_lt b)

theorem nums_facts : ∀ (k : Nat) (b : List UInt8) (zs : List Int) (t : Nat), nums k b = some (zs, t) → zs.length = k ∧ t ≤ b.length ∧ k ≤ t ∧ Rw.AllFit zs
  | 0, b, zs, t, h => by
    simp [nums] at h
    obtain ⟨rfl, rfl⟩ := h
    exact ⟨rfl, Nat.zero_le _, Nat.le_refl _, fun z hz => by simp at hz⟩
  | k + 1, b, zs, t, h => by
    unfold nums at h
    split at h
    · cases h
    · rename_i hs
      obtain ⟨⟨zr, tr⟩, hr, he⟩ := Option.map_eq_some_iff.1 h
      obtain ⟨rfl, rfl⟩ := Prod.mk.inj he
      obtain ⟨h1, h2, h3, h4⟩ := nums_facts k _ zr tr hr
      have hle := Dec.getN_le b
      simp at h2
      refine ⟨by simp [h1], by simp; omega, by simp; omega, fun z hz => ?_⟩
      rcases List.mem_cons.1 hz with rfl | hz
      · exact unzig_fits b
      · exact h4 z hz
theorem runs_facts : ∀ (m left : Nat) (last : Option Int) (b : List UInt8) (zs : List Int) (t : Nat), runs m left last b = some (zs, t) → zs.length = left ∧ t ≤ b.length ∧ Rw.AllFit zs
  | 0, left, last, b, zs, t, h => by
    unfold runs at h
    split at h
    · simp at h
      obtain ⟨rfl, rfl⟩ := h
      exact ⟨by simp_all, Nat.zero_le _, fun z hz => by simp at hz⟩
    · cases h
  | m + 1, left, last, b, zs, t, h => by
    unfold runs at h
    split at h
    · cases h
    · rename_i hs
      split at h
      · cases h
      · rename_i hs2
        obtain ⟨⟨zr, tr⟩, hr, he⟩ := Option.map_eq_some_iff.1 h
        obtain ⟨rfl, rfl⟩ := Prod.mk.inj he
        obtain ⟨h1, h2, h4⟩ := runs_facts m _ _ _ zr tr hr
        have hle := Dec.getN_le b
        have hle2 := Dec.getN_le (b.drop (Dec.getN b).2)
        simp at h2 hle2
        refine ⟨by simp [h1]; omega, by simp; omega, fun z hz => ?_⟩
        rcases List.mem_append.1 hz with hz | hz
        · rw [List.eq_of_mem_replicate hz]
          exact unzig_fits _
        · exact h4 z hz
theorem sumsFrom_facts : ∀ (p : Int) (zs : List Int), (sumsFrom p zs).length = zs.length ∧ Rw.AllFit (sumsFrom p zs)
  | _, [] => ⟨rfl, fun z hz => by simp [sumsFrom] at hz⟩
  | p, z :: r => by
    obtain ⟨h1, h2⟩ := sumsFrom_facts (wrap64 (z + p)) r
    refine ⟨by simp [sumsFrom, h1], fun x hx => ?_⟩
    simp only [sumsFrom] at hx
    rcases List.mem_cons.1 hx with rfl | hx
    · exact Rw.wrap64_fits _
    · exact h2 x hx
theorem sums_facts (zs : List Int) (h : Rw.AllFit zs) : (sums zs).length = zs.length ∧ Rw.AllFit (sums zs) := by
  cases zs with
  | nil => exact ⟨rfl, h⟩
  | cons z r =>
    obtain ⟨h1, h2⟩ := sumsFrom_facts z r
    refine ⟨by simp [sums, h1], fun x hx => ?_⟩
    rcases List.mem_cons.1 hx with rfl | hx
    · exact h _ List.mem_cons_self
    · exact h2 x hx
theorem form_facts {b : List UInt8} {f count : Nat} {zs : List Int} {t : Nat} (h : form b f count = some (zs, t)) : zs.length = count ∧ t ≤ b.length ∧ Rw.AllFit zs := by
  unfold form at h
  split at h
  · split at h
    · cases h
    · obtain ⟨⟨zr, tr⟩, hr, he⟩ := Option.map_eq_some_iff.1 h
      obtain ⟨rfl, rfl⟩ := Prod.mk.inj he
      obtain ⟨h1, h2, h3⟩ := runs_facts _ _ _ _ zr tr hr
      have hle := Dec.getN_le b
      simp at h2
      exact ⟨h1, by simp; omega, h3⟩
  · obtain ⟨⟨zr, tr⟩, hr, he⟩ := Option.map_eq_some_iff.1 h
    obtain ⟨rfl, rfl⟩ := Prod.mk.inj he
    obtain ⟨h1, h2, _, h3⟩ := nums_facts _ _ zr tr hr
    split
    · exact ⟨(sums_facts zr h3).1.trans h1, h2, (sums_facts zr h3).2⟩
    · exact ⟨h1, h2, h3⟩
end Go.Proofs.YtafmiolehlagkaaGreat.Pak.Rd

/-
  A1 TO A4, THERE AND BACK, AS PLAIN MATHEMATICS: what is written is read as it was, whatever stands behind it; what is read is written so. No program in this text.
-/
namespace Go.Proofs.YtafmiolehlagkaaGreat.Pak
open Go.RowKit
set_option maxRecDepth 100000

/-! ### Numbers -/
theorem byte_small {y : Nat} (h : y < 256) : (y.toUInt8).toNat = y := by simp [Nat.toUInt8, UInt8.toNat_ofNat']; omega
theorem getFrom_put : ∀ (f y k acc : Nat) (b : List UInt8), y ≤ f → y * 2 ^ (7 * k) < 18446744073709551616 → k < 10 → (0 < k → 0 < y) → Dec.getFrom k acc (Lib.uvarint y ++ b) = (acc + y * 2 ^ (7 * k), k + (Lib.uvarint y).length)
  | f, y, k, acc, b, hf, hy, hk, hpos => by
    by_cases hs : y < 128
    · rw [Lib.uvarint_small hs]
      have e := byte_small (show y < 256 by omega)
      have h9 : k = 9 → y ≤ 1 := by
        rintro rfl
        have : 2 ^ (7 * 9) = 9223372036854775808 := by decide
        omega
      show Dec.getFrom k acc (y.toUInt8 :: b) = _
      rw [Dec.getFrom_last hk (by omega) (by omega), e]
      rfl
    · have hb : (y % 128 + 128).toUInt8.toNat = y % 128 + 128 := byte_small (by omega)
      have hpow : 2 ^ (7 * (k + 1)) = 128 * 2 ^ (7 * k) := by rw [show 7 * (k + 1) = 7 * k + 7 by omega, Nat.pow_add, Nat.mul_comm]
      have hk8 : k < 9 := by
        refine Classical.byContradiction fun h => ?_
        have e : k = 9 := by omega
        subst e
        have : 2 ^ (7 * 9) = 9223372036854775808 := by decide
        omega
      have hm : y * 2 ^ (7 * k) = y % 128 * 2 ^ (7 * k) + y / 128 * 2 ^ (7 * (k + 1)) := by
        rw [hpow, ← Nat.mul_assoc, ← Nat.add_mul]
        congr 1
        omega
      rw [Lib.uvarint_big (by omega), List.cons_append, Dec.getFrom_more hk (by omega)]
      cases f with
      | zero => omega
      | succ f =>
        rw [getFrom_put f (y / 128) (k + 1) _ b (by omega) (by omega) (by omega) (by omega), hb]
        simp only [List.length_cons, Prod.mk.injEq]
        constructor
        · rw [show (y % 128 + 128) % 128 = y % 128 by omega, hm]
          omega
        · omega
theorem getN_put {n : Nat} (h : n < 18446744073709551616) (b : List UInt8) : Dec.getN (Lib.uvarint n ++ b) = (n, (Lib.uvarint n).length) := by
  have := getFrom_put n n 0 0 b (Nat.le_refl _) (by simpa using h) (by omega) (by omega)
  simpa [Dec.getN] using this
theorem getFrom_back : ∀ (b : List UInt8) (k acc : Nat), k ≤ 10 → (Dec.getFrom k acc b).2 ≠ 0 → ∃ y, (Dec.getFrom k acc b).1 = acc + y * 2 ^ (7 * k) ∧ (Dec.getFrom k acc b).2 = k + (Lib.uvarint y).length ∧ b.take (Lib.uvarint y).length = Lib.uvarint y ∧ (0 < k → 0 < y)
  | [], k, acc, _, h => by rw [Dec.getFrom_nil] at h; simp at h
  | c :: b, k, acc, hk, h => by
    by_cases h10 : 10 ≤ k
    · rw [Dec.getFrom_ten k acc _ h10] at h; simp at h
    by_cases hc : 128 ≤ c.toNat
    · rw [Dec.getFrom_more (by omega) hc] at h ⊢
      obtain ⟨y, h1, h2, h3, h4⟩ := getFrom_back b (k + 1) _ (by omega) h
      have hy := h4 (by omega)
      have hlt := c.toNat_lt
      have hpow : 2 ^ (7 * (k + 1)) = 128 * 2 ^ (7 * k) := by rw [show 7 * (k + 1) = 7 * k + 7 by omega, Nat.pow_add, Nat.mul_comm]
      have e1 : (c.toNat % 128 + 128 * y) / 128 = y := by omega
      have e2 : (c.toNat % 128 + 128 * y) % 128 + 128 = c.toNat := by omega
      have e3 : c.toNat.toUInt8 = c := by simp [Nat.toUInt8]
      have eu : Lib.uvarint (c.toNat % 128 + 128 * y) = c :: Lib.uvarint y := by rw [Lib.uvarint_big (by omega), e1, e2, e3]
      refine ⟨c.toNat % 128 + 128 * y, ?_, ?_, ?_, by omega⟩
      · rw [h1, hpow, Nat.add_mul, Nat.mul_assoc 128, ← Nat.mul_assoc y, Nat.mul_comm y 128, Nat.mul_assoc 128]
        omega
      · rw [h2, eu, List.length_cons]
        omega
      · rw [eu, List.length_cons, List.take_succ_cons, h3]
    · by_cases hbad : (0 < k ∧ c.toNat = 0) ∨ (k = 9 ∧ 1 < c.toNat)
      · rw [Dec.getFrom_bad (by omega) (by omega) hbad] at h; simp at h
      · rw [Dec.getFrom_last (by omega) (by omega) hbad] at h ⊢
        have e3 : c.toNat.toUInt8 = c := by simp [Nat.toUInt8]
        have eu : Lib.uvarint c.toNat = [c] := by rw [Lib.uvarint_small (by omega), e3]
        exact ⟨c.toNat, rfl, by rw [eu]; rfl, by rw [eu]; rfl, by omega⟩
theorem getN_back {b : List UInt8} {n s : Nat} (h : Dec.getN b = (n, s)) (hs : s ≠ 0) : b.take s = Lib.uvarint n ∧ s = (Lib.uvarint n).length := by
  have h0 : (Dec.getFrom 0 0 b).2 ≠ 0 := by show (Dec.getN b).2 ≠ 0; rw [h]; exact hs
  obtain ⟨y, h1, h2, h3, _⟩ := getFrom_back b 0 0 (by omega) h0
  have h1' : (Dec.getN b).1 = 0 + y * 2 ^ (7 * 0) := h1
  have h2' : (Dec.getN b).2 = 0 + (Lib.uvarint y).length := h2
  rw [h] at h1' h2'
  simp at h1' h2'
  subst h1'
  exact ⟨by rw [h2']; exact h3, h2'⟩
/-- The bytes begin with the number. -/
theorem getN_split {b : List UInt8} {n s : Nat} (h : Dec.getN b = (n, s)) (hs : s ≠ 0) : b = Lib.uvarint n ++ b.drop s := by
  rw [← (getN_back h hs).1, List.take_append_drop]
theorem getN_ivar {z : Int} (hz : Rw.Fits z) (b : List UInt8) : Dec.getN (Rw.ivar z ++ b) = (Lib.zigzag z, (Rw.ivar z).length) := getN_put (Lib.zigzag_lt hz.1 hz.2) b

/-! ### Numbers one by one -/
def flat (zs : List Int) : List UInt8 := zs.flatMap Rw.ivar
theorem nums_put : ∀ (zs : List Int) (b : List UInt8), Rw.AllFit zs → Rd.nums zs.length (flat zs ++ b) = some (zs, (flat zs).length)
  | [], b, _ => rfl
  | z :: r, b, h => by
    have hz := h z List.mem_cons_self
    have hg := getN_ivar hz (flat r ++ b)
    have e : flat (z :: r) ++ b = Rw.ivar z ++ (flat r ++ b) := by simp [flat]
    have hp : (Rw.ivar z).length ≠ 0 := by have := Lib.uvarint_pos (Lib.zigzag z); unfold Rw.ivar; omega
    rw [e, List.length_cons, Rd.nums, hg]
    simp only
    rw [if_neg hp, List.drop_left, nums_put r b (fun x hx => h x (List.mem_cons_of_mem _ hx))]
    simp [flat, Dec.unzig_zigzag]
theorem nums_back : ∀ (k : Nat) (b : List UInt8) (zs : List Int) (t : Nat), Rd.nums k b = some (zs, t) → b.take t = flat zs
  | 0, b, zs, t, h => by
    simp [Rd.nums] at h
    obtain ⟨rfl, rfl⟩ := h
    rfl
  | k + 1, b, zs, t, h => by
    unfold Rd.nums at h
    split at h
    · cases h
    · rename_i hs
      obtain ⟨⟨zr, tr⟩, hr, he⟩ := Option.map_eq_some_iff.1 h
      obtain ⟨rfl, rfl⟩ := Prod.mk.inj he
      have ih := nums_back k _ zr tr hr
      obtain ⟨h1, h2⟩ := getN_back (b := b) (n := (Dec.getN b).1) (s := (Dec.getN b).2) rfl hs
      show b.take ((Dec.getN b).2 + tr) = Rw.ivar (Dec.unzig (Dec.getN b).1) ++ flat zr
      rw [List.take_add, h1, ih, Rw.ivar, Dec.zigzag_unzig]
theorem bodyTo_eq (l : List Int) (f : Nat) : ∀ k, Rw.bodyTo l f k = flat ((List.range k).map fun i => Rw.entry l i f)
  | 0 => rfl
  | k + 1 => by
    rw [Rw.bodyTo, bodyTo_eq l f k, List.range_succ, List.map_append]
    simp [flat]
def ent (l : List Int) (f : Nat) : List Int := (List.range l.length).map fun i => Rw.entry l i f
theorem ent_zero (l : List Int) : ent l 0 = l := by
  apply List.ext_getElem?
  intro i
  unfold ent
  by_cases h : i < l.length
  · rw [List.getElem?_map, List.getElem?_range h, List.getElem?_eq_getElem h]
    simp [Rw.entry, List.getElem?_eq_getElem h]
  · rw [List.getElem?_eq_none (by simp; omega), List.getElem?_eq_none (by omega)]
theorem ent_length (l : List Int) (f : Nat) : (ent l f).length = l.length := by simp [ent]
theorem ent_fit {l : List Int} (h : Rw.AllFit l) (f : Nat) : Rw.AllFit (ent l f) := by
  intro z hz
  simp only [ent, List.mem_map] at hz
  obtain ⟨i, _, rfl⟩ := hz
  exact Rw.entry_fits h i f
def stepsFrom : Int → List Int → List Int
  | _, [] => []
  | p, z :: r => wrap64 (z - p) :: stepsFrom z r
def stepsL : List Int → List Int
  | [] => []
  | z :: r => z :: stepsFrom z r
theorem stepsFrom_at : ∀ (p : Int) (l : List Int) (i : Nat), (stepsFrom p l)[i]? = l[i]?.map fun z => wrap64 (z - if i = 0 then p else l.getD (i - 1) 0)
  | p, [], i => by simp [stepsFrom]
  | p, z :: r, 0 => by simp [stepsFrom]
  | p, z :: r, i + 1 => by
    simp only [stepsFrom, List.getElem?_cons_succ]
    rw [stepsFrom_at z r i]
    cases i with
    | zero => simp
    | succ i => simp
theorem ent_one (l : List Int) : ent l 1 = stepsL l := by
  apply List.ext_getElem?
  intro i
  unfold ent
  cases l with
  | nil => simp [stepsL]
  | cons z r =>
    cases i with
    | zero => simp [stepsL, Rw.entry]
    | succ i =>
      simp only [stepsL, List.getElem?_cons_succ]
      rw [stepsFrom_at]
      by_cases h : i < r.length
      · rw [List.getElem?_map, List.getElem?_range (by simp; omega), List.getElem?_eq_getElem h]
        cases i with
        | zero => simp [Rw.entry, List.getElem?_eq_getElem h]
        | succ i => simp [Rw.entry, List.getElem?_eq_getElem h]
      · rw [List.getElem?_eq_none (by simp; omega), List.getElem?_eq_none (l := r) (by omega)]
        rfl
theorem wrap_back {z p : Int} (h : Rw.Fits z) : wrap64 (wrap64 (z - p) + p) = z := by unfold Rw.Fits at h; unfold wrap64; omega
theorem wrap_on {z p : Int} (h : Rw.Fits z) : wrap64 (wrap64 (z + p) - p) = z := by unfold Rw.Fits at h; unfold wrap64; omega
theorem sumsFrom_steps : ∀ (p : Int) (l : List Int), Rw.AllFit l → Rd.sumsFrom p (stepsFrom p l) = l
  | _, [], _ => rfl
  | p, z :: r, h => by
    simp only [stepsFrom, Rd.sumsFrom]
    rw [wrap_back (h z List.mem_cons_self), sumsFrom_steps z r (fun x hx => h x (List.mem_cons_of_mem _ hx))]
theorem sums_steps {l : List Int} (h : Rw.AllFit l) : Rd.sums (ent l 1) = l := by
  rw [ent_one]
  cases l with
  | nil => rfl
  | cons z r => simp only [stepsL, Rd.sums]; rw [sumsFrom_steps z r (fun x hx => h x (List.mem_cons_of_mem _ hx))]
theorem stepsFrom_sums : ∀ (p : Int) (l : List Int), Rw.AllFit l → stepsFrom p (Rd.sumsFrom p l) = l
  | _, [], _ => rfl
  | p, z :: r, h => by
    simp only [stepsFrom, Rd.sumsFrom]
    rw [wrap_on (h z List.mem_cons_self), stepsFrom_sums _ r (fun x hx => h x (List.mem_cons_of_mem _ hx))]
theorem steps_sums {l : List Int} (h : Rw.AllFit l) : ent (Rd.sums l) 1 = l := by
  rw [ent_one]
  cases l with
  | nil => rfl
  | cons z r => simp only [stepsL, Rd.sums]; rw [stepsFrom_sums z r (fun x hx => h x (List.mem_cons_of_mem _ hx))]
end Go.Proofs.YtafmiolehlagkaaGreat.Pak

/-
  A4, THERE AND BACK, AS PLAIN MATHEMATICS: runs, and the whole row. No program in this text.
-/
namespace Go.Proofs.YtafmiolehlagkaaGreat.Pak
open Go.RowKit
set_option maxRecDepth 100000

/-! ### Runs: (number, how often) -/
def expand (rl : List (Int × Nat)) : List Int := rl.flatMap fun r => List.replicate r.2 r.1
def encR (rl : List (Int × Nat)) : List UInt8 := rl.flatMap fun r => Lib.uvarint r.2 ++ Rw.ivar r.1
/-- Runs that may stand behind 'last'. -/
def Valid : Option Int → List (Int × Nat) → Prop
  | _, [] => True
  | last, r :: t => last ≠ some r.1 ∧ r.2 ≠ 0 ∧ Valid (some r.1) t
def goR : Rw.RunsAt → List Int → Rw.RunsAt
  | s, [] => s
  | s, z :: r => if r.head? = some z then goR ⟨s.bytes, s.count, s.len + 1⟩ r else goR ⟨s.bytes ++ (Lib.uvarint (s.len + 1) ++ Rw.ivar z), s.count + 1, 0⟩ r

theorem goR_to (l : List Int) : ∀ (m k : Nat), m = l.length - k → k ≤ l.length → goR (Rw.runsTo l k) (l.drop k) = Rw.runsTo l l.length
  | 0, k, hm, hk => by
    have e : k = l.length := by omega
    subst e
    rw [List.drop_length]
    rfl
  | m + 1, k, hm, hk => by
    have hlt : k < l.length := by omega
    rw [← goR_to l m (k + 1) (by omega) (by omega), List.drop_eq_getElem_cons hlt]
    have hgd : l.getD k 0 = l[k] := by rw [List.getD_eq_getElem?_getD, List.getElem?_eq_getElem hlt]; rfl
    have he : Rw.ends l k = !decide ((l.drop (k + 1)).head? = some l[k]) := by
      unfold Rw.ends
      rw [List.head?_drop, hgd]
      by_cases hl : k + 1 = l.length
      · rw [List.getElem?_eq_none (by omega)]
        simp [hl]
      · rw [List.getD_eq_getElem?_getD, List.getElem?_eq_getElem (by omega), show (k + 1 == l.length) = false by simp [hl], Bool.false_or]
        simp only [Option.getD_some, Option.some.injEq]
        by_cases hx : l[k] = l[k + 1]
        · rw [hx, bne_self_eq_false, decide_eq_true rfl]
          rfl
        · rw [bne_iff_ne.2 hx, decide_eq_false (fun e => hx e.symm)]
          rfl
    rw [goR, Rw.runsTo, he]
    by_cases hx : (l.drop (k + 1)).head? = some l[k]
    · rw [if_pos hx, if_neg (by rw [decide_eq_true hx]; simp)]
    · rw [if_neg hx, if_pos (by rw [decide_eq_false hx]; rfl), hgd]
theorem runs_goR (l : List Int) : Rw.runsTo l l.length = goR ⟨[], 0, 0⟩ l := by
  have := goR_to l l.length 0 (by omega) (Nat.zero_le _)
  rw [List.drop_zero] at this
  exact this.symm
theorem goR_run (z : Int) (rest : List Int) (hr : rest.head? ≠ some z) : ∀ (n : Nat) (s : Rw.RunsAt), goR s (List.replicate (n + 1) z ++ rest) = goR ⟨s.bytes ++ (Lib.uvarint (s.len + n + 1) ++ Rw.ivar z), s.count + 1, 0⟩ rest
  | 0, s => by
    show goR s (z :: rest) = _
    rw [goR, if_neg hr]
  | n + 1, s => by
    rw [List.replicate_succ, List.cons_append, goR, if_pos (by rw [List.replicate_succ]; rfl), goR_run z rest hr n]
    simp only
    rw [show s.len + 1 + n + 1 = s.len + (n + 1) + 1 by omega]
theorem expand_head {last : Int} {rl : List (Int × Nat)} (h : Valid (some last) rl) : (expand rl).head? ≠ some last := by
  cases rl with
  | nil => simp [expand]
  | cons r t =>
    obtain ⟨h1, h2, _⟩ := h
    obtain ⟨m, hm⟩ : ∃ m, r.2 = m + 1 := ⟨r.2 - 1, by omega⟩
    simp only [expand, List.flatMap_cons, hm, List.replicate_succ, List.cons_append, List.head?_cons]
    exact fun e => h1 e.symm
theorem goR_expand : ∀ (rl : List (Int × Nat)) (last : Option Int) (bs : List UInt8) (c : Nat), Valid last rl → goR ⟨bs, c, 0⟩ (expand rl) = ⟨bs ++ encR rl, c + rl.length, 0⟩
  | [], _, bs, c, _ => by simp [expand, encR, goR]
  | r :: t, last, bs, c, h => by
    obtain ⟨h1, h2, h3⟩ := h
    obtain ⟨m, hm⟩ : ∃ m, r.2 = m + 1 := ⟨r.2 - 1, by omega⟩
    have e : expand (r :: t) = List.replicate (m + 1) r.1 ++ expand t := by simp [expand, hm]
    rw [e, goR_run r.1 (expand t) (expand_head h3) m, goR_expand t (some r.1) _ _ h3]
    simp only [encR, List.flatMap_cons, hm, Nat.zero_add, List.append_assoc, List.length_cons]
    rw [show c + 1 + t.length = c + (t.length + 1) by omega]
theorem runsB_expand {rl : List (Int × Nat)} (h : Valid none rl) : Rw.runsB (expand rl) = Lib.uvarint rl.length ++ encR rl := by
  unfold Rw.runsB
  rw [runs_goR, goR_expand rl none [] 0 h]
  simp
theorem rle : ∀ zs : List Int, ∃ rl, zs = expand rl ∧ Valid none rl
  | [] => ⟨[], rfl, trivial⟩
  | z :: r => by
    obtain ⟨rl, e, hv⟩ := rle r
    cases rl with
    | nil => exact ⟨[(z, 1)], by rw [e]; rfl, by simp, by simp, trivial⟩
    | cons p t =>
      obtain ⟨_, h2, h3⟩ := hv
      by_cases hp : p.1 = z
      · refine ⟨(z, p.2 + 1) :: t, ?_, by simp, by simp, hp ▸ h3⟩
        rw [e]
        simp [expand, List.replicate_succ, hp]
      · refine ⟨(z, 1) :: p :: t, ?_, by simp, by simp, ?_, h2, h3⟩
        · rw [e]; simp [expand]
        · simpa using fun e => hp e.symm

theorem runs_put : ∀ (rl : List (Int × Nat)) (last : Option Int) (b : List UInt8), Valid last rl → (∀ r ∈ rl, r.2 < 18446744073709551616 ∧ Rw.Fits r.1) → Rd.runs rl.length (expand rl).length last (encR rl ++ b) = some (expand rl, (encR rl).length)
  | [], last, b, _, _ => by simp [Rd.runs, expand, encR]
  | r :: t, last, b, h, hf => by
    obtain ⟨h1, h2, h3⟩ := h
    obtain ⟨f1, f2⟩ := hf r List.mem_cons_self
    have e1 : encR (r :: t) ++ b = Lib.uvarint r.2 ++ (Rw.ivar r.1 ++ (encR t ++ b)) := by simp [encR]
    have g1 := getN_put f1 (Rw.ivar r.1 ++ (encR t ++ b))
    have g2 := getN_ivar f2 (encR t ++ b)
    have p1 := Lib.uvarint_pos r.2
    have p2 : 1 ≤ (Rw.ivar r.1).length := Lib.uvarint_pos _
    have el : (expand (r :: t)).length = r.2 + (expand t).length := by simp [expand]
    rw [e1, List.length_cons, Rd.runs, g1]
    simp only
    rw [if_neg (by rw [el]; omega), List.drop_left, g2]
    simp only
    rw [if_neg (by
      intro hc
      rcases hc with hc | hc
      · omega
      · rw [Dec.unzig_zigzag] at hc; exact h1 hc), Dec.unzig_zigzag]
    have e2 : (Lib.uvarint r.2 ++ (Rw.ivar r.1 ++ (encR t ++ b))).drop ((Lib.uvarint r.2).length + (Rw.ivar r.1).length) = encR t ++ b := by
      rw [← List.append_assoc]
      exact List.drop_left' (by simp)
    rw [e2, el, Nat.add_sub_cancel_left, runs_put t (some r.1) b h3 (fun x hx => hf x (List.mem_cons_of_mem _ hx))]
    simp [expand, encR, Nat.add_assoc]
theorem runs_back : ∀ (m left : Nat) (last : Option Int) (b : List UInt8) (zs : List Int) (t : Nat), Rd.runs m left last b = some (zs, t) → ∃ rl, rl.length = m ∧ zs = expand rl ∧ b.take t = encR rl ∧ Valid last rl
  | 0, left, last, b, zs, t, h => by
    unfold Rd.runs at h
    split at h
    · simp at h
      obtain ⟨rfl, rfl⟩ := h
      exact ⟨[], rfl, rfl, rfl, trivial⟩
    · cases h
  | m + 1, left, last, b, zs, t, h => by
    unfold Rd.runs at h
    split at h
    · cases h
    · rename_i hs
      split at h
      · cases h
      · rename_i hs2
        obtain ⟨⟨zr, tr⟩, hr, he⟩ := Option.map_eq_some_iff.1 h
        obtain ⟨rfl, rfl⟩ := Prod.mk.inj he
        obtain ⟨rl, e1, e2, e3, e4⟩ := runs_back m _ _ _ zr tr hr
        obtain ⟨g1, _⟩ := getN_back (b := b) (n := (Dec.getN b).1) (s := (Dec.getN b).2) rfl (fun e => hs (.inl e))
        obtain ⟨g2, _⟩ := getN_back (b := b.drop (Dec.getN b).2) (n := (Dec.getN (b.drop (Dec.getN b).2)).1) (s := (Dec.getN (b.drop (Dec.getN b).2)).2) rfl (fun e => hs2 (.inl e))
        refine ⟨(Dec.unzig (Dec.getN (b.drop (Dec.getN b).2)).1, (Dec.getN b).1) :: rl, by simp [e1], ?_, ?_, fun e => hs2 (.inr e), fun e => hs (.inr (.inl e)), e4⟩
        · simp [expand, e2]
        · show b.take ((Dec.getN b).2 + (Dec.getN (b.drop (Dec.getN b).2)).2 + tr) = _
          rw [List.take_add, List.take_add, e3, g1, g2]
          simp [encR, Rw.ivar, Dec.zigzag_unzig]

theorem expand_counts {rl : List (Int × Nat)} {r : Int × Nat} (h : r ∈ rl) : r.2 ≤ (expand rl).length := by
  induction rl with
  | nil => simp at h
  | cons p t ih =>
    have el : (expand (p :: t)).length = p.2 + (expand t).length := by simp [expand]
    rcases List.mem_cons.1 h with rfl | h
    · omega
    · have := ih h
      omega
theorem expand_mem {rl : List (Int × Nat)} {r : Int × Nat} (h : r ∈ rl) (h0 : r.2 ≠ 0) : r.1 ∈ expand rl := by
  simp only [expand, List.mem_flatMap]
  exact ⟨r, h, by rw [List.mem_replicate]; exact ⟨h0, rfl⟩⟩
theorem valid_counts : ∀ {last : Option Int} {rl : List (Int × Nat)}, Valid last rl → ∀ r ∈ rl, r.2 ≠ 0
  | _, [], _, r, h => by simp at h
  | _, p :: t, hv, r, h => by
    obtain ⟨_, h2, h3⟩ := hv
    rcases List.mem_cons.1 h with rfl | h
    · exact h2
    · exact valid_counts h3 r h
theorem valid_length {last : Option Int} {rl : List (Int × Nat)} (h : Valid last rl) : rl.length ≤ (expand rl).length := by
  induction rl generalizing last with
  | nil => simp
  | cons p t ih =>
    obtain ⟨_, h2, h3⟩ := h
    have := ih h3
    have el : (expand (p :: t)).length = p.2 + (expand t).length := by simp [expand]
    simp only [List.length_cons]
    omega

/-! ### A form -/
theorem form_put {zs : List Int} (h : Rw.AllFit zs) (hl : zs.length ≤ 1048576) {f : Nat} (hf : f ≤ 2) (b : List UInt8) : Rd.form (Rw.formB zs f ++ b) f zs.length = some (zs, (Rw.formB zs f).length) := by
  by_cases h2 : f = 2
  · subst h2
    obtain ⟨rl, rfl, hv⟩ := rle zs
    have hb : Rw.formB (expand rl) 2 = Lib.uvarint rl.length ++ encR rl := by unfold Rw.formB; rw [if_pos rfl, runsB_expand hv]
    have hc := valid_length hv
    have p1 := Lib.uvarint_pos rl.length
    unfold Rd.form
    rw [if_pos rfl, hb, List.append_assoc, getN_put (by omega)]
    simp only
    rw [if_neg (by omega), List.drop_left, runs_put rl none b hv (fun r hr => ⟨by have := expand_counts hr; omega, h _ (expand_mem hr (valid_counts hv r hr))⟩)]
    simp
  · have hb : Rw.formB zs f = flat (ent zs f) := by unfold Rw.formB; rw [if_neg h2, bodyTo_eq]; rfl
    unfold Rd.form
    rw [if_neg h2, hb]
    have := nums_put (ent zs f) b (ent_fit h f)
    rw [ent_length] at this
    rw [this]
    rcases (show f = 0 ∨ f = 1 by omega) with rfl | rfl
    · simp [ent_zero]
    · simp [sums_steps h]
theorem form_back {b : List UInt8} {f count : Nat} {zs : List Int} {t : Nat} (hf : f ≤ 2) (h : Rd.form b f count = some (zs, t)) : b.take t = Rw.formB zs f := by
  by_cases h2 : f = 2
  · subst h2
    unfold Rd.form at h
    rw [if_pos rfl] at h
    split at h
    · cases h
    · rename_i hs
      obtain ⟨⟨zr, tr⟩, hr, he⟩ := Option.map_eq_some_iff.1 h
      obtain ⟨rfl, rfl⟩ := Prod.mk.inj he
      obtain ⟨rl, e1, rfl, e3, e4⟩ := runs_back _ _ _ _ zr tr hr
      obtain ⟨g1, _⟩ := getN_back (b := b) (n := (Dec.getN b).1) (s := (Dec.getN b).2) rfl hs
      show b.take ((Dec.getN b).2 + tr) = _
      unfold Rw.formB
      rw [if_pos rfl, runsB_expand e4, List.take_add, g1, e3, e1]
  · unfold Rd.form at h
    rw [if_neg h2] at h
    obtain ⟨⟨zr, tr⟩, hr, he⟩ := Option.map_eq_some_iff.1 h
    have hb : ∀ ys, Rw.formB ys f = flat (ent ys f) := fun ys => by unfold Rw.formB; rw [if_neg h2, bodyTo_eq]; rfl
    have hfit := (Rd.nums_facts _ _ _ _ hr).2.2.2
    have hn := nums_back _ _ _ _ hr
    obtain ⟨rfl, rfl⟩ := Prod.mk.inj he
    rcases (show f = 0 ∨ f = 1 by omega) with rfl | rfl
    · rw [hb, ent_zero]
      simpa using hn
    · rw [hb]
      simp only [if_true]
      rw [steps_sums hfit]
      exact hn

/-! ### The row -/
theorem best_byte (zs : List Int) : (UInt8.ofNat (Rw.best zs)).toNat = Rw.best zs := by
  have := Rw.best_le zs
  simp [UInt8.toNat_ofNat']
  omega
theorem row_put {zs : List Int} (h : Rw.AllFit zs) (hl : zs.length ≤ 100000) (b : List UInt8) : Rd.row (Rw.rowB zs ++ b) zs.length = (zs, (Rw.rowB zs).length) := by
  by_cases h0 : zs.length = 0
  · obtain rfl : zs = [] := List.eq_nil_of_length_eq_zero h0
    have hu : Lib.uvarint 0 = [0] := Lib.uvarint_small (by omega)
    have hg := getN_put (n := 0) (by omega) b
    rw [hu] at hg
    have hr : Rw.rowB [] = [0] := rfl
    unfold Rd.row
    rw [hr, hg]
    simp only [List.length_nil, List.length_cons]
    rw [if_neg (by omega), if_pos trivial]
  · have hr : Rw.rowB zs = Lib.uvarint zs.length ++ (UInt8.ofNat (Rw.best zs) :: Rw.formB zs (Rw.best zs)) := by unfold Rw.rowB; rw [if_neg h0]
    have hg := getN_put (n := zs.length) (by omega) ((UInt8.ofNat (Rw.best zs) :: Rw.formB zs (Rw.best zs)) ++ b)
    have p1 := Lib.uvarint_pos zs.length
    unfold Rd.row
    rw [hr, List.append_assoc, hg]
    simp only
    generalize hU : Lib.uvarint zs.length = U at *
    have e1 : (U ++ (UInt8.ofNat (Rw.best zs) :: Rw.formB zs (Rw.best zs) ++ b)).getD U.length 0 = UInt8.ofNat (Rw.best zs) := by
      rw [List.getD_eq_getElem?_getD, List.getElem?_append_right (Nat.le_refl _)]
      simp
    have e2 : (U ++ (UInt8.ofNat (Rw.best zs) :: Rw.formB zs (Rw.best zs) ++ b)).drop (U.length + 1) = Rw.formB zs (Rw.best zs) ++ b := by
      rw [List.drop_append]
      simp
    have hb := Rw.best_le zs
    rw [if_neg (by omega), if_neg h0, e1, best_byte, e2, form_put h (by omega) hb b, if_neg (by simp; omega)]
    simp
    omega
theorem row_short {zs : List Int} (hl : zs.length ≤ 100000) : Rd.row (Rw.rowB zs) ((zs.length : Int) - 1) = ([], 0) := by
  unfold Rd.row
  by_cases h0 : zs.length = 0
  · rw [if_pos (.inr (.inl (by omega)))]
  · have hr : Rw.rowB zs = Lib.uvarint zs.length ++ (UInt8.ofNat (Rw.best zs) :: Rw.formB zs (Rw.best zs)) := by unfold Rw.rowB; rw [if_neg h0]
    rw [hr, getN_put (by omega)]
    simp only
    rw [if_pos (.inr (.inr (by omega)))]
theorem row_length {zs : List Int} (h : Rw.AllFit zs) (hl : zs.length ≤ 100000) : (Rw.rowB zs).length ≤ 5 + 10 * zs.length := by
  unfold Rw.rowB
  by_cases h0 : zs.length = 0
  · rw [if_pos h0]; simp; omega
  · rw [if_neg h0]
    have h1 := Lib.uvarint_length 2 zs.length (by omega)
    have h2 : (Rw.formB zs (Rw.best zs)).length ≤ (Rw.formB zs 0).length := by
      unfold Rw.best
      split <;> split <;> omega
    have h3 : (Rw.formB zs 0).length ≤ 10 * zs.length := by
      unfold Rw.formB
      rw [if_neg (by omega)]
      exact Rw.bodyTo_length h 0 zs.length
    simp only [List.length_append, List.length_cons]
    omega
theorem row_facts {b : List UInt8} {most : Int} : Rw.AllFit (Rd.row b most).1 ∧ (Rd.row b most).1.length ≤ 100000 ∧ (Rd.row b most).2 ≤ b.length ∧ ((Rd.row b most).2 ≠ 0 → Rw.rowB (Rd.row b most).1 = b.take (Rd.row b most).2) := by
  have hnil : Rw.AllFit [] := fun z hz => by simp at hz
  have hle := Dec.getN_le b
  unfold Rd.row
  split
  · exact ⟨hnil, by simp, Nat.zero_le _, fun h => absurd rfl h⟩
  · rename_i hbad
    split
    · rename_i hn0
      refine ⟨hnil, by simp, hle, fun _ => ?_⟩
      have hg := getN_back (b := b) (n := (Dec.getN b).1) (s := (Dec.getN b).2) rfl (fun e => hbad (.inl e))
      rw [hn0] at hg
      rw [hg.1]
      exact (Lib.uvarint_small (show (0 : Nat) < 128 by decide)).symm
    · rename_i hn0
      split
      · exact ⟨hnil, by simp, Nat.zero_le _, fun h => absurd rfl h⟩
      · rename_i hf
        have hf3 : (b.getD (Dec.getN b).2 0).toNat ≤ 2 := by omega
        have hlt : (Dec.getN b).2 < b.length := by omega
        cases hfm : Rd.form (b.drop ((Dec.getN b).2 + 1)) (b.getD (Dec.getN b).2 0).toNat (Dec.getN b).1 with
        | none => exact ⟨hnil, by simp, Nat.zero_le _, fun h => absurd rfl h⟩
        | some r =>
          obtain ⟨zs, s⟩ := r
          simp only
          obtain ⟨h1, h2, h3⟩ := Rd.form_facts hfm
          have hbk := form_back hf3 hfm
          split
          · exact ⟨hnil, by simp, Nat.zero_le _, fun h => absurd rfl h⟩
          · rename_i hbest
            have hbest' : Rw.best zs = (b.getD (Dec.getN b).2 0).toNat := Classical.byContradiction hbest
            rw [List.length_drop] at h2
            refine ⟨h3, by simp only; omega, by simp only; omega, fun _ => ?_⟩
            have hg := getN_back (b := b) (n := (Dec.getN b).1) (s := (Dec.getN b).2) rfl (fun e => hbad (.inl e))
            show Rw.rowB zs = b.take ((Dec.getN b).2 + 1 + s)
            unfold Rw.rowB
            rw [if_neg (by omega), h1, List.take_add, hbk, ← hbest', List.take_succ_eq_append_getElem hlt, hg.1]
            have e : UInt8.ofNat (Rw.best zs) = b[(Dec.getN b).2] := by
              rw [hbest', List.getD_eq_getElem?_getD, List.getElem?_eq_getElem hlt]
              simp
            rw [e]
            simp
end Go.Proofs.YtafmiolehlagkaaGreat.Pak

/-
  World: Load, what is read of what Snapshot writes, as plain mathematics.
-/
namespace Go.Proofs.YtafmiolehlagkaaGreat.Pak
open Go.RowKit
set_option maxRecDepth 100000
theorem row_put2 {zs : List Int} (h : Rw.AllFit zs) (hl : zs.length ≤ 100000) (most : Nat) (hm : zs.length ≤ most) (b : List UInt8) : Rd.row (Rw.rowB zs ++ b) (most : Int) = (zs, (Rw.rowB zs).length) := by
  by_cases h0 : zs.length = 0
  · obtain rfl : zs = [] := List.eq_nil_of_length_eq_zero h0
    have hu : Lib.uvarint 0 = [0] := Lib.uvarint_small (by omega)
    have hg := getN_put (n := 0) (by omega) b
    rw [hu] at hg
    have hr : Rw.rowB [] = [0] := rfl
    unfold Rd.row
    rw [hr, hg]
    simp only [List.length_cons, List.length_nil]
    rw [if_neg (by omega), if_pos trivial]
  · have hr : Rw.rowB zs = Lib.uvarint zs.length ++ (UInt8.ofNat (Rw.best zs) :: Rw.formB zs (Rw.best zs)) := by unfold Rw.rowB; rw [if_neg h0]
    have hg := getN_put (n := zs.length) (by omega) ((UInt8.ofNat (Rw.best zs) :: Rw.formB zs (Rw.best zs)) ++ b)
    have p1 := Lib.uvarint_pos zs.length
    unfold Rd.row
    rw [hr, List.append_assoc, hg]
    simp only
    generalize hU : Lib.uvarint zs.length = U at *
    have e1 : (U ++ (UInt8.ofNat (Rw.best zs) :: Rw.formB zs (Rw.best zs) ++ b)).getD U.length 0 = UInt8.ofNat (Rw.best zs) := by
      rw [List.getD_eq_getElem?_getD, List.getElem?_append_right (Nat.le_refl _)]
      simp
    have e2 : (U ++ (UInt8.ofNat (Rw.best zs) :: Rw.formB zs (Rw.best zs) ++ b)).drop (U.length + 1) = Rw.formB zs (Rw.best zs) ++ b := by
      rw [List.drop_append]
      simp
    have hb := Rw.best_le zs
    rw [if_neg (by omega), if_neg h0, e1, best_byte, e2, form_put h (by omega) hb b, if_neg (by simp; omega)]
    simp
    omega
theorem row_pos (zs : List Int) : 0 < (Rw.rowB zs).length := by
  unfold Rw.rowB
  split
  · simp
  · simp
    omega
theorem and_none : ∀ n : Fin 13, ∀ i : Fin 14, 1 ≤ i.val → i.val ≤ n.val → (2 ^ (n.val + 1) - 2).testBit i.val = true := by decide +kernel
theorem all_lt {n : Nat} (h : n ≤ 12) : 2 ^ (n + 1) - 2 < 8192 := by
  have : 2 ^ (n + 1) ≤ 2 ^ 13 := Nat.pow_le_pow_right (by omega) (by omega)
  have e : 2 ^ 13 = 8192 := by decide
  omega
/-- A set of some of n kinds has nothing else. -/
theorem set_within {n s : Nat} (hn : n ≤ 12) (hs : ∀ k, s.testBit k = true → 1 ≤ k ∧ k ≤ n) : s &&& (18446744073709551615 - (2 ^ (n + 1) - 2)) = 0 := by
  refine Nat.eq_of_testBit_eq (fun i => ?_)
  have hx := all_lt hn
  have e : 18446744073709551615 - (2 ^ (n + 1) - 2) = 2 ^ 64 - ((2 ^ (n + 1) - 2) + 1) := by omega
  rw [Nat.testBit_and, e, Nat.testBit_two_pow_sub_succ (by omega), Nat.zero_testBit]
  cases hb : s.testBit i
  · simp
  · have := hs i hb
    rw [and_none ⟨n, by omega⟩ ⟨i, by omega⟩ this.1 this.2]
    simp
end Go.Proofs.YtafmiolehlagkaaGreat.Pak

/-
  World: the reader of bytes: skip.
-/
namespace Go.Proofs.YtafmiolehlagkaaGreat
open Go.RowKit
set_option maxRecDepth 100000
theorem bs_cut {w : World} {g o c : Nat} {l : List UInt8} (hc : ∀ j (hj : j < l.length), w.cell? ⟨g, o + j, none⟩ = some (.int .u8 (l[j]).toNat)) (hlc : l.length ≤ c) (hm : c ≤ maxLen) {k : Nat} (hk : k ≤ l.length) : Pak.Bs w (.slice (some ⟨g, o + k, none⟩) (l.length - k) (c - k)) (l.drop k) := by
  have := Pak.Bs.row (w := w) (g := g) (o := o + k) (c := c - k) (l := l.drop k) (by simp; omega) (by omega) (fun j hj => by
    simp at hj
    have := hc (k + j) (by omega)
    rw [← Nat.add_assoc] at this
    rw [this]
    simp)
  rwa [List.length_drop] at this
theorem bs_end {w : World} {g o c : Nat} {l : List UInt8} (hlc : l.length ≤ c) {k : Nat} (hk : k ≤ l.length) (hkc : k = c) : Pak.Bs w (.slice (some ⟨g, o, none⟩) (l.length - k) 0) (l.drop k) := by
  have e : l.drop k = [] := List.drop_eq_nil_of_le (by omega)
  rw [e, show l.length - k = 0 by omega]
  exact ⟨some ⟨g, o, none⟩, 0, rfl, Nat.le_refl _, Nat.zero_le _, fun j hj => absurd hj (by simp)⟩
/-- A reader, all well so far: what it has still to read; the bytes lie below B. -/
def Rb (w : World) (B k : Nat) (l : List UInt8) : Prop :=
  B ≤ k ∧ ∃ v, w.heap[k]? = some (.cells #[v, .bool false] 126 (0, 0)) ∧ Pak.Bs w v l ∧ ∀ j, v.ownBlock = some j → j < B
theorem Bs.mv {w w' : World} {v : Value} {l : List UInt8} {S : Nat → Prop} (h : Pak.Bs w v l) (hm : Mv w w' S) (hs : ∀ j, v.ownBlock = some j → ¬ S j) : Pak.Bs w' v l := by
  obtain ⟨ao, c, rfl, h1, h2, h3⟩ := h
  refine ⟨ao, c, rfl, h1, h2, fun j hj => ?_⟩
  obtain ⟨g, o, rfl, hc⟩ := h3 j hj
  exact ⟨g, o, rfl, hm.cell hc (hs g rfl)⟩
theorem Rb.mv {w w' : World} {B k : Nat} {l : List UInt8} {S : Nat → Prop} (h : Rb w B k l) (hm : Mv w w' S) (hs : ∀ j, S j → B ≤ j ∧ j ≠ k) : Rb w' B k l := by
  obtain ⟨h1, v, h2, h3, h4⟩ := h
  refine ⟨h1, v, hm.at h2 (fun e => (hs k e).2 rfl), Bs.mv h3 hm (fun j e e2 => ?_), h4⟩
  have := (hs j e2).1
  have := h4 j e
  omega
theorem Rb.later {w w' : World} {B k : Nat} {l : List UInt8} (h : Rb w B k l) (hb : Below w.heap.size w w') : Rb w' B k l := h.mv (Mv.of_below hb (fun _ => False)) (fun _ e => e.elim)
theorem Rb.lt {w : World} {B k : Nat} {l : List UInt8} (h : Rb w B k l) : k < w.heap.size := by
  obtain ⟨h1, v, h2, -⟩ := h
  exact lt_of_block h2
theorem Rb.cut {w : World} {B k : Nat} {l : List UInt8} {v v' : Value} (hB : B ≤ k) (hk : w.heap[k]? = some (.cells #[v, .bool false] 126 (0, 0))) (hv : Pak.Bs w v' l) (hj : ∀ j, v'.ownBlock = some j → j < B) : Rb ((w.setCell ⟨k, 1, none⟩ (.bool false)).setCell ⟨k, 0, none⟩ v') B k l ∧ Mv w ((w.setCell ⟨k, 1, none⟩ (.bool false)).setCell ⟨k, 0, none⟩ v') (fun j => j = k) := by
  have hm : Mv w ((w.setCell ⟨k, 1, none⟩ (.bool false)).setCell ⟨k, 0, none⟩ v') (fun j => j = k) := ((Mv.refl w (fun j => j = k)).set (g := k) rfl _ _).set (g := k) rfl _ _
  refine ⟨⟨hB, v', ?_, Bs.mv hv hm (fun j e e2 => ?_), hj⟩, hm⟩
  · rw [heap_setCell_same _ k 0 _ 126 _ (heap_setCell_same w k 1 _ 126 (.bool false) hk)]
    rfl
  · have := hj j e
    omega
set_option maxHeartbeats 2000000 in
theorem skip_any (w : World) (B k : Nat) (l : List UInt8) (h : Rb w B k l) (n : Nat) (h1 : 1 ≤ n) (h2 : n ≤ l.length) :
    Calls Tryz.prog 129 #[.pointer (some ⟨k, 0, none⟩), .int .i64 (n : Int)] w fun e w' => e = .returned (.tuple #[]) ∧ Rb w' B k (l.drop n) ∧ Mv w w' (fun j => j = k) := by
  obtain ⟨hB, v, hk, hv, hj⟩ := h
  rcases hv.parts with ⟨ao, c, rfl, rfl⟩ | ⟨g, o, c, rfl, h0, hlc, hm, hc⟩
  · simp at h2; omega
  have HV := hide hv
  have HK := hide hk
  have hgB := hj g rfl
  have c0 : w.cell? ⟨k, 0, none⟩ = some (.slice (some ⟨g, o, none⟩) l.length c) := by rw [cell_of_row w k _ _ 126 (0, 0) hk]; rfl
  have c1 : w.cell? ⟨k, 1, none⟩ = some (.bool false) := by rw [cell_of_row w k _ _ 126 (0, 0) hk]; rfl
  have f0 : w.frozen? ⟨k, 0, none⟩ = false := frozen_of_row w k 0 _ 126 hk
  have f1 : w.frozen? ⟨k, 1, none⟩ = false := frozen_of_row w k 1 _ 126 hk
  have z0 : ((n : Int) == 0) = false := by simp; omega
  have HM := hide hm
  unfold maxLen at hm
  have HC := hide hc
  clear hc hk hv hj
  have z1 : ¬ (n : Int) < 0 := by omega
  have hk1 := heap_setCell_same w k 1 _ 126 (.bool false) HK.out
  have d0 : (w.setCell ⟨k, 1, none⟩ (.bool false)).cell? ⟨k, 0, none⟩ = some (.slice (some ⟨g, o, none⟩) l.length c) := by rw [cell_of_row _ k _ _ 126 (0, 0) hk1]; rfl
  have e0 : (w.setCell ⟨k, 1, none⟩ (.bool false)).frozen? ⟨k, 0, none⟩ = false := frozen_of_row _ k 0 _ 126 hk1
  have HK1 := hide hk1
  clear hk1
  by_cases hnc : n = c
  · subst hnc
    go_enter Tryz.func129, Tryz.ntmps129
    go_wp2_with fail
    go_end0
    obtain ⟨q1, q2⟩ := Rb.cut (l := l.drop n) hB HK.out (v' := .slice (some ⟨g, o, none⟩) 0 0) (by
      have := bs_end (w := w) (g := g) (o := o) hlc h2 rfl
      rwa [show l.length - n = 0 by omega] at this) (fun j e => by cases e; exact hgB)
    exact ⟨rfl, q1, q2⟩
  · have hnc' : ¬ (n : Int) = c := by omega
    go_enter Tryz.func129, Tryz.ntmps129
    go_wp2_with fail
    go_end0
    obtain ⟨q1, q2⟩ := Rb.cut (l := l.drop n) hB HK.out (bs_cut HC.out hlc HM.out h2) (fun j e => by cases e; exact hgB)
    exact ⟨rfl, q1, q2⟩
end Go.Proofs.YtafmiolehlagkaaGreat

/-
  World: the reader of bytes: set.
-/
namespace Go.Proofs.YtafmiolehlagkaaGreat
open Go.RowKit
set_option maxRecDepth 100000
set_option maxHeartbeats 2000000 in
theorem setr_any (w : World) (B k s n : Nat) (l : List UInt8) (h : Rb w B k (Lib.uvarint s ++ l)) (hn : n ≤ 12) (hs : ∀ j, s.testBit j = true → 1 ≤ j ∧ j ≤ n) (hs2 : s < 8192) :
    Calls Tryz.prog 132 #[.pointer (some ⟨k, 0, none⟩), .int .i64 (n : Int)] w fun e w' => e = .returned (.int .i64 (s : Int)) ∧ Rb w' B k l ∧ Mv w w' (fun j => j = k) := by
  have hg := Pak.getN_put (n := s) (by omega) l
  have hp := Lib.uvarint_pos s
  have J2 := skip_any w B k _ h (Lib.uvarint s).length hp (by simp)
  rw [List.drop_left] at J2
  obtain ⟨hB, v, hk, hv, hj⟩ := h
  have J1 := Pak.get_any v _ w hv
  rw [hg] at J1
  dsimp only at J1
  have c0 : w.cell? ⟨k, 0, none⟩ = some v := by rw [cell_of_row w k _ _ 126 (0, 0) hk]; rfl
  have hz : (bits BinOp.andNot IntKind.u64 (s : Int) (IntKind.u64.wrap (IntKind.u64.wrap (2 ^ (n + 1)) - 2)) != 0) = false := by
    have hx := Pak.all_lt hn
    have e1 : ((2 : Int) ^ (n + 1)) = ((2 ^ (n + 1) : Nat) : Int) := by simp
    have e2 : 2 ≤ 2 ^ (n + 1) := by have := Nat.pow_le_pow_right (n := 2) (by omega) (show 1 ≤ n + 1 by omega); omega
    have e3 : IntKind.u64.wrap (IntKind.u64.wrap (2 ^ (n + 1)) - 2) = ((2 ^ (n + 1) - 2 : Nat) : Int) := by
      rw [e1, IntKind.wrap_u64, IntKind.wrap_u64]
      omega
    rw [e3, u64_andNot_nat s _ (by omega) (by omega), Pak.set_within hn hs]
    rfl
  have H1 := hide J1
  have H2 := hide J2
  generalize Lib.uvarint s = u at *
  clear J1 J2 hg hp hk hv hj hs
  go_enter Tryz.func132, Tryz.ntmps132
  go_wp2_with fail
  refine H1.out.mono ?_
  rintro e w1 ⟨rfl, rfl⟩
  go_wp2_with fail
  refine H2.out.mono ?_
  rintro e w2 ⟨rfl, hr⟩
  have HR := hide hr
  clear hr
  go_wp2_with fail
  go_ret
  exact ⟨rfl, HR.out⟩
end Go.Proofs.YtafmiolehlagkaaGreat

/-
  World: the reader of bytes: values.
-/
namespace Go.Proofs.YtafmiolehlagkaaGreat
open Go.RowKit
set_option maxRecDepth 100000
theorem val_step (vals : List Int) (l : List UInt8) (j : Nat) (hj : j < vals.length) : (vals.drop j).flatMap Pak.Rw.ivar ++ l = Pak.Rw.ivar vals[j] ++ ((vals.drop (j + 1)).flatMap Pak.Rw.ivar ++ l) := by
  rw [List.drop_eq_getElem_cons hj, List.flatMap_cons, List.append_assoc]
theorem ivar_pos (z : Int) : 0 < (Pak.Rw.ivar z).length := Lib.uvarint_pos _
set_option maxHeartbeats 2000000 in
theorem values_any (w : World) (B k : Nat) (vals : List Int) (l : List UInt8) (h : Rb w B k (vals.flatMap Pak.Rw.ivar ++ l)) (hf : Pak.Rw.AllFit vals) (hl : vals.length ≤ 100000) :
    Calls Tryz.prog 134 #[.pointer (some ⟨k, 0, none⟩), .int .i64 (vals.length : Int)] w fun e w' => e = .returned (.slice (some ⟨w.heap.size, 0, none⟩) vals.length vals.length) ∧ w'.ownsRow w.heap.size 2 1 (.slice (some ⟨w.heap.size, 0, none⟩) vals.length vals.length) vals.length (zc vals) ∧ Rb w' B k l ∧ Mv w w' (fun j => j = k) := by
  obtain ⟨i0, hi0, hz0, hz1, hz2⟩ := info_parts info2
  have hkw := h.lt
  obtain ⟨n, hn⟩ : ∃ n, n = vals.length := ⟨_, rfl⟩
  have HN := hide hn
  have H := hide h
  have HF := hide hf
  rw [← hn] at hl ⊢
  clear h hf hn
  go_enter Tryz.func134, Tryz.ntmps134
  go_wp2_with (at_make; refine wpList_make_full _ rfl _ _ 30 rfl w.heap.size 2 i0 (.int .i64 0) 1 Tryz.underlying30 hi0 hz0 hz1 .i64 .i64 _ _ n rfl rfl ?c1 ?c2 ?c3 ?c4 ?c5 ?_)
  case c1 => omega
  case c2 => omega
  case c3 => rw [hz2]; omega
  case c4 => unfold maxLen; omega
  case c5 => omega
  intro w1 hown hgrow
  rw [toList_madeCells_one] at hown
  have hb1 : Below w.heap.size w w1 := (Below.refl _ _).grown hgrow (Nat.le_refl _) (by intro k hk; cases hk)
  have HM1 : Hid (Mv w w1 (fun j => j = k)) := Mv.of_below hb1 _
  have HR1 : Hid (Rb w1 B k ((vals.drop 0).flatMap Pak.Rw.ivar ++ l)) := H.out.later hb1
  have HO1 : Hid (w1.ownsRow w.heap.size 2 1 (.slice (some ⟨w.heap.size, 0, none⟩) n n) n (zc (vals.take 0 ++ List.replicate (n - 0) 0))) := by
    have e : zc (vals.take 0 ++ List.replicate (n - 0) 0) = List.replicate n (.int .i64 0) := by simp [zc]
    rw [e]
    exact hown
  clear hown hgrow hb1 H
  obtain ⟨ko, hko⟩ : ∃ k, k = w.heap.size := ⟨_, rfl⟩
  rw [show (Value.slice (some ⟨w.heap.size, 0, none⟩) n n) = .slice (some ⟨ko, 0, none⟩) n n by rw [hko]] at HO1
  rw [← hko] at hkw ⊢
  have HK : Hid (ko = w.heap.size) := hko
  have hne : ko ≠ k := by omega
  clear hko
  go_wp2_with fail
  go_loopw [13] (fun v13 W => ∃ j : Nat, j ≤ n ∧ v13 = .int .i64 (j : Int) ∧ Hid (W.ownsRow w.heap.size 2 1 (.slice (some ⟨ko, 0, none⟩) n n) n (zc (vals.take j ++ List.replicate (n - j) 0))) ∧ Hid (Rb W B k ((vals.drop j).flatMap Pak.Rw.ivar ++ l)) ∧ Hid (Mv w W (fun j => j = k))) (fun v13 _ => n - (intOf v13).toNat)
  case atStart => exact ⟨0, Nat.zero_le _, rfl, HO1, HR1, HM1⟩
  case round =>
    clear HO1 HR1 HM1
    obtain ⟨j, hjl, rfl, HO, HR, HM⟩ := hrel
    by_cases hj : j < n
    · have t1 : (j : Int) < (n : Int) := by omega
      have hjv : j < vals.length := by have := HN.out; omega
      have hr := HR.out
      rw [val_step vals l j hjv] at hr
      have hfx := HF.out _ (List.getElem_mem hjv)
      have JS := skip_any wr B k _ hr (Pak.Rw.ivar vals[j]).length (ivar_pos _) (by simp)
      rw [List.drop_left] at JS
      obtain ⟨-, v, hk, hv, -⟩ := hr
      have JG := Pak.getInt_any v _ wr hv
      rw [Pak.getN_ivar hfx] at JG
      dsimp only at JG
      rw [Pak.Dec.unzig_zigzag] at JG
      have c0 : wr.cell? ⟨k, 0, none⟩ = some v := by rw [cell_of_row wr k _ _ 126 (0, 0) hk]; rfl
      have H1 := hide JG
      have H2 := hide JS
      have hx : vals[j]? = some vals[j] := by simp [hjv]
      have HX := hide hx
      generalize vals[j] = x at *
      generalize (Pak.Rw.ivar x).length = u at *
      clear JG JS hk hv hfx hx
      go_wp2_with fail
      refine H1.out.mono ?_
      rintro e w1 ⟨rfl, rfl⟩
      go_wp2_with fail
      refine H2.out.mono ?_
      rintro e w2 ⟨rfl, hr2, hm2⟩
      have ho2 := hm2.own HO.out (fun q e e2 => by cases e; exact hne e2)
      have eo : w2.cell? ⟨ko, j, none⟩ = some (.int .i64 0) := by
        rw [ho2.cellAt j (by omega)]
        exact fill_at _ _ _ HN.out.symm hj
      have ef := ho2.frozenAt j
      have hst := (ho2.stored j (.int .i64 x)).1
      rw [zc_set, fill_set _ _ _ _ HN.out.symm hj HX.out] at hst
      have HST := hide hst
      have hm3 : Mv w2 (w2.setCell ⟨ko, j, none⟩ (.int .i64 x)) (fun q => q = ko) := (Mv.refl w2 (fun q => q = ko)).set (g := ko) rfl _ _
      have HR3 : Hid (Rb (w2.setCell ⟨ko, j, none⟩ (.int .i64 x)) B k ((vals.drop (j + 1)).flatMap Pak.Rw.ivar ++ l)) := hr2.mv hm3 (fun q e => by
        have := hr2.1
        have := hr2.lt
        omega)
      have HM3 : Hid (Mv w (w2.setCell ⟨ko, j, none⟩ (.int .i64 x)) (fun j => j = k)) := (HM.out.trans hm2 (fun _ _ e => e)).trans hm3 (fun q hq e => by
        have := HK.out
        omega)
      clear hst ho2 hr2 hm2 hm3 H1 H2
      go_wp2_with fail
      go_roundw
      case rel => exact ⟨j + 1, by omega, by go_num, HST, HR3, HM3⟩
      case measure => simp [intOf]; omega
    · obtain rfl : j = n := by omega
      have t1 : ¬ (j : Int) < (j : Int) := by omega
      have hfin : (zc (vals.take j ++ List.replicate (j - j) 0)) = zc vals := by
        rw [List.take_of_length_le (by have := HN.out; omega)]
        simp
      have hr := HO.out
      rw [hfin] at hr
      have hr2 := HR.out
      rw [List.drop_eq_nil_of_le (by have := HN.out; omega), List.flatMap_nil, List.nil_append] at hr2
      have HRF := hide hr
      have HR2 := hide hr2
      clear hr hfin HR HO hr2
      go_wp2_with fail
      go_ret
      obtain rfl := HK.out
      exact ⟨rfl, HRF.out, HR2.out, HM.out⟩
end Go.Proofs.YtafmiolehlagkaaGreat

/-
  World: Load reads one entity's parts.
-/
namespace Go.Proofs.YtafmiolehlagkaaGreat
open Go.RowKit
set_option maxRecDepth 100000
theorem Pv.mv {B : Nat} {w w' : World} {L : List Pt} {R : List (Nat × List Int)} {S : Nat → Prop} (h : Pv B w L R) (hm : Mv w w' S) (hs : ∀ j, S j → j < B) : Pv B w' L R := ⟨h.1, fun i h1 h2 => ⟨(h.2 i h1 h2).1, hm.own (h.2 i h1 h2).2 (fun j e e2 => by
  have := ((h.2 i h1 h2).2.lt j e).1
  have := hs j e2
  omega)⟩⟩
section
variable {w w' : World} {own : Nat → Nat} {gw gp gm gt M M' : Nat} {vk : Value} {ks : List Kind} {gs fr gs' fr' : List Nat} {f f' : Int × Int → Option Nat} {q q' : Nat → Option Nat} {T T' : Nat → Ts}
set_option maxHeartbeats 8000000 in
theorem read_any (h : Wx 0 w own gw vk gp gm gt M ks gs fr f q T) (hks : ks.length ≤ 12) (B k s : Nat) (row : List Int) (l : List UInt8) (hr : Rb w B k (Lib.uvarint s ++ (row.flatMap Pak.Rw.ivar ++ l))) (hk0 : own k = 0) (hsb : Sb ks s) (hs : s < 8192) (hlen : row.length = fsum ks s 1) (h48 : row.length ≤ 48) (hfit : Pak.Rw.AllFit row) :
    Calls Tryz.prog 66 #[.pointer (some ⟨gw, 0, none⟩), .pointer (some ⟨k, 0, none⟩)] w fun e w' => ∃ v, e = .returned v ∧ ∃ L, w'.ownsRow w.heap.size 32 2 v L.length (pz L) ∧ Pv w.heap.size w' L (partsL ks s 1 row) ∧ (∀ p ∈ L, p.2.1 ≠ none) ∧ Rb w' B k l ∧ Mv w w' (fun j => j = k) := by
  obtain ⟨i0, hi0, hz0, hz1, hz2⟩ := info_parts infoP
  have H := hide h
  have hkw := hr.lt
  obtain ⟨c0, c1, c2, c3⟩ := h.cells
  have hkr := h.2.2.2.1.kr
  obtain ⟨ak, ck, rfl, hk1, -⟩ := hkr
  have J0 := hide (setr_any w B k s ks.length _ hr hks hsb hs)
  have HLE := hide hlen
  have HFT := hide hfit
  have HK0 := hide hk0
  clear h hr hlen hfit hk0 hsb c1 c2 c3
  go_enter Tryz.func66, Tryz.ntmps66
  go_wp2_with fail
  refine J0.out.mono ?_
  rintro e w1 ⟨rfl, hr1, hm1⟩
  have HR1 := hide hr1
  have HM1 := hide hm1
  clear hr1 hm1 J0 c0
  go_wp2_with fail
  go_loopw [6, 7] (fun v6 v7 W => ∃ (j : Nat) (rest : List Int) (L : List Pt) (R : List (Nat × List Int)), j ≤ ks.length ∧ v7 = .int .i64 ((j + 1 : Nat) : Int) ∧ rest.length ≤ 48 ∧ Hid (partsL ks s 1 row = R ++ partsL (ks.drop j) s (j + 1) rest ∧ rest.length = fsum (ks.drop j) s (j + 1) ∧ Pak.Rw.AllFit rest) ∧ L.length ≤ j ∧ Hid (W.ownsRow w.heap.size 32 2 v6 L.length (pz L)) ∧ Hid (Pv w.heap.size W L R ∧ ∀ p ∈ L, p.2.1 ≠ none) ∧ Hid (∀ p ∈ L, Ap (ptV p) v6) ∧ Hid (Rb W B k (rest.flatMap Pak.Rw.ivar ++ l)) ∧ Hid (Mv w W (fun j => j = k))) (fun _ v7 _ => ks.length + 1 - (intOf v7).toNat)
  case atStart => exact ⟨0, row, [], [], Nat.zero_le _, rfl, h48, ⟨rfl, HLE.out, HFT.out⟩, Nat.zero_le _, World.ownsRow_nil _ _ _ _, ⟨Pv.nil _ _, fun p hp => by simp at hp⟩, fun p hp => by simp at hp, HR1, HM1⟩
  case round =>
    clear HR1 HM1
    obtain ⟨j, rest, L, R, hkl, rfl, h48, HP, hLk, HO, HV, HAp, HR, HM⟩ := hrel
    have hx := H.out.frame (L := 0) (.inl rfl) HM.out (fun q _ e => .inl (by rw [e]; exact HK0.out))
    obtain ⟨c0, -, -, -⟩ := hx.cells
    have hkr := hx.2.2.2.1.kr
    have JFd : Hid (∀ (j : Nat) (h1 : 1 ≤ j) (h2 : j ≤ ks.length), Calls Tryz.prog 89 #[.pointer (some ⟨gw, 0, none⟩), .int .i64 (j : Int)] wr fun e w' => e = .returned (.int .i64 ((ks[j - 1]'(by omega)).2.length : Int)) ∧ w' = wr) := fun j h1 h2 => fields_any hx.2.2.1 hkr j h1 h2 hks
    clear hx hkr
    by_cases hlt : j < ks.length
    · have t1 : ((j + 1 : Nat) : Int) ≤ (ks.length : Int) := by omega
      have hps := parts_step ks s j hlt rest
      have hfs := fsum_step ks s j hlt
      have JH := hide (has_any s (j + 1) wr hs (by omega))
      have JF1 := hide (JFd.out (j + 1) (by omega) (by omega))
      simp only [Nat.add_sub_cancel] at JF1
      generalize (ks[j]'hlt).2.length = m at *
      obtain ⟨K, hK⟩ : ∃ K : Int, K = ((j + 1 : Nat) : Int) := ⟨_, rfl⟩
      have t3 : IntKind.i64.wrap (K + 1) = ((j + 1 + 1 : Nat) : Int) := by rw [IntKind.wrap_i64]; omega
      rw [← hK] at t1 JH JF1 ⊢
      have HKK := hide hK
      have HPS := hide hps
      have HFS := hide hfs
      clear hK hps hfs JFd
      cases hbt : s.testBit (j + 1) with
      | false =>
        rw [hbt] at JH HPS HFS
        have hp2 := HPS.out
        have hf2 := HFS.out
        simp only [Bool.false_eq_true, if_false, Nat.zero_add] at hp2 hf2
        have HP2 := hide hp2
        have HF2 := hide hf2
        clear HPS HFS hp2 hf2 hbt JF1
        go_wp2_with fail
        refine JH.out.mono ?_
        rintro e w' ⟨rfl, rfl⟩
        go_wp2_with fail
        go_roundw
        case rel => exact ⟨j + 1, rest, L, R, by omega, by have hKK := HKK.out; subst hKK; go_num, h48, ⟨by rw [HP.out.1, HP2.out], by rw [HP.out.2.1, HF2.out], HP.out.2.2⟩, by omega, HO, HV, HAp, HR, HM⟩
        case measure => have hKK := HKK.out; simp only [intOf]; omega
      | true =>
        rw [hbt] at JH HPS HFS
        have hp2 := HPS.out
        have hf2 := HFS.out
        simp only [if_true] at hp2 hf2
        have HP2 := hide hp2
        have HF2 := hide hf2
        have hmr : m ≤ rest.length := by rw [HP.out.2.1, HF2.out]; omega
        clear HPS HFS hp2 hf2 hbt
        obtain ⟨a6, c6, rfl⟩ := own_len HO.out
        have hlm : (rest.take m).length = m := by rw [List.length_take]; omega
        have JV : Hid (Calls Tryz.prog 134 #[.pointer (some ⟨k, 0, none⟩), .int .i64 (m : Int)] wr fun e w' => e = .returned (.slice (some ⟨wr.heap.size, 0, none⟩) m m) ∧ w'.ownsRow wr.heap.size 2 1 (.slice (some ⟨wr.heap.size, 0, none⟩) m m) m (zc (rest.take m)) ∧ Rb w' B k ((rest.drop m).flatMap Pak.Rw.ivar ++ l) ∧ Mv wr w' (fun j => j = k)) := by
          have hrb := HR.out
          rw [← List.take_append_drop m rest, List.flatMap_append, List.append_assoc] at hrb
          have := values_any wr B k (rest.take m) _ hrb (fun z hz => HP.out.2.2 z (List.mem_of_mem_take hz)) (by rw [hlm]; omega)
          rw [hlm] at this
          exact this
        have HLM := hide hlm
        clear hlm
        go_wp2_with fail
        refine JH.out.mono ?_
        rintro e wr ⟨rfl, rfl⟩
        go_wp2_with fail
        refine JF1.out.mono ?_
        rintro e wr ⟨rfl, rfl⟩
        go_wp2_with fail
        refine JV.out.mono ?_
        rintro e w5 ⟨rfl, ho5, hr5, hm5⟩
        obtain ⟨ko, hko⟩ : ∃ q, q = wr.heap.size := ⟨_, rfl⟩
        rw [show (Value.slice (some ⟨wr.heap.size, 0, none⟩) m m) = .slice (some ⟨ko, 0, none⟩) m m by rw [hko]] at ho5 ⊢
        have HKO := hide hko
        have O5 := hide ho5
        have M5 := hide hm5
        have R5 := hide hr5
        have HA : Hid (∀ (v' : Value) (w' : World), w'.ownsRow w.heap.size 32 2 v' (L.length + 1) (pz L ++ [.int .i64 K, .slice (some ⟨ko, 0, none⟩) m m]) → (w5.alloc (.cells #[.int .i64 K, .slice (some ⟨ko, 0, none⟩) m m] 32)).grownBy w' (Value.slice a6 L.length c6).ownBlock → (v'.ownBlock = (Value.slice a6 L.length c6).ownBlock ∨ v'.ownBlock = some (w5.heap.size + 1)) → w'.ownsRow w.heap.size 32 2 v' (L ++ [(K, some (⟨ko, 0, none⟩ : Addr), m, m)]).length (pz (L ++ [(K, some (⟨ko, 0, none⟩ : Addr), m, m)])) ∧ (Pv w.heap.size w' (L ++ [(K, some (⟨ko, 0, none⟩ : Addr), m, m)]) (R ++ [(j + 1, rest.take m)]) ∧ ∀ p ∈ L ++ [(K, some (⟨ko, 0, none⟩ : Addr), m, m)], p.2.1 ≠ none) ∧ (∀ p ∈ L ++ [(K, some (⟨ko, 0, none⟩ : Addr), m, m)], Ap (ptV p) v') ∧ Rb w' B k ((rest.drop m).flatMap Pak.Rw.ivar ++ l) ∧ Mv w w' (fun j => j = k)) := fun v' w' g1 g2 g3 => by
          have b6 := below_alloc w5 (.cells #[.int .i64 K, .slice (some ⟨ko, 0, none⟩) m m] 32)
          have hwr := HM.out.size
          have hw5 := M5.out.size
          have q1 : ∀ j, (Value.slice a6 L.length c6).ownBlock = some j → w.heap.size ≤ j ∧ j < wr.heap.size := fun j e => HO.out.lt j e
          have q2 : ∀ j, (Value.slice (some ⟨ko, 0, none⟩) m m).ownBlock = some j → wr.heap.size ≤ j ∧ j < w5.heap.size := fun j e => O5.out.lt j e
          have q3 : ∀ p ∈ L, ∀ j, (ptV p).ownBlock = some j → j < wr.heap.size := fun p hp j e => by
            obtain ⟨n, hn, rfl⟩ := List.getElem_of_mem hp
            exact ((HV.out.1.2 n hn (by rw [← HV.out.1.1]; exact hn)).2.lt j e).2
          refine ⟨?_, ⟨?_, fun p hp => ?_⟩, ?_, (R5.out.later b6).mv ((Mv.refl _ (fun j => (Value.slice a6 L.length c6).ownBlock = some j)).grown g2 (fun j _ e => e)) (fun j e => ?_), ((HM.out.trans M5.out (fun _ _ e => e)).later b6).grown g2 (fun j hj e => ?_)⟩
          · rw [pz_append, pz_two, List.length_append]
            exact g1
          · refine Pv.push (((HV.out.1.mv M5.out (fun j e => by omega)).later b6).grown g2 (fun p hp j e e2 => HAp.out p hp j e e2)) (K, some (⟨ko, 0, none⟩ : Addr), m, m) (j + 1) (rest.take m) HKK.out ?_
            rw [HLM.out]
            exact own_kept (own_lower (own_later O5.out b6) hwr) g2 (fun j e e2 => by have h1 := q1 j e2; have h2 := q2 j e; omega)
          · rw [List.mem_append, List.mem_singleton] at hp
            rcases hp with hp | rfl
            · exact HV.out.2 p hp
            · simp
          · intro p hp j e1 e2
            rw [List.mem_append, List.mem_singleton] at hp
            rcases g3 with g3 | g3
            · rw [g3] at e2
              rcases hp with hp | rfl
              · exact HAp.out p hp j e1 e2
              · have h1 := q1 j e2
                have h2 := q2 j e1
                omega
            · rw [g3] at e2
              have e3 := Option.some.inj e2
              rcases hp with hp | rfl
              · have := q3 p hp j e1
                omega
              · have h2 := q2 j e1
                omega
          · have h1 := q1 j e
            have h2 := R5.out.1
            omega
          · have h1 := q1 j e
            omega
        have HO5 : Hid (w5.ownsRow w.heap.size 32 2 (.slice a6 L.length c6) L.length (pz L)) := M5.out.own HO.out (fun j e e2 => by have := (HO.out.lt j e).1; omega)
        have hs5 : w.heap.size ≤ w5.heap.size := Nat.le_trans HM.out.size M5.out.size
        clear JV JF1 JH ho5 hm5 hr5 hko
        go_wp2_with (at_builtin; refine wpList_append_own_at _ rfl _ _ 33 rfl w.heap.size 32 i0 (.agg #[.int .i64 0, .slice none 0 0]) 2 32 Tryz.underlying33 hi0 hz0 hz1 hz2 rfl (by decide) _ L.length (pz L) rfl (HO5.out.alloc _) ⟨w5.heap.size, 0, none⟩ 1 1 [.int .i64 K, .slice (some ⟨ko, 0, none⟩) m m] rfl rfl ?c1 ?c2 (by unfold maxLen; omega) (by omega) ?c5 ?_)
        case c1 =>
          intro j u hj
          match j, hj with
          | 0, hj => simp at hj; subst hj; simp [Addr.add]
          | 1, hj => simp at hj; subst hj; simp [Addr.add]
        case c2 =>
          intro u hu
          simp at hu
          rcases hu with rfl | rfl <;> rfl
        case c5 =>
          simp
          omega
        intro v' w' g1 g2 _ g3
        obtain ⟨r1, r2, r3, r4, r5⟩ := HA.out v' w' g1 g2 g3
        have X1 := hide r1
        have X2 := hide r2
        have X3 := hide r3
        have X4 := hide r4
        have X5 := hide r5
        clear g1 g2 g3 r1 r2 r3 r4 r5 HA
        go_wp2_with fail
        go_roundw
        case rel =>
          refine ⟨j + 1, rest.drop m, L ++ [(K, some (⟨ko, 0, none⟩ : Addr), m, m)], R ++ [(j + 1, rest.take m)], by omega, by have hKK := HKK.out; subst hKK; go_num, by rw [List.length_drop]; omega, ⟨?_, ?_, fun z hz => HP.out.2.2 z (List.mem_of_mem_drop hz)⟩, by simp; omega, X1, X2, X3, X4, X5⟩
          · rw [HP.out.1, HP2.out, List.append_assoc]
            rfl
          · have h1 := HP.out.2.1
            rw [HF2.out] at h1
            rw [List.length_drop]
            omega
        case measure => have hKK := HKK.out; simp only [intOf]; omega
    · obtain rfl : j = ks.length := by omega
      have t1 : ¬ ((ks.length + 1 : Nat) : Int) ≤ (ks.length : Int) := by omega
      have hp := HP.out
      rw [List.drop_eq_nil_of_le (Nat.le_refl _)] at hp
      have hrest : rest = [] := List.eq_nil_of_length_eq_zero hp.2.1
      subst hrest
      have hfin : partsL ks s 1 row = R := by rw [hp.1]; simp [partsL]
      have HFN := hide hfin
      clear hp hfin HP JFd
      go_wp2_with fail
      go_ret
      rw [HFN.out]
      exact ⟨_, rfl, L, HO.out, HV.out.1, fun a b c d hm => HV.out.2 (a, b, c, d) hm, HR.out, HM.out⟩
end
end Go.Proofs.YtafmiolehlagkaaGreat
