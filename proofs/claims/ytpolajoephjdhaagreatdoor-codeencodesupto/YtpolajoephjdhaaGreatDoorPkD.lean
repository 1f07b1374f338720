/-
  Pack's numbers and texts, in this program.
-/
import Derived.Test.YtpolajoephjdhaaGreatDoorPkB
import Derived.Test.YtpolajoephjdhaaGreatDoorPkC
namespace Go.Proofs.YtpolajoephjdhaaGreatDoor
open Go.RowKit

theorem ret_pair {k k' : IntKind} {a b a' b' : Int} (h : a = a') (h' : b = b') : Ending.returned (.tuple #[.int k a, .int k' b]) = .returned (.tuple #[.int k a', .int k' b']) := by rw [h, h']
theorem andNot128 (b : Nat) (hb : b < 256) : bits .andNot .u8 (b : Int) 128 = ((b % 128 : Nat) : Int) := by
  rw [show (128 : Int) = ((128 : Nat) : Int) by rfl, u8_andNot_nat b 128 hb (by omega), nat_mask7]
theorem and128_nat : ∀ b : Fin 256, b.val &&& 128 = if 128 ≤ b.val then 128 else 0 := by decide +kernel
theorem and128 (b : Nat) (hb : b < 256) : bits .and .u8 (b : Int) 128 = if 128 ≤ b then 128 else 0 := by
  rw [show bits .and .u8 (b : Int) 128 = ((b &&& 128 : Nat) : Int) from u8_and_nat b 128 hb (by omega), and128_nat ⟨b, hb⟩]
  split <;> rfl
theorem or_shift {k acc b : Nat} (hacc : acc < 2 ^ (7 * k)) (hb : b * 2 ^ (7 * k) < 18446744073709551616) (hk : k < 10) :
    bits .or .u64 (acc : Int) (IntKind.u64.wrap ((b : Int) * 2 ^ (7 * k))) = ((acc + b * 2 ^ (7 * k) : Nat) : Int) := by
  have e : ((b : Int) * 2 ^ (7 * k)) = ((b * 2 ^ (7 * k) : Nat) : Int) := by
    rw [Int.natCast_mul, Int.natCast_pow]
    rfl
  have hp : 2 ^ (7 * k) ≤ 2 ^ 63 := Nat.pow_le_pow_right (by omega) (by omega)
  have h63 : 2 ^ 63 = 9223372036854775808 := by decide
  rw [e, IntKind.wrap_u64, show (((b * 2 ^ (7 * k) : Nat) : Int) % 18446744073709551616) = ((b * 2 ^ (7 * k) : Nat) : Int) by omega, u64_or_nat _ _ (by omega) hb, Nat.or_comm, nat_join (7 * k) _ _ (Nat.mul_mod_left _ _) hacc, Nat.add_comm]
theorem or_shift9 {acc b : Nat} (hacc : acc < 9223372036854775808) (hb : b ≤ 1) :
    bits .or .u64 (acc : Int) ((b : Int) * 9223372036854775808) = ((acc + b * 2 ^ (7 * 9) : Nat) : Int) := by
  rw [show ((b : Int) * 9223372036854775808) = ((b * 2 ^ (7 * 9) : Nat) : Int) by rw [show (2 : Nat) ^ (7 * 9) = 9223372036854775808 by decide]; omega]
  have hlt : b * 2 ^ (7 * 9) < 18446744073709551616 := by rw [show (2 : Nat) ^ (7 * 9) = 9223372036854775808 by decide]; omega
  rw [u64_or_nat _ _ (by omega) hlt, Nat.or_comm, nat_join (7 * 9) _ _ (Nat.mul_mod_left _ _) hacc, Nat.add_comm]
theorem or_any (x y : Int) : ∃ a : Nat, a < 18446744073709551616 ∧ bits .or .u64 x y = (a : Int) := by
  have h0 := bits_lo_u64 .or x y
  have h1 := bits_hi_u64 .or x y
  exact ⟨(bits .or .u64 x y).toNat, by omega, by omega⟩
theorem pow_bound {k b : Nat} (hk : k < 9) (hb : b ≤ 127) : b * 2 ^ (7 * k) < 18446744073709551616 ∧ 2 ^ (7 * (k + 1)) = 128 * 2 ^ (7 * k) := by
  have h2 := Nat.mul_le_mul_right (2 ^ (7 * k)) hb
  have hp : 2 ^ (7 * k) ≤ 2 ^ 56 := Nat.pow_le_pow_right (by omega) (by omega)
  have h56 : 2 ^ 56 = 72057594037927936 := by decide
  exact ⟨by omega, by rw [show 7 * (k + 1) = 7 * k + 7 by omega, Nat.pow_add, Nat.mul_comm]⟩

set_option maxHeartbeats 4000000 in
set_option maxRecDepth 100000 in
theorem get_some (g o c : Nat) (l : List UInt8) (w : World) (hl : l.length ≤ maxLen) (hcell : ∀ j (hj : j < l.length), w.cell? ⟨g, o + j, none⟩ = some (.int .u8 (l[j]).toNat)) :
    Calls Tryz.prog 88 #[.slice (some ⟨g, o, none⟩) l.length c] w fun e w' => e = .returned (.tuple #[.int .u64 (Dec.getN l).1, .int .i64 (Dec.getN l).2]) ∧ w' = w := by
  unfold maxLen at hl
  by_cases hmin : (l.length : Int) ≤ 10
  all_goals
    go_enter Tryz.func88, Tryz.ntmps88
    go_wp2
    go_loop [4, 11] (fun s i => ∃ k acc : Nat, k ≤ l.length ∧ k ≤ 10 ∧ i = .int .i64 k ∧ s = .int .u64 acc ∧ acc < 18446744073709551616 ∧ (k < 10 → acc < 2 ^ (7 * k)) ∧ Hid (Dec.getN l = Dec.getFrom k acc (l.drop k))) (fun _ i => l.length - (intOf i).toNat)
    case atStart => exact ⟨0, 0, Nat.zero_le _, by omega, rfl, rfl, by omega, by simp, rfl⟩
    case round =>
      obtain ⟨k, acc, hk, hk10, rfl, rfl, ha, hacc, hdec⟩ := hrel
      by_cases hlt : k < l.length ∧ k < 10
      · obtain ⟨hlt, h10⟩ := hlt
        have hc := hcell k hlt
        have hacc1 := hacc h10
        clear hacc
        have HA := hide hacc1
        clear hacc1
        have hdrop : l.drop k = l[k]'(by omega) :: l.drop (k + 1) := List.drop_eq_getElem_cons (by omega)
        have hdec1 := hdec.out
        rw [hdrop] at hdec1
        generalize l[k]'(by omega) = b at hc hdec1
        clear hdec hdrop hcell
        have hb := b.toNat_lt
        have f1 := andNot128 b.toNat hb
        have f2 := and128 b.toNat hb
        have HD := hide hdec1
        clear hdec1
        by_cases hbig : 128 ≤ b.toNat
        · rw [if_pos hbig] at f2
          rcases (show k < 9 ∨ k = 9 by omega) with h9 | rfl
          · have f3 := or_shift (b := b.toNat % 128) HA.out (pow_bound h9 (by omega)).1 h10
            have f3' : bits .or .u64 (acc : Int) (IntKind.u64.wrap ((b.toNat : Int) % 128 * 2 ^ (7 * k))) = ((acc + b.toNat % 128 * 2 ^ (7 * k) : Nat) : Int) := f3
            go_wp2
            refine ⟨⟨k + 1, acc + b.toNat % 128 * 2 ^ (7 * k), by omega, by omega, by go_num, by first | rfl | exact val_int f3', ?_, ?_, HD.out.trans (Dec.getFrom_more h10 hbig)⟩, by simp [intOf]; omega⟩
            · have h1 := HA.out
              have h2 := (pow_bound h9 (show b.toNat % 128 ≤ 127 by omega)).1
              have hp : 2 ^ (7 * k) ≤ 2 ^ 56 := Nat.pow_le_pow_right (by omega) (by omega)
              have h56 : 2 ^ 56 = 72057594037927936 := by decide
              have h3 := Nat.mul_le_mul_right (2 ^ (7 * k)) (show b.toNat % 128 ≤ 127 by omega)
              omega
            · intro _
              rw [(pow_bound h9 (show b.toNat % 128 ≤ 127 by omega)).2]
              have h1 := HA.out
              have h3 := Nat.mul_le_mul_right (2 ^ (7 * k)) (show b.toNat % 128 ≤ 127 by omega)
              omega
          · obtain ⟨a2, ha2, he⟩ := or_any (acc : Int) (IntKind.u64.wrap ((b.toNat : Int) % 128 * 9223372036854775808))
            have HE := hide he
            clear he
            go_wp2
            refine ⟨⟨10, a2, by omega, by omega, rfl, val_int HE.out, ha2, by omega, HD.out.trans ?_⟩, by simp [intOf]; omega⟩
            rw [Dec.getFrom_more (by omega) hbig, Dec.getFrom_ten _ _ _ (by omega), Dec.getFrom_ten _ _ _ (by omega)]
        · rw [if_neg hbig] at f2
          rcases (show k = 0 ∨ (0 < k ∧ k < 9) ∨ k = 9 by omega) with rfl | ⟨hk0, h9⟩ | rfl
          · obtain rfl : acc = 0 := by have := HA.out; simpa using this
            have E := hide (HD.out.trans (Dec.getFrom_last (by omega) (by omega) (by omega)))
            clear HD HA
            have hc0 : w.cell? ⟨g, o, none⟩ = some (.int .u8 b.toNat) := hc
            have f3 : bits .or .u64 0 (b.toNat : Int) = (b.toNat : Int) := by
              have := u64_or_nat 0 b.toNat (by omega) (by omega)
              rw [Nat.zero_or] at this
              exact this
            have F3 := hide f3
            clear f3
            go_wp2
            go_ret2
            rw [E.out]
            exact ⟨ret_pair (by simp; rw [show (b.toNat : Int) % 128 = (b.toNat : Int) by omega]; exact F3.out) (by simp), rfl⟩
          · by_cases hb0 : b.toNat = 0
            · have E := hide (HD.out.trans (Dec.getFrom_bad (by omega) (by omega) (.inl ⟨hk0, hb0⟩)))
              clear HD
              have hz : ((b.toNat : Int) == 0) = true := by simp [hb0]
              have HB := hide hb0
              clear hb0
              go_wp2
              go_ret2
              rw [E.out]
              exact ⟨ret_pair rfl rfl, rfl⟩
            · have E := hide (HD.out.trans (Dec.getFrom_last (by omega) (by omega) (by omega)))
              clear HD
              have hz : ((b.toNat : Int) == 0) = false := by simp [hb0]
              have f3 := or_shift (b := b.toNat) HA.out (pow_bound h9 (by omega)).1 (by omega)
              have F3 := hide f3
              clear f3
              go_wp2
              go_ret2
              rw [E.out]
              exact ⟨ret_pair (by rw [show (b.toNat : Int) % 128 = (b.toNat : Int) by omega]; exact F3.out) (by simp), rfl⟩
          · have hacc9 : acc < 9223372036854775808 := by have := HA.out; simpa using this
            rcases (show b.toNat = 0 ∨ b.toNat = 1 ∨ 1 < b.toNat by omega) with hb0 | hb1 | hb2
            · have E := hide (HD.out.trans (Dec.getFrom_bad (by omega) (by omega) (.inl ⟨by omega, hb0⟩)))
              clear HD
              have hz : ((b.toNat : Int) == 0) = true := by simp [hb0]
              have HB := hide hb0
              clear hb0
              go_wp2
              go_ret2
              rw [E.out]
              exact ⟨ret_pair rfl rfl, rfl⟩
            · have E := hide (HD.out.trans (Dec.getFrom_last (by omega) (by omega) (by omega)))
              clear HD
              have hz : ((b.toNat : Int) == 0) = false := by simp [hb1]
              have hle : (b.toNat : Int) ≤ 1 := by omega
              have f3 := or_shift9 (b := b.toNat) hacc9 (by omega)
              have F3 := hide f3
              have HB := hide hb1
              clear f3 hb1
              go_wp2
              go_ret2
              rw [E.out]
              exact ⟨ret_pair (by rw [show (b.toNat : Int) % 128 = (b.toNat : Int) by omega]; exact F3.out) (by simp), rfl⟩
            · have E := hide (HD.out.trans (Dec.getFrom_bad (by omega) (by omega) (.inr ⟨rfl, hb2⟩)))
              clear HD
              have hz : ((b.toNat : Int) == 0) = false := by rw [beq_eq_false_iff_ne]; omega
              go_wp2
              go_ret2
              rw [E.out]
              exact ⟨ret_pair rfl rfl, rfl⟩
      · have E := hide (hdec.out.trans (show _ = ((0, 0) : Nat × Nat) by
          by_cases h : k < 10
          · rw [List.drop_eq_nil_of_le (by omega)]; exact Dec.getFrom_nil _ _
          · exact Dec.getFrom_ten _ _ _ (by omega)))
        clear hdec
        go_wp2
        go_ret2
        rw [E.out]
        exact ⟨ret_pair rfl rfl, rfl⟩

set_option maxHeartbeats 1000000 in
set_option maxRecDepth 100000 in
theorem get_nil (ao : Option Addr) (c : Nat) (w : World) :
    Calls Tryz.prog 88 #[.slice ao 0 c] w fun e w' => e = .returned (.tuple #[.int .u64 0, .int .i64 0]) ∧ w' = w := by
  go_enter Tryz.func88, Tryz.ntmps88
  go_wp2
  refine wp_loop_rounds 1 ?_
  rw [rounds_succ]
  go_wp2
  go_ret2
  exact ⟨rfl, rfl⟩

/-- Get: what the bytes begin with. -/
theorem get_any (v : Value) (l : List UInt8) (w : World) (h : Bs w v l) :
    Calls Tryz.prog 88 #[v] w fun e w' => e = .returned (.tuple #[.int .u64 (Dec.getN l).1, .int .i64 (Dec.getN l).2]) ∧ w' = w := by
  rcases h.parts with ⟨ao, c, rfl, rfl⟩ | ⟨g, o, c, rfl, _, h1, h2, h3⟩
  · exact get_nil ao c w
  · exact get_some g o c l w (by omega) h3
end Go.Proofs.YtpolajoephjdhaaGreatDoor
