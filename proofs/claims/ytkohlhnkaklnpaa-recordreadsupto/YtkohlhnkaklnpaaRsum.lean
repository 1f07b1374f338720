import Derived.Test.YtkohlhnkaklnpaaSum
namespace Go.Proofs.Ytkohlhnkaklnpaa
open Go.RowKit
theorem refBit_same {s c : Nat} (h : c % 2 = s % 2) : Crc.refBit s c = s / 2 := by unfold Crc.refBit; rw [if_pos h]
theorem refBit_other {s c : Nat} (h : ¬ c % 2 = s % 2) : Crc.refBit s c = (s / 2) ^^^ Crc.poly := by unfold Crc.refBit; rw [if_neg h]
theorem bit_of (b j : Nat) : ((b : Int) / 2 ^ j).tmod 2 = ((b / 2 ^ j % 2 : Nat) : Int) := by
  rw [show ((b : Int) / 2 ^ j) = ((b / 2 ^ j : Nat) : Int) by rw [Int.natCast_ediv]; norm_cast]
  rw [Int.tmod_eq_emod_of_nonneg (Int.natCast_nonneg _)]
  omega
theorem ref_other {s b j : Nat} (hs : s < 4294967296) (h : (((b : Int) / 2 ^ j).tmod 2 != (s : Int) % 2) = true) :
    bits .xor .u32 ((s : Int) / 2) 2197175160 = ((Crc.refBit s (b / 2 ^ j) : Nat) : Int) := by
  rw [bit_of] at h
  have h' : ¬ b / 2 ^ j % 2 = s % 2 := by
    intro e
    rw [bne_iff_ne] at h
    omega
  rw [refBit_other h', show ((s : Int) / 2) = ((s / 2 : Nat) : Int) by omega]
  exact u32_xor_nat _ 2197175160 (by omega) (by omega)
theorem ref_same {s b j : Nat} (h : (((b : Int) / 2 ^ j).tmod 2 != (s : Int) % 2) = false) :
    ((s : Int) / 2) = ((Crc.refBit s (b / 2 ^ j) : Nat) : Int) := by
  rw [bit_of] at h
  have h' : b / 2 ^ j % 2 = s % 2 := by
    rw [bne_eq_false_iff_eq] at h
    omega
  rw [refBit_same h']
  omega

set_option maxHeartbeats 1000000 in
set_option maxRecDepth 100000 in
theorem rsum_some (g o c : Nat) (l : List UInt8) (w : World) (hl : l.length ≤ maxLen) (hcell : ∀ j (hj : j < l.length), w.cell? ⟨g, o + j, none⟩ = some (.int .u8 (l[j]).toNat)) :
    Calls Try.prog 20 #[.slice (some ⟨g, o, none⟩) l.length c] w fun e w' => e = .returned (.int .u32 (Crc.crc l)) ∧ w' = w := by
  unfold maxLen at hl
  go_enter Try.func20, Try.ntmps20
  go_wp2
  go_loop [3, 4] (fun s i => ∃ k : Nat, k ≤ l.length ∧ i = .int .i64 k ∧ s = .int .u32 (Crc.crcFold 4294967295 (l.take k))) (fun _ i => l.length - (intOf i).toNat)
  case atStart => exact ⟨0, Nat.zero_le _, rfl, rfl⟩
  case round =>
    obtain ⟨k, hk, rfl, rfl⟩ := hrel
    have hs := Crc.crcFold_lt (l.take k) (s := 4294967295) (by omega)
    by_cases hlt : k < l.length
    · have hc := hcell k hlt
      have hb := (l[k]).toNat_lt
      have HT : Hid (Crc.crcFold 4294967295 (l.take (k + 1)) = Crc.crcByte (Crc.crcFold 4294967295 (l.take k)) l[k].toNat) := by
        rw [List.take_succ_eq_append_getElem hlt]
        exact Crc.crcFold_snoc _ _ _
      go_wp2
      generalize hS : Crc.crcFold 4294967295 (l.take k) = S at *
      clear hS
      go_loop [3, 5] (fun s i => ∃ j : Nat, j ≤ 8 ∧ i = .int .i64 j ∧ s = .int .u32 (Crc.refBits j S l[k].toNat)) (fun _ i => 8 - (intOf i).toNat)
      case atStart => exact ⟨0, Nat.zero_le _, rfl, rfl⟩
      case round =>
        obtain ⟨j, hj, rfl, rfl⟩ := hrel
        have hz := Crc.refBits_lt l[k].toNat hs j
        by_cases hj8 : j < 8
        · go_wp2
          all_goals refine ⟨⟨j + 1, by omega, by go_num, val_int ?_⟩, by simp [intOf]; omega⟩
          · exact ref_other hz ‹_›
          · exact ref_same ‹_›
        · go_wp2
          refine ⟨⟨k + 1, by omega, by go_num, val_int ?_⟩, by simp [intOf]; omega⟩
          obtain rfl : j = 8 := by omega
          rw [HT.out, ← Crc.refByte_eq _ _ hb]
    · go_wp2
      go_ret
      exact ⟨ret_int (by rw [List.take_of_length_le (by omega)] at hs ⊢; exact u32_xor_nat _ 4294967295 hs (by omega)), rfl⟩

set_option maxHeartbeats 1000000 in
set_option maxRecDepth 100000 in
theorem rsum_nil (ao : Option Addr) (c : Nat) (w : World) :
    Calls Try.prog 20 #[.slice ao 0 c] w fun e w' => e = .returned (.int .u32 (Crc.crc [])) ∧ w' = w := by
  go_enter Try.func20, Try.ntmps20
  go_wp2
  refine wp_loop_rounds 1 ?_
  rw [rounds_succ]
  go_wp2
  go_ret
  exact ⟨ret_int (by decide), rfl⟩

theorem rsum_any (v : Value) (l : List UInt8) (w : World) (h : Bs w v l) :
    Calls Try.prog 20 #[v] w fun e w' => e = .returned (.int .u32 (Crc.crc l)) ∧ w' = w := by
  rcases h.parts with ⟨ao, c, rfl, rfl⟩ | ⟨g, o, c, rfl, _, h1, h2, h3⟩
  · exact rsum_nil ao c w
  · exact rsum_some g o c l w (by omega) h3
end Go.Proofs.Ytkohlhnkaklnpaa
