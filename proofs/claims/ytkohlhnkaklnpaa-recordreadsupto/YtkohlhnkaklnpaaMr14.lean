import Derived.Test.YtkohlhnkaklnpaaMr00
import Derived.Test.YtkohlhnkaklnpaaMr13
import Derived.Test.YtkohlhnkaklnpaaMr04
import Derived.Test.YtkohlhnkaklnpaaMr01
namespace Go.Proofs.Ytkohlhnkaklnpaa
open Go.RowKit
theorem refBit_same {s c : Nat} (h : c % 2 = s % 2) : Crc.refBit s c = s / 2 := by unfold Crc.refBit; rw [if_pos h]
theorem refBit_other {s c : Nat} (h : ¬ c % 2 = s % 2) : Crc.refBit s c = (s / 2) ^^^ Crc.poly := by unfold Crc.refBit; rw [if_neg h]
theorem bit_of (b j : Nat) : ((b : Int) / 2 ^ j).tmod 2 = ((b / 2 ^ j % 2 : Nat) : Int) := by
  rw [show ((b : Int) / 2 ^ j) = ((b / 2 ^ j : Nat) : Int) by rw [Int.natCast_ediv]; norm_cast]
  rw [Int.tmod_eq_emod_of_nonneg (Int.natCast_nonneg _)]
  omega
theorem ref_other {s b j : Nat} (hs : s < 4294967296) (h : (((b : Int) / 2 ^ j).tmod 2 != (s : Int) % 2) = true) :
    bits .xor .u32 ((s : Int) / 2) 2197175160 = ((Crc.refBit s (b / 2 ^ j) : Nat) : Int) := by
  rw [bit_of] at h
  have h' : ¬ b / 2 ^ j % 2 = s % 2 := by
    intro e
    rw [bne_iff_ne] at h
    omega
  rw [refBit_other h', show ((s : Int) / 2) = ((s / 2 : Nat) : Int) by omega]
  exact u32_xor_nat _ 2197175160 (by omega) (by omega)
theorem ref_same {s b j : Nat} (h : (((b : Int) / 2 ^ j).tmod 2 != (s : Int) % 2) = false) :
    ((s : Int) / 2) = ((Crc.refBit s (b / 2 ^ j) : Nat) : Int) := by
  rw [bit_of] at h
  have h' : b / 2 ^ j % 2 = s % 2 := by
    rw [bne_eq_false_iff_eq] at h
    omega
  rw [refBit_same h']
  omega

set_option maxHeartbeats 1000000 in
set_option maxRecDepth 100000 in
theorem rsum_some (g o c : Nat) (l : List UInt8) (w : World) (hl : l.length ≤ maxLen) (hcell : ∀ j (hj : j < l.length), w.cell? ⟨g, o + j, none⟩ = some (.int .u8 (l[j]).toNat)) :
    Calls Try.prog 20 #[.slice (some ⟨g, o, none⟩) l.length c] w fun e w' => e = .returned (.int .u32 (Crc.crc l)) ∧ w' = w := by
  unfold maxLen at hl
  go_enter Try.func20, Try.ntmps20
  go_wp2
  go_loop [3, 4] (fun s i => ∃ k : Nat, k ≤ l.length ∧ i = .int .i64 k ∧ s = .int .u32 (Crc.crcFold 4294967295 (l.take k))) (fun _ i => l.length - (intOf i).toNat)
  case atStart => exact ⟨0, Nat.zero_le _, rfl, rfl⟩
  case round =>
    obtain ⟨k, hk, rfl, rfl⟩ := hrel
    have hs := Crc.crcFold_lt (l.take k) (s := 4294967295) (by omega)
    by_cases hlt : k < l.length
    · have hc := hcell k hlt
      have hb := (l[k]).toNat_lt
      have HT : Hid (Crc.crcFold 4294967295 (l.take (k + 1)) = Crc.crcByte (Crc.crcFold 4294967295 (l.take k)) l[k].toNat) := by
        rw [List.take_succ_eq_append_getElem hlt]
        exact Crc.crcFold_snoc _ _ _
      go_wp2
      generalize hS : Crc.crcFold 4294967295 (l.take k) = S at *
      clear hS
      go_loop [3, 5] (fun s i => ∃ j : Nat, j ≤ 8 ∧ i = .int .i64 j ∧ s = .int .u32 (Crc.refBits j S l[k].toNat)) (fun _ i => 8 - (intOf i).toNat)
      case atStart => exact ⟨0, Nat.zero_le _, rfl, rfl⟩
      case round =>
        obtain ⟨j, hj, rfl, rfl⟩ := hrel
        have hz := Crc.refBits_lt l[k].toNat hs j
        by_cases hj8 : j < 8
        · go_wp2
          all_goals refine ⟨⟨j + 1, by omega, by go_num, val_int ?_⟩, by simp [intOf]; omega⟩
          · exact ref_other hz ‹_›
          · exact ref_same ‹_›
        · go_wp2
          refine ⟨⟨k + 1, by omega, by go_num, val_int ?_⟩, by simp [intOf]; omega⟩
          obtain rfl : j = 8 := by omega
          rw [HT.out, ← Crc.refByte_eq _ _ hb]
    · go_wp2
      go_ret
      exact ⟨ret_int (by rw [List.take_of_length_le (by omega)] at hs ⊢; exact u32_xor_nat _ 4294967295 hs (by omega)), rfl⟩

set_option maxHeartbeats 1000000 in
set_option maxRecDepth 100000 in
theorem rsum_nil (ao : Option Addr) (c : Nat) (w : World) :
    Calls Try.prog 20 #[.slice ao 0 c] w fun e w' => e = .returned (.int .u32 (Crc.crc [])) ∧ w' = w := by
  go_enter Try.func20, Try.ntmps20
  go_wp2
  refine wp_loop_rounds 1 ?_
  rw [rounds_succ]
  go_wp2
  go_ret
  exact ⟨ret_int (by decide), rfl⟩

theorem rsum_any (v : Value) (l : List UInt8) (w : World) (h : Bs w v l) :
    Calls Try.prog 20 #[v] w fun e w' => e = .returned (.int .u32 (Crc.crc l)) ∧ w' = w := by
  rcases h.parts with ⟨ao, c, rfl, rfl⟩ | ⟨g, o, c, rfl, _, h1, h2, h3⟩
  · exact rsum_nil ao c w
  · exact rsum_some g o c l w (by omega) h3
end Go.Proofs.Ytkohlhnkaklnpaa

/-
  The document's Made and Put of records.
-/
namespace Go.Proofs.Ytkohlhnkaklnpaa
open Go.RowKit

theorem four_take (c : Nat) {k : Nat} (h : k < 4) : (Rc.four c).take (k + 1) = (Rc.four c).take k ++ [UInt8.ofNat (c / 2 ^ (8 * k))] := by
  rw [List.take_succ_eq_append_getElem (by rw [Rc.four_length]; exact h)]
  simp [Rc.four]
theorem byte_cell (x : Nat) : Lib.byteCells [UInt8.ofNat x] = [Value.int .u8 ((x % 256 : Nat) : Int)] := by
  simp [Lib.byteCells, UInt8.toNat_ofNat']

theorem grown_later2 {w w' : World} (h : Below w.heap.size w w') : w.grownBy w' none := ⟨h.os, h.tape, h.output, h.size, fun k hk _ => h.block k hk⟩

set_option maxHeartbeats 8000000 in
set_option maxRecDepth 100000 in
theorem rmade_any (vd : Value) (d : List UInt8) (w : World) (hd : Bs w vd d) (hnd : NilOr vd) (hl : d.length ≤ 140737488000000) :
    Calls Try.prog 25 #[vd] w fun e w' => ∃ v', e = .returned v' ∧ w'.ownsRow w.heap.size 5 1 v' (Rc.made d).length (Lib.byteCells (Rc.made d)) ∧ Below w.heap.size w w' := by
  obtain ⟨i0, hi, hz0, hz1, hz2⟩ := info_parts info5
  obtain ⟨ao, c, rfl, h1, h2, h3⟩ := id hd
  clear h3
  unfold maxLen at h2
  have HD := hide hd
  clear hd
  have b1 := lit_bs (row_lit w [130]) (by decide)
  have hp := rput_any _ _ d.length _ b1 (.inr ⟨_, _, _, rfl⟩) (by omega) (by simp)
  have HP := hide hp
  clear hp b1
  go_enter Try.func25, Try.ntmps25
  go_wp2_with fail
  refine HP.out.mono ?_
  rintro e w1 ⟨v1, rfl, ho1, hb1⟩
  have e1 : [130] ++ Lib.uvarint d.length = Rc.head d.length := rfl
  have hlen := Lib.uvarint_length64 (x := d.length) (by omega)
  have hhl := Rc.head_length d.length
  have HHL := hide hhl
  have hh11 : (Rc.head d.length).length ≤ 11 := by omega
  clear hhl
  rw [e1] at ho1
  have hbw1 : Below w.heap.size w w1 := ((Below.refl _ w).alloc (Nat.le_refl _) _).trans (hb1.mono (by simp))
  have hv1 := own_bs ho1
  have hn1 := own_nilOr ho1
  obtain ⟨ao1, k1, rfl⟩ := own_len ho1
  have HV1 := hide hv1
  have HB1 := hide hbw1
  have hal : ∀ (W : World) o, Below W.heap.size W (W.alloc o) := fun W o => (Below.refl W.heap.size W).alloc (Nat.le_refl _) o
  clear ho1 hb1 HP hv1 hbw1 e1
  go_wp2_with (at_builtin; refine wpList_append_bs _ rfl _ _ rfl w1.heap.size _ 0 [] rfl (World.ownsRow_made w1 #[] 0 (Nat.le_refl _) (Nat.zero_le _) rfl) _ (Rc.head d.length) rfl (HV1.out.below (hal _ _) (Nat.le_refl _)) hn1 ?m1 ?m2 ?_)
  case m1 => omega
  case m2 => simp
  intro v2 w2 ho2 hb2
  have hb12 : Below w1.heap.size w1 w2 := (hal _ _).trans hb2
  have hs2 := hb12.size
  have hd2 := HD.out.below (HB1.out.trans (hb12.mono HB1.out.size)) (Nat.le_refl _)
  go_wp2_with (at_builtin; refine wpList_append_bs _ rfl _ _ rfl w1.heap.size _ _ _ rfl ho2 _ d rfl hd2 hnd ?m3 ?m4 ?_)
  case m3 => omega
  case m4 => exact hs2
  intro v3 w3 ho3 hb3
  rw [← Lib.byteCells_append] at ho3
  have hb13 : Below w1.heap.size w1 w3 := hb12.trans hb3
  have hrs := rsum_any v3 _ w3 (own_bs ho3)
  have HRS := hide hrs
  have HB3 := hide hb13
  clear ho2 hb2 hb12 hd2 ho3 hb3 hb13 hrs
  go_wp2_with fail
  refine HRS.out.mono ?_
  rintro e w4 ⟨rfl, rfl⟩
  have HV4 := hide (HV1.out.below HB3.out (Nat.le_refl _))
  have HB4 := hide (HB1.out.trans (HB3.out.mono HB1.out.size))
  have ES := hide (show Rc.sum4 (Rc.head d.length ++ d) = Rc.four (Crc.crc (Rc.head d.length ++ d)) from rfl)
  have hclt := Crc.crc_lt (Rc.head d.length ++ d)
  clear HRS HV1 HB1 HB3
  generalize Crc.crc (Rc.head d.length ++ d) = q at *
  go_wp2_with (at_builtin; refine wpList_append_bs _ rfl _ _ rfl w4.heap.size _ 0 [] rfl (World.ownsRow_made w4 #[] 0 (Nat.le_refl _) (Nat.zero_le _) rfl) _ (Rc.head d.length) rfl (HV4.out.below (hal _ _) (Nat.le_refl _)) hn1 ?m5 ?m6 ?_)
  case m5 => omega
  case m6 => simp
  intro v5 w5 ho5 hb5
  have HO5 := hide ho5
  have HB5 := hide ((hal _ _).trans hb5)
  clear ho5 hb5
  go_wp2_with fail
  go_loopw [6, 7] (fun v i wr => ∃ k : Nat, k ≤ 4 ∧ i = .int .i64 k ∧ wr.ownsRow w4.heap.size 5 1 v ((Rc.head d.length).length + k) (Lib.byteCells (Rc.head d.length ++ (Rc.four q).take k)) ∧ Below w4.heap.size w4 wr) (fun _ i _ => 4 - (intOf i).toNat)
  case atStart => exact ⟨0, by omega, rfl, by simpa using HO5.out, HB5.out⟩
  case round =>
    obtain ⟨k, hk, rfl, ho, hb⟩ := hrel
    have hsb := hb.size
    by_cases hlt : k < 4
    · have e1 : (k : Int) < 4 := by omega
      have hv := shr8 q k
      go_wp2_with (at_builtin; refine wpList_append_own _ rfl _ _ 22 rfl w4.heap.size 5 i0 (.int .u8 0) 1 1 Try.underlying22 hi hz0 hz1 hz2 rfl (by decide) _ _ _ rfl (ho.alloc _) ⟨wr.heap.size, 0, none⟩ 1 1 [Value.int .u8 ((q / 2 ^ (8 * k) % 256 : Nat) : Int)] rfl rfl ?c1 ?c2 ?c3 ?c4 ?c5 ?_)
      case c1 =>
        intro j u hj
        match j, hj with
        | 0, hj => simp at hj; subst hj; simp [Addr.add]
      case c2 => intro u hu; simp at hu; subst hu; rfl
      case c3 => unfold maxLen; omega
      case c4 => omega
      case c5 => simp; omega
      intro v' w6 hown' hgrow _
      have hb6 : Below w4.heap.size w4 w6 := (hb.alloc hsb _).grown hgrow (by simp; omega) (fun k hk => (ho.lt k hk).1)
      have HO6 := hide hown'
      clear hown' hgrow ho
      go_wp2_with fail
      go_roundw
      case rel =>
        refine ⟨k + 1, by omega, by go_num, ?_, hb6⟩
        have := HO6.out
        have ec : ((q / 2 ^ (8 * k) % 256 : Nat) : Int) = (q : Int) / 2 ^ (8 * k) % 256 := by norm_cast
        rw [four_take q hlt, ← List.append_assoc, Lib.byteCells_append, byte_cell, ← Nat.add_assoc, ec]
        exact this
      case measure => simp [intOf]; omega
    · have e1 : ¬ (k : Int) < 4 := by omega
      obtain rfl : k = 4 := by omega
      rw [List.take_of_length_le (by rw [Rc.four_length]; exact Nat.le_refl _)] at ho
      have hd6 := HD.out.below (HB4.out.trans (hb.mono HB4.out.size)) (Nat.le_refl _)
      go_wp2_with (at_builtin; refine wpList_append_bs _ rfl _ _ rfl w4.heap.size _ _ _ rfl ho _ d rfl hd6 hnd ?m7 ?m8 ?_)
      case m7 => omega
      intro v7 w7 ho7 hb7
      have HO7 := hide ho7
      clear ho7 ho hd6
      go_wp2_with fail
      go_ret
      refine ⟨v7, rfl, ?_, HB4.out.trans ((hb.trans hb7).mono HB4.out.size)⟩
      have := own_lower HO7.out (B' := w.heap.size) HB4.out.size
      rw [← Lib.byteCells_append, ← ES.out, List.append_assoc] at this
      rw [show (Rc.made d).length = (Rc.head d.length).length + 4 + d.length by rw [Rc.made_length, HHL.out]]
      exact this

set_option maxHeartbeats 4000000 in
set_option maxRecDepth 100000 in
theorem rrput_bad (vb vd : Value) (d : List UInt8) (w : World) (hd : Bs w vd d) (hf : ¬ Rc.fits d) :
    Calls Try.prog 11 #[vb, vd] w fun e w' => e = .returned (.tuple #[.slice none 0 0, .int .i64 1]) ∧ w' = w := by
  obtain ⟨ao, c, rfl, h1, h2, h3⟩ := hd
  clear h3
  unfold maxLen at h2
  by_cases h0 : d.length = 0
  · have z : (d.length : Int) < 1 := by omega
    have H0 := hide h0
    clear h0
    go_enter Try.func11, Try.ntmps11
    go_wp2
    go_ret2
    exact ⟨rfl, rfl⟩
  · have z : ¬ (d.length : Int) < 1 := by omega
    have hl : (d.length : Int) > 100000 := by
      have : ¬ d.length ≤ 100000 := fun h => hf ⟨fun e => h0 (by simp [e]), h⟩
      omega
    go_enter Try.func11, Try.ntmps11
    go_wp2
    go_ret2
    exact ⟨rfl, rfl⟩

set_option maxHeartbeats 4000000 in
set_option maxRecDepth 100000 in
theorem rrput_good (vb vd : Value) (b d : List UInt8) (w : World) (hb : Bs w vb b) (hnb : NilOr vb) (hd : Bs w vd d) (hnd : NilOr vd) (hf : Rc.fits d) (hl : b.length ≤ 140737488000000) :
    Calls Try.prog 11 #[vb, vd] w fun e w' => ∃ v', e = .returned (.tuple #[v', .int .i64 0]) ∧ w'.ownsRow w.heap.size 5 1 v' (b ++ Rc.made d).length (Lib.byteCells (b ++ Rc.made d)) ∧ Below w.heap.size w w' := by
  obtain ⟨aob, cb, rfl, _, _, _⟩ := id hb
  obtain ⟨ao, c, rfl, h1, h2, h3⟩ := id hd
  clear h3
  unfold maxLen at h2
  have hd0 : d.length ≠ 0 := fun e => hf.1 (List.eq_nil_of_length_eq_zero e)
  have hd1 := hf.2
  have z : ¬ (d.length : Int) < 1 := by omega
  have hle : ¬ (d.length : Int) > 100000 := by omega
  have hlen := Lib.uvarint_length64 (x := d.length) (by omega)
  have hml := Rc.made_length d
  have hal : ∀ (W : World) o, Below W.heap.size W (W.alloc o) := fun W o => (Below.refl W.heap.size W).alloc (Nat.le_refl _) o
  have HD := hide hd
  have HB := hide hb
  clear hd hb
  go_enter Try.func11, Try.ntmps11
  go_wp2_with (at_builtin; refine wpList_append_bs _ rfl _ _ rfl w.heap.size _ 0 [] rfl (World.ownsRow_made w #[] 0 (Nat.le_refl _) (Nat.zero_le _) rfl) _ b rfl (HB.out.below (hal _ _) (Nat.le_refl _)) hnb ?m1 ?m2 ?_)
  case m1 => omega
  intro v1 w1 ho1 hb1
  have hb01 : Below w.heap.size w w1 := (hal _ _).trans hb1
  have hmade := rmade_any _ d w1 (HD.out.below hb01 (Nat.le_refl _)) hnd (by omega)
  have HM := hide hmade
  have HO1 := hide ho1
  have HB1 := hide hb01
  clear hmade ho1 hb1 hb01
  go_wp2_with fail
  refine HM.out.mono ?_
  rintro e w2 ⟨v2, rfl, ho2, hb2⟩
  have hs2 := hb2.size
  have hs1 := HB1.out.size
  have ho12 := HO1.out.kept (grown_later2 hb2) (by cases v1.ownBlock <;> simp)
  have hbs2 := own_bs ho2
  have hn2 := own_nilOr ho2
  clear HM
  go_wp2_with (at_builtin; refine wpList_append_bs _ rfl _ _ rfl w.heap.size _ _ _ rfl ho12 _ (Rc.made d) rfl hbs2 hn2 ?m3 ?m4 ?_)
  case m3 => omega
  case m4 => omega
  intro v3 w3 ho3 hb3
  have HO3 := hide ho3
  clear ho3 ho12 hbs2 ho2
  go_wp2_with fail
  go_ret2
  refine ⟨v3, rfl, ?_, (HB1.out.trans (hb2.mono hs1)).trans hb3⟩
  have := HO3.out
  rw [Lib.byteCells_append, List.length_append, hml]
  simpa using this
end Go.Proofs.Ytkohlhnkaklnpaa

/-
  The document's Get: what it tells of bytes is 'Dec.getN'.
-/
namespace Go.Proofs.Ytkohlhnkaklnpaa
open Go.RowKit

theorem add_shift {k acc b : Nat} (hs : acc + b * 2 ^ (7 * k) < 18446744073709551616) :
    IntKind.u64.wrap ((acc : Int) + IntKind.u64.wrap ((b : Int) * 2 ^ (7 * k))) = ((acc + b * 2 ^ (7 * k) : Nat) : Int) := by
  have e : ((b : Int) * 2 ^ (7 * k)) = ((b * 2 ^ (7 * k) : Nat) : Int) := by
    rw [Int.natCast_mul, Int.natCast_pow]
    rfl
  rw [e, IntKind.wrap_u64, IntKind.wrap_u64]
  generalize b * 2 ^ (7 * k) = q at *
  omega

set_option maxHeartbeats 4000000 in
set_option maxRecDepth 100000 in
theorem rget2_some (g o c : Nat) (l : List UInt8) (w : World) (hl : l.length ≤ maxLen) (hcell : ∀ j (hj : j < l.length), w.cell? ⟨g, o + j, none⟩ = some (.int .u8 (l[j]).toNat)) :
    Calls Try.prog 39 #[.slice (some ⟨g, o, none⟩) l.length c] w fun e w' => e = .returned (.tuple #[.int .u64 (Dec.getN l).1, .int .i64 (Dec.getN l).2]) ∧ w' = w := by
  unfold maxLen at hl
  go_enter Try.func39, Try.ntmps39
  go_wp2
  go_loop [4, 5] (fun s i => ∃ k acc : Nat, k ≤ l.length ∧ k ≤ 9 ∧ i = .int .i64 k ∧ s = .int .u64 acc ∧ Hid (acc < 2 ^ (7 * k)) ∧ Hid (Dec.getN l = Dec.getFrom k acc (l.drop k))) (fun _ i => l.length - (intOf i).toNat)
  case atStart => exact ⟨0, 0, Nat.zero_le _, by omega, rfl, rfl, by simp [Hid], rfl⟩
  case round =>
    obtain ⟨k, acc, hk, hk9, rfl, rfl, HA, hdec⟩ := hrel
    by_cases hlt : k < l.length
    · have hc := hcell k hlt
      have hdrop : l.drop k = l[k]'(by omega) :: l.drop (k + 1) := List.drop_eq_getElem_cons (by omega)
      have hdec1 := hdec.out
      rw [hdrop] at hdec1
      generalize l[k]'(by omega) = b at hc hdec1
      clear hdec hdrop hcell
      have hb := b.toNat_lt
      have HD := hide hdec1
      clear hdec1
      have e10 : (k : Int) < 10 := by omega
      have elt : (k : Int) < (l.length : Int) := by omega
      rcases (show k < 9 ∨ k = 9 by omega) with h9 | rfl
      · have en9 : ((k : Int) == 9) = false := by simp; omega
        have hp : 2 ^ (7 * k) ≤ 2 ^ 56 := Nat.pow_le_pow_right (by omega) (by omega)
        have h56 : 2 ^ 56 = 72057594037927936 := by decide
        have h3 := Nat.mul_le_mul_right (2 ^ (7 * k)) (show b.toNat % 128 ≤ 127 by omega)
        have f0 := add_shift (acc := acc) (k := k) (b := b.toNat % 128) (by have := HA.out; omega)
        have F := hide (show IntKind.u64.wrap ((acc : Int) + IntKind.u64.wrap ((b.toNat : Int) % 128 * 2 ^ (7 * k))) = ((acc + b.toNat % 128 * 2 ^ (7 * k) : Nat) : Int) from f0)
        have HP := hide h3
        clear hp h56 h3 f0
        by_cases hbig : 128 ≤ b.toNat
        · have eb : (128 : Int) ≤ (b.toNat : Int) := by omega
          go_wp2
          refine ⟨⟨k + 1, acc + b.toNat % 128 * 2 ^ (7 * k), by omega, by omega, by go_num, val_int F.out, ?_, HD.out.trans (Dec.getFrom_more (by omega) hbig)⟩, by simp [intOf]; omega⟩
          show acc + b.toNat % 128 * 2 ^ (7 * k) < 2 ^ (7 * (k + 1))
          rw [(pow_bound h9 (show b.toNat % 128 ≤ 127 by omega)).2]
          have h1 := HA.out
          have h3 := HP.out
          omega
        · have eb : ¬ (128 : Int) ≤ (b.toNat : Int) := by omega
          by_cases hb0 : b.toNat = 0
          · rcases (show k = 0 ∨ 0 < k by omega) with rfl | hk0
            · obtain rfl : acc = 0 := by have := HA.out; simpa using this
              have E := hide (HD.out.trans (Dec.getFrom_last (by omega) (by omega) (by omega)))
              have hc0 : w.cell? ⟨g, o, none⟩ = some (.int .u8 0) := by rw [← Nat.add_zero o, hc, hb0]; rfl
              have hz : ((b.toNat : Int) == 0) = true := by simp [hb0]
              have HB := hide hb0
              clear HD HA hb0 hc
              go_wp2
              go_ret2
              rw [E.out]
              exact ⟨ret_pair (by rw [HB.out]; rfl) rfl, rfl⟩
            · have E := hide (HD.out.trans (Dec.getFrom_bad (by omega) (by omega) (.inl ⟨hk0, hb0⟩)))
              have hz : ((b.toNat : Int) == 0) = true := by simp [hb0]
              have ek : (0 : Int) < k := by omega
              clear HD HA hb0
              go_wp2
              go_ret2
              rw [E.out]
              exact ⟨ret_pair rfl rfl, rfl⟩
          · have E := hide (HD.out.trans (Dec.getFrom_last (by omega) (by omega) (by omega)))
            have hz : ((b.toNat : Int) == 0) = false := by simp [hb0]
            have F2 := hide (show b.toNat % 128 = b.toNat by omega)
            clear HD HA hb0
            go_wp2
            go_ret2
            rw [E.out]
            exact ⟨ret_pair (by have := F.out; rw [F2.out] at this; exact this) (by simp), rfl⟩
      · have hacc9 : acc < 9223372036854775808 := by have := HA.out; simpa using this
        rcases (show b.toNat = 0 ∨ b.toNat = 1 ∨ 1 < b.toNat by omega) with hb0 | hb1 | hb2
        · have E := hide (HD.out.trans (Dec.getFrom_bad (by omega) (by omega) (.inl ⟨by omega, hb0⟩)))
          have hz : ((b.toNat : Int) == 0) = true := by simp [hb0]
          have eb : ¬ (1 : Int) < (b.toNat : Int) := by omega
          have eb' : ¬ (128 : Int) ≤ (b.toNat : Int) := by omega
          clear HD HA hb0
          go_wp2
          go_ret2
          rw [E.out]
          exact ⟨ret_pair rfl rfl, rfl⟩
        · have E := hide (HD.out.trans (Dec.getFrom_last (by omega) (by omega) (by omega)))
          have hz : ((b.toNat : Int) == 0) = false := by simp [hb1]
          have eb : ¬ (1 : Int) < (b.toNat : Int) := by omega
          have eb' : ¬ (128 : Int) ≤ (b.toNat : Int) := by omega
          have HB := hide hb1
          clear HD HA hb1
          go_wp2
          go_ret2
          rw [E.out]
          refine ⟨ret_pair ?_ rfl, rfl⟩
          rw [HB.out]
          simp only
          omega
        · have E := hide (HD.out.trans (show _ = ((0, 0) : Nat × Nat) by
            by_cases h : 128 ≤ b.toNat
            · rw [Dec.getFrom_more (by omega) h]; exact Dec.getFrom_ten _ _ _ (by omega)
            · exact Dec.getFrom_bad (by omega) (by omega) (.inr ⟨rfl, hb2⟩)))
          have eb : (1 : Int) < (b.toNat : Int) := by omega
          clear HD HA
          go_wp2
          go_ret2
          rw [E.out]
          exact ⟨ret_pair rfl rfl, rfl⟩
    · have E := hide (hdec.out.trans (show _ = ((0, 0) : Nat × Nat) by rw [List.drop_eq_nil_of_le (by omega)]; exact Dec.getFrom_nil _ _))
      have e10 : (k : Int) < 10 := by omega
      have elt : ¬ (k : Int) < (l.length : Int) := by omega
      clear hdec HA
      go_wp2
      go_ret2
      rw [E.out]
      exact ⟨ret_pair rfl rfl, rfl⟩

set_option maxHeartbeats 1000000 in
set_option maxRecDepth 100000 in
theorem rget2_nil (ao : Option Addr) (c : Nat) (w : World) :
    Calls Try.prog 39 #[.slice ao 0 c] w fun e w' => e = .returned (.tuple #[.int .u64 0, .int .i64 0]) ∧ w' = w := by
  go_enter Try.func39, Try.ntmps39
  go_wp2
  refine wp_loop_rounds 1 ?_
  rw [rounds_succ]
  go_wp2
  go_ret2
  exact ⟨rfl, rfl⟩

/-- The document's Get: what the bytes begin with. -/
theorem rget2_any (v : Value) (l : List UInt8) (w : World) (h : Bs w v l) :
    Calls Try.prog 39 #[v] w fun e w' => e = .returned (.tuple #[.int .u64 (Dec.getN l).1, .int .i64 (Dec.getN l).2]) ∧ w' = w := by
  rcases h.parts with ⟨ao, c, rfl, rfl⟩ | ⟨g, o, c, rfl, _, h1, h2, h3⟩
  · exact rget2_nil ao c w
  · exact rget2_some g o c l w (by omega) h3
end Go.Proofs.Ytkohlhnkaklnpaa
