/-
  The document's Made and Put of records.
-/
import Derived.Test.YtkohlhnkaklnpaaRefPut
import Derived.Test.YtkohlhnkaklnpaaRsum
import Derived.Test.YtkohlhnkaklnpaaRput
namespace Go.Proofs.Ytkohlhnkaklnpaa
open Go.RowKit

theorem four_take (c : Nat) {k : Nat} (h : k < 4) : (Rc.four c).take (k + 1) = (Rc.four c).take k ++ [UInt8.ofNat (c / 2 ^ (8 * k))] := by
  rw [List.take_succ_eq_append_getElem (by rw [Rc.four_length]; exact h)]
  simp [Rc.four]
theorem byte_cell (x : Nat) : Lib.byteCells [UInt8.ofNat x] = [Value.int .u8 ((x % 256 : Nat) : Int)] := by
  simp [Lib.byteCells, UInt8.toNat_ofNat']

theorem grown_later2 {w w' : World} (h : Below w.heap.size w w') : w.grownBy w' none := ⟨h.os, h.tape, h.output, h.size, fun k hk _ => h.block k hk⟩

set_option maxHeartbeats 8000000 in
set_option maxRecDepth 100000 in
theorem rmade_any (vd : Value) (d : List UInt8) (w : World) (hd : Bs w vd d) (hnd : NilOr vd) (hl : d.length ≤ 140737488000000) :
    Calls Try.prog 25 #[vd] w fun e w' => ∃ v', e = .returned v' ∧ w'.ownsRow w.heap.size 5 1 v' (Rc.made d).length (Lib.byteCells (Rc.made d)) ∧ Below w.heap.size w w' := by
  obtain ⟨i0, hi, hz0, hz1, hz2⟩ := info_parts info5
  obtain ⟨ao, c, rfl, h1, h2, h3⟩ := id hd
  clear h3
  unfold maxLen at h2
  have HD := hide hd
  clear hd
  have b1 := lit_bs (row_lit w [130]) (by decide)
  have hp := rput_any _ _ d.length _ b1 (.inr ⟨_, _, _, rfl⟩) (by omega) (by simp)
  have HP := hide hp
  clear hp b1
  go_enter Try.func25, Try.ntmps25
  go_wp2_with fail
  refine HP.out.mono ?_
  rintro e w1 ⟨v1, rfl, ho1, hb1⟩
  have e1 : [130] ++ Lib.uvarint d.length = Rc.head d.length := rfl
  have hlen := Lib.uvarint_length64 (x := d.length) (by omega)
  have hhl := Rc.head_length d.length
  have HHL := hide hhl
  have hh11 : (Rc.head d.length).length ≤ 11 := by omega
  clear hhl
  rw [e1] at ho1
  have hbw1 : Below w.heap.size w w1 := ((Below.refl _ w).alloc (Nat.le_refl _) _).trans (hb1.mono (by simp))
  have hv1 := own_bs ho1
  have hn1 := own_nilOr ho1
  obtain ⟨ao1, k1, rfl⟩ := own_len ho1
  have HV1 := hide hv1
  have HB1 := hide hbw1
  have hal : ∀ (W : World) o, Below W.heap.size W (W.alloc o) := fun W o => (Below.refl W.heap.size W).alloc (Nat.le_refl _) o
  clear ho1 hb1 HP hv1 hbw1 e1
  go_wp2_with (at_builtin; refine wpList_append_bs _ rfl _ _ rfl w1.heap.size _ 0 [] rfl (World.ownsRow_made w1 #[] 0 (Nat.le_refl _) (Nat.zero_le _) rfl) _ (Rc.head d.length) rfl (HV1.out.below (hal _ _) (Nat.le_refl _)) hn1 ?m1 ?m2 ?_)
  case m1 => omega
  case m2 => simp
  intro v2 w2 ho2 hb2
  have hb12 : Below w1.heap.size w1 w2 := (hal _ _).trans hb2
  have hs2 := hb12.size
  have hd2 := HD.out.below (HB1.out.trans (hb12.mono HB1.out.size)) (Nat.le_refl _)
  go_wp2_with (at_builtin; refine wpList_append_bs _ rfl _ _ rfl w1.heap.size _ _ _ rfl ho2 _ d rfl hd2 hnd ?m3 ?m4 ?_)
  case m3 => omega
  case m4 => exact hs2
  intro v3 w3 ho3 hb3
  rw [← Lib.byteCells_append] at ho3
  have hb13 : Below w1.heap.size w1 w3 := hb12.trans hb3
  have hrs := rsum_any v3 _ w3 (own_bs ho3)
  have HRS := hide hrs
  have HB3 := hide hb13
  clear ho2 hb2 hb12 hd2 ho3 hb3 hb13 hrs
  go_wp2_with fail
  refine HRS.out.mono ?_
  rintro e w4 ⟨rfl, rfl⟩
  have HV4 := hide (HV1.out.below HB3.out (Nat.le_refl _))
  have HB4 := hide (HB1.out.trans (HB3.out.mono HB1.out.size))
  have ES := hide (show Rc.sum4 (Rc.head d.length ++ d) = Rc.four (Crc.crc (Rc.head d.length ++ d)) from rfl)
  have hclt := Crc.crc_lt (Rc.head d.length ++ d)
  clear HRS HV1 HB1 HB3
  generalize Crc.crc (Rc.head d.length ++ d) = q at *
  go_wp2_with (at_builtin; refine wpList_append_bs _ rfl _ _ rfl w4.heap.size _ 0 [] rfl (World.ownsRow_made w4 #[] 0 (Nat.le_refl _) (Nat.zero_le _) rfl) _ (Rc.head d.length) rfl (HV4.out.below (hal _ _) (Nat.le_refl _)) hn1 ?m5 ?m6 ?_)
  case m5 => omega
  case m6 => simp
  intro v5 w5 ho5 hb5
  have HO5 := hide ho5
  have HB5 := hide ((hal _ _).trans hb5)
  clear ho5 hb5
  go_wp2_with fail
  go_loopw [6, 7] (fun v i wr => ∃ k : Nat, k ≤ 4 ∧ i = .int .i64 k ∧ wr.ownsRow w4.heap.size 5 1 v ((Rc.head d.length).length + k) (Lib.byteCells (Rc.head d.length ++ (Rc.four q).take k)) ∧ Below w4.heap.size w4 wr) (fun _ i _ => 4 - (intOf i).toNat)
  case atStart => exact ⟨0, by omega, rfl, by simpa using HO5.out, HB5.out⟩
  case round =>
    obtain ⟨k, hk, rfl, ho, hb⟩ := hrel
    have hsb := hb.size
    by_cases hlt : k < 4
    · have e1 : (k : Int) < 4 := by omega
      have hv := shr8 q k
      go_wp2_with (at_builtin; refine wpList_append_own _ rfl _ _ 22 rfl w4.heap.size 5 i0 (.int .u8 0) 1 1 Try.underlying22 hi hz0 hz1 hz2 rfl (by decide) _ _ _ rfl (ho.alloc _) ⟨wr.heap.size, 0, none⟩ 1 1 [Value.int .u8 ((q / 2 ^ (8 * k) % 256 : Nat) : Int)] rfl rfl ?c1 ?c2 ?c3 ?c4 ?c5 ?_)
      case c1 =>
        intro j u hj
        match j, hj with
        | 0, hj => simp at hj; subst hj; simp [Addr.add]
      case c2 => intro u hu; simp at hu; subst hu; rfl
      case c3 => unfold maxLen; omega
      case c4 => omega
      case c5 => simp; omega
      intro v' w6 hown' hgrow _
      have hb6 : Below w4.heap.size w4 w6 := (hb.alloc hsb _).grown hgrow (by simp; omega) (fun k hk => (ho.lt k hk).1)
      have HO6 := hide hown'
      clear hown' hgrow ho
      go_wp2_with fail
      go_roundw
      case rel =>
        refine ⟨k + 1, by omega, by go_num, ?_, hb6⟩
        have := HO6.out
        have ec : ((q / 2 ^ (8 * k) % 256 : Nat) : Int) = (q : Int) / 2 ^ (8 * k) % 256 := by norm_cast
        rw [four_take q hlt, ← List.append_assoc, Lib.byteCells_append, byte_cell, ← Nat.add_assoc, ec]
        exact this
      case measure => simp [intOf]; omega
    · have e1 : ¬ (k : Int) < 4 := by omega
      obtain rfl : k = 4 := by omega
      rw [List.take_of_length_le (by rw [Rc.four_length]; exact Nat.le_refl _)] at ho
      have hd6 := HD.out.below (HB4.out.trans (hb.mono HB4.out.size)) (Nat.le_refl _)
      go_wp2_with (at_builtin; refine wpList_append_bs _ rfl _ _ rfl w4.heap.size _ _ _ rfl ho _ d rfl hd6 hnd ?m7 ?m8 ?_)
      case m7 => omega
      intro v7 w7 ho7 hb7
      have HO7 := hide ho7
      clear ho7 ho hd6
      go_wp2_with fail
      go_ret
      refine ⟨v7, rfl, ?_, HB4.out.trans ((hb.trans hb7).mono HB4.out.size)⟩
      have := own_lower HO7.out (B' := w.heap.size) HB4.out.size
      rw [← Lib.byteCells_append, ← ES.out, List.append_assoc] at this
      rw [show (Rc.made d).length = (Rc.head d.length).length + 4 + d.length by rw [Rc.made_length, HHL.out]]
      exact this

set_option maxHeartbeats 4000000 in
set_option maxRecDepth 100000 in
theorem rrput_bad (vb vd : Value) (d : List UInt8) (w : World) (hd : Bs w vd d) (hf : ¬ Rc.fits d) :
    Calls Try.prog 11 #[vb, vd] w fun e w' => e = .returned (.tuple #[.slice none 0 0, .int .i64 1]) ∧ w' = w := by
  obtain ⟨ao, c, rfl, h1, h2, h3⟩ := hd
  clear h3
  unfold maxLen at h2
  by_cases h0 : d.length = 0
  · have z : (d.length : Int) < 1 := by omega
    have H0 := hide h0
    clear h0
    go_enter Try.func11, Try.ntmps11
    go_wp2
    go_ret2
    exact ⟨rfl, rfl⟩
  · have z : ¬ (d.length : Int) < 1 := by omega
    have hl : (d.length : Int) > 100000 := by
      have : ¬ d.length ≤ 100000 := fun h => hf ⟨fun e => h0 (by simp [e]), h⟩
      omega
    go_enter Try.func11, Try.ntmps11
    go_wp2
    go_ret2
    exact ⟨rfl, rfl⟩

set_option maxHeartbeats 4000000 in
set_option maxRecDepth 100000 in
theorem rrput_good (vb vd : Value) (b d : List UInt8) (w : World) (hb : Bs w vb b) (hnb : NilOr vb) (hd : Bs w vd d) (hnd : NilOr vd) (hf : Rc.fits d) (hl : b.length ≤ 140737488000000) :
    Calls Try.prog 11 #[vb, vd] w fun e w' => ∃ v', e = .returned (.tuple #[v', .int .i64 0]) ∧ w'.ownsRow w.heap.size 5 1 v' (b ++ Rc.made d).length (Lib.byteCells (b ++ Rc.made d)) ∧ Below w.heap.size w w' := by
  obtain ⟨aob, cb, rfl, _, _, _⟩ := id hb
  obtain ⟨ao, c, rfl, h1, h2, h3⟩ := id hd
  clear h3
  unfold maxLen at h2
  have hd0 : d.length ≠ 0 := fun e => hf.1 (List.eq_nil_of_length_eq_zero e)
  have hd1 := hf.2
  have z : ¬ (d.length : Int) < 1 := by omega
  have hle : ¬ (d.length : Int) > 100000 := by omega
  have hlen := Lib.uvarint_length64 (x := d.length) (by omega)
  have hml := Rc.made_length d
  have hal : ∀ (W : World) o, Below W.heap.size W (W.alloc o) := fun W o => (Below.refl W.heap.size W).alloc (Nat.le_refl _) o
  have HD := hide hd
  have HB := hide hb
  clear hd hb
  go_enter Try.func11, Try.ntmps11
  go_wp2_with (at_builtin; refine wpList_append_bs _ rfl _ _ rfl w.heap.size _ 0 [] rfl (World.ownsRow_made w #[] 0 (Nat.le_refl _) (Nat.zero_le _) rfl) _ b rfl (HB.out.below (hal _ _) (Nat.le_refl _)) hnb ?m1 ?m2 ?_)
  case m1 => omega
  intro v1 w1 ho1 hb1
  have hb01 : Below w.heap.size w w1 := (hal _ _).trans hb1
  have hmade := rmade_any _ d w1 (HD.out.below hb01 (Nat.le_refl _)) hnd (by omega)
  have HM := hide hmade
  have HO1 := hide ho1
  have HB1 := hide hb01
  clear hmade ho1 hb1 hb01
  go_wp2_with fail
  refine HM.out.mono ?_
  rintro e w2 ⟨v2, rfl, ho2, hb2⟩
  have hs2 := hb2.size
  have hs1 := HB1.out.size
  have ho12 := HO1.out.kept (grown_later2 hb2) (by cases v1.ownBlock <;> simp)
  have hbs2 := own_bs ho2
  have hn2 := own_nilOr ho2
  clear HM
  go_wp2_with (at_builtin; refine wpList_append_bs _ rfl _ _ rfl w.heap.size _ _ _ rfl ho12 _ (Rc.made d) rfl hbs2 hn2 ?m3 ?m4 ?_)
  case m3 => omega
  case m4 => omega
  intro v3 w3 ho3 hb3
  have HO3 := hide ho3
  clear ho3 ho12 hbs2 ho2
  go_wp2_with fail
  go_ret2
  refine ⟨v3, rfl, ?_, (HB1.out.trans (hb2.mono hs1)).trans hb3⟩
  have := HO3.out
  rw [Lib.byteCells_append, List.length_append, hml]
  simpa using this
end Go.Proofs.Ytkohlhnkaklnpaa
