/-
  RecordTorn's walk, ahead nothing, data too long.
-/
import Derived.Test.YtkohlhnkaklnpaaShown
import Derived.Test.YtkohlhnkaklnpaaTornMath
import Derived.Test.YtkohlhnkaklnpaaPick
import Derived.Test.YtkohlhnkaklnpaaTornLaws
namespace Go.Proofs.Ytkohlhnkaklnpaa
open Go.RowKit

set_option maxHeartbeats 8000000 in
set_option maxRecDepth 100000 in
theorem torn_zg (va vd : Value) (a d : List UInt8) (at0 turn : Int) (w : World) (ha : Bs w va a) (hna : NilOr va) (hd : Bs w vd d) (hnd : NilOr vd) (h0 : -9223372036854775808 ≤ at0) (h1 : at0 ≤ 9223372036854775807) (h2 : -9223372036854775808 ≤ turn) (h3 : turn ≤ 9223372036854775807) (pa : a.length = 0) (pd : 100000 < d.length) :
    Calls Try.prog 6 #[va, vd, .int .i64 at0, .int .i64 turn] w fun e w' => e = .returned (.bool true) ∧ Below w.heap.size w w' := by
  obtain ⟨aoa, ca, rfl, ha1, ha2, ha3⟩ := id ha
  obtain ⟨aod, cd, rfl, hd1, hd2, hd3⟩ := id hd
  have HA := hide ha
  have HD := hide hd
  clear ha hd ha3 hd3
  unfold maxLen at ha2 hd2
  have hsh := shown_any w
  have HSH := hide hsh
  clear hsh
  have ta1 : ((a.length : Int) == 0) = true := by simp [pa]
  have Pa := hide pa
  clear pa
  have td1 : ((d.length : Int) == 0) = false := by rw [beq_eq_false_iff_ne]; omega
  have td2 : (d.length : Int) > 100000 := by omega
  have Pd := hide pd
  clear pd
  go_enter Try.func6, Try.ntmps6
  go_wp2_with fail
  refine HSH.out.mono ?_
  rintro e w1 ⟨rfl, hb1⟩
  have kcA := Lib.run_convert_bytes_const (P := Try.prog) w1 22 5 #[.int .u8 97, .int .u8 104, .int .u8 101, .int .u8 97, .int .u8 100] 5 5 Try.underlying22 Try.underlying5
  simp only [List.size_toArray, List.length_cons, List.length_nil, Nat.reduceAdd] at kcA
  have kcD := Lib.run_convert_bytes_const (P := Try.prog) (w1.alloc (.cells #[.int .u8 97, .int .u8 104, .int .u8 101, .int .u8 97, .int .u8 100] 5 (5, 6))) 22 5 #[.int .u8 100, .int .u8 97, .int .u8 116, .int .u8 97] 4 4 Try.underlying22 Try.underlying5
  simp only [World.size_alloc, List.size_toArray, List.length_cons, List.length_nil, Nat.reduceAdd] at kcD
  have HA0 := hide (HA.out.below hb1 (Nat.le_refl _))
  have HD0 := hide (HD.out.below hb1 (Nat.le_refl _))
  have HB0 := hide hb1
  clear hb1 HSH HA HD
  go_wp2_with fail
  have hbx : Below w1.heap.size w1 ((w1.alloc (.cells #[.int .u8 97, .int .u8 104, .int .u8 101, .int .u8 97, .int .u8 100] 5 (5, 6))).alloc (.cells #[.int .u8 100, .int .u8 97, .int .u8 116, .int .u8 97] 5 (4, 5))) := (((Below.refl w1.heap.size w1).alloc (Nat.le_refl _) (.cells #[.int .u8 97, .int .u8 104, .int .u8 101, .int .u8 97, .int .u8 100] 5 (5, 6))).alloc (by simp) (.cells #[.int .u8 100, .int .u8 97, .int .u8 116, .int .u8 97] 5 (4, 5)))
  have HB1 := hide (HB0.out.trans (hbx.mono HB0.out.size))
  have hbsA := mark_bs w1 [97, 104, 101, 97, 100] (5, 6) (by decide)
  have hbsA := hbsA.below ((Below.refl _ _).alloc (Nat.le_refl _) (.cells #[.int .u8 100, .int .u8 97, .int .u8 116, .int .u8 97] 5 (4, 5))) (Nat.le_refl _)
  obtain ⟨A, eA⟩ : ∃ A : List UInt8, [97, 104, 101, 97, 100] = A := ⟨_, rfl⟩
  have fa : Rc.fits A := by rw [← eA]; exact ⟨by simp, by simp⟩
  have hna : NilOr (.slice (some ⟨w1.heap.size, 0, none⟩) 5 5) := .inr ⟨_, _, _, rfl⟩
  have HA1 : Hid (Bs ((w1.alloc (.cells #[.int .u8 97, .int .u8 104, .int .u8 101, .int .u8 97, .int .u8 100] 5 (5, 6))).alloc (.cells #[.int .u8 100, .int .u8 97, .int .u8 116, .int .u8 97] 5 (4, 5))) (.slice (some ⟨w1.heap.size, 0, none⟩) 5 5) A) := by rw [← eA]; exact hbsA
  clear hbsA eA kcA
  have hbsD := mark_bs (w1.alloc (.cells #[.int .u8 97, .int .u8 104, .int .u8 101, .int .u8 97, .int .u8 100] 5 (5, 6))) [100, 97, 116, 97] (4, 5) (by decide)
  obtain ⟨D, eD⟩ : ∃ D : List UInt8, [100, 97, 116, 97] = D := ⟨_, rfl⟩
  have fd : Rc.fits D := by rw [← eD]; exact ⟨by simp, by simp⟩
  have hnd : NilOr (.slice (some ⟨w1.heap.size + 1, 0, none⟩) 4 4) := .inr ⟨_, _, _, rfl⟩
  have HD1 : Hid (Bs ((w1.alloc (.cells #[.int .u8 97, .int .u8 104, .int .u8 101, .int .u8 97, .int .u8 100] 5 (5, 6))).alloc (.cells #[.int .u8 100, .int .u8 97, .int .u8 116, .int .u8 97] 5 (4, 5))) (.slice (some ⟨w1.heap.size + 1, 0, none⟩) 4 4) D) := by rw [← eD]; rw [World.size_alloc] at hbsD; exact hbsD
  clear hbsD eD kcD
  generalize ((w1.alloc (.cells #[.int .u8 97, .int .u8 104, .int .u8 101, .int .u8 97, .int .u8 100] 5 (5, 6))).alloc (.cells #[.int .u8 100, .int .u8 97, .int .u8 116, .int .u8 97] 5 (4, 5))) = wx at *
  clear hbx
  clear HA0 HD0 HB0
  have hput := rput_good (.slice none 0 0) _ [] _ _ (Bs.nil _) (.inl rfl) HA1.out hna fa (by simp)
  have HP := hide hput
  clear hput
  refine HP.out.mono ?_
  rintro e w2 ⟨v2, rfl, ho2, hb2⟩
  rw [List.nil_append] at ho2
  obtain ⟨g2, c2, rfl, hc2, hm2, hg2, _⟩ := own_some ho2 (fun e => Rc.made_ne _ (by rw [e]; rfl))
  have hmx2 : c2 ≤ 9223372036854775807 := by unfold maxLen at hm2; omega
  have hma := made_small fa
  have hmd := made_small fd
  have hpd := Rc.made_ne D
  have hput2 := rput_good _ _ _ D w2 (own_bs ho2) (own_nilOr ho2) (HD1.out.below hb2 (Nat.le_refl _)) hnd fd (by omega)
  have HP2 := hide hput2
  have HA2 := hide (HA1.out.below hb2 (Nat.le_refl _))
  have HD2 := hide (HD1.out.below hb2 (Nat.le_refl _))
  have HB2 := hide (HB1.out.trans (hb2.mono HB1.out.size))
  clear hput2 HP ho2 hb2 HA1 HD1 HB1
  go_wp2_with fail
  refine HP2.out.mono ?_
  rintro e w3 ⟨v3, rfl, ho3, hb3⟩
  rw [List.length_append] at ho3
  obtain ⟨g3, c3, rfl, hc3, hm3, hg3, hcell3⟩ := own_some ho3 (fun e => Rc.made_ne A (by rw [(List.append_eq_nil_iff.1 e).1]; rfl))
  have hmx3 : c3 ≤ 9223372036854775807 := by unfold maxLen at hm3; omega
  have HA3 := hide (HA2.out.below hb3 (Nat.le_refl _))
  have HD3 := hide (HD2.out.below hb3 (Nat.le_refl _))
  have HB3 := hide (HB2.out.trans (hb3.mono HB2.out.size))
  have HO3 := hide ho3
  have HC3 := hide hcell3
  have hLen : (Rc.made A ++ Rc.made D).length = (Rc.made A).length + (Rc.made D).length := List.length_append
  have HL := hide hLen
  have HM3 := hide hm3
  clear HP2 ho3 hb3 HA2 HD2 HB2 hcell3 hLen hm3 hm2
  obtain ⟨La, hLa⟩ : ∃ La, (Rc.made A).length = La := ⟨_, rfl⟩
  obtain ⟨Ld, hLd⟩ : ∃ Ld, (Rc.made D).length = Ld := ⟨_, rfl⟩
  rw [hLa] at hc2 hc3 hma HO3 HL ⊢
  rw [hLd] at hc3 hmd hpd HO3 HL ⊢
  have HLa := hide hLa
  have HLd := hide hLd
  clear hLa hLd
  have hsub : (La : Int) + (Ld : Int) - (La : Int) = (Ld : Int) := by omega
  go_wp2_with fail
  refine (pick_any at0 Ld w3 h0 h1 (by omega) (by omega)).mono ?_
  rintro e w' ⟨⟨p, hp, rfl⟩, rfl⟩
  have hpk : (La : Int) + (p : Int) ≤ (c3 : Int) := by omega
  have hbk : Bs w' (.slice (some ⟨g3, 0, none⟩) (La + p) c3) (Rc.made A ++ (Rc.made D).take p) := by
    have e : (Rc.made A ++ (Rc.made D).take p).length = La + p := by rw [List.length_append, List.length_take, HLa.out, HLd.out]; omega
    have := Bs.row (w := w') (g := g3) (o := 0) (c := c3) (l := Rc.made A ++ (Rc.made D).take p) (by omega) HM3.out (fun j hj => by
      rw [HC3.out j (by rw [HL.out]; omega)]
      congr 4
      by_cases hja : j < (Rc.made A).length
      · rw [List.getElem_append_left hja, List.getElem_append_left hja]
      · rw [List.getElem_append_right (by omega), List.getElem_append_right (by omega), List.getElem_take])
    rwa [e] at this
  have hscan := scan_any _ _ w' hbk (.inr ⟨_, _, _, rfl⟩) (by rw [List.length_append, List.length_take, HLa.out, HLd.out]; omega)
  have HSC := hide hscan
  clear hscan hbk
  go_wp2_with fail
  refine HSC.out.mono ?_
  rintro e w4 ⟨v4, ds, k, rfl, ht, hz, hsc, hb4⟩
  obtain ⟨ds', k', rfl, rfl, ht', hz'⟩ := Rc.told_made fa ht hz
  obtain ⟨rfl, rfl⟩ := Rc.told_stop (Rc.get_cut fd (by rw [HLd.out]; exact hp)) ht'
  rw [HLa.out, Nat.add_zero]
  obtain ⟨gl, cl, rfl, hl1, hl2, _, hlc⟩ := hsc.some (by simp)
  obtain ⟨ao5, n5, k5, hu5, hp5⟩ := hlc 0 (by simp)
  have cv1 := conv_drawn hp5.bs
  have cv2 := conv_drawn (HA3.out.below hb4 (Nat.le_refl _))
  have z1 : ((La : Int) != (La : Int)) = false := by simp
  have z2 : ((ByteArray.mk (List.toArray A)).toList == (ByteArray.mk (List.toArray A)).toList) = true := by simp
  have hcl : cl ≤ 9223372036854775807 := by unfold maxLen at hl2; omega
  have HD4 := hide (HD3.out.below hb4 (Nat.le_refl _))
  have HA4 := hide (HA3.out.below hb4 (Nat.le_refl _))
  have HO4 := hide (own_bs (HO3.out.kept (grown_later hb4) (.inr (by simp [Value.ownBlock]))))
  have HB4 := hide (HB3.out.trans (hb4.mono HB3.out.size))
  clear HSC ht hz ht' hz' hsc hlc hb4 HA3 HD3 HO3 HB3 hp5
  simp only [List.length_cons, List.length_nil, Nat.zero_add] at hl1 ⊢
  go_wp2_with fail
  go_quiet (fail)
  clear cv1 cv2 z1 z2 hu5
  have hq5 := below_drawn w4 nq
  have HD5 := hide (HD4.out.below hq5 (Nat.le_refl _))
  have HA5 := hide (HA4.out.below hq5 (Nat.le_refl _))
  have HO5 := hide (HO4.out.below hq5 (Nat.le_refl _))
  have HB5 := hide (HB4.out.trans (hq5.mono HB4.out.size))
  clear HD4 HA4 HO4 HB4 hq5
  generalize w4.drewN nq = w5 at *
  have hal : ∀ o, Below w5.heap.size w5 (w5.alloc o) := fun o => (Below.refl w5.heap.size w5).alloc (Nat.le_refl _) o
  go_wp2_with (at_builtin; refine wpList_append_bs _ rfl _ _ rfl w5.heap.size _ 0 [] rfl (World.ownsRow_made w5 #[] 0 (Nat.le_refl _) (Nat.zero_le _) rfl) _ (Rc.made A ++ Rc.made D) rfl (HO5.out.below (hal _) (Nat.le_refl _)) (.inr ⟨_, _, _, rfl⟩) ?m1 ?m2 ?_)
  case m1 => rw [HL.out]; omega
  case m2 => simp
  intro v6 w6 ho6 hb6
  rw [HLa.out, HLd.out] at ho6
  obtain ⟨g6, c6, rfl, hc6, hm6, hg6, hcell6⟩ := own_some ho6 (fun e => Rc.made_ne A (by rw [(List.append_eq_nil_iff.1 e).1]; rfl))
  have hmx6 : c6 ≤ 9223372036854775807 := by unfold maxLen at hm6; omega
  have hy := hcell6 (La + p) (by rw [HL.out]; omega)
  rw [Nat.zero_add] at hy
  obtain ⟨y, hyy⟩ : ∃ y, (Rc.made A ++ Rc.made D)[La + p]'(by rw [HL.out]; omega) = y := ⟨_, rfl⟩
  rw [hyy] at hy
  have hfz := ho6.frozenAt (La + p)
  have hylt := y.toNat_lt
  have HYY := hide hyy
  have HO6 := hide ho6
  have HB6 := hide ((hal _).trans hb6)
  clear ho6 hb6 hal hcell6 HO5 hyy hm6
  have hlp : (La : Int) + (p : Int) < (La : Int) + (Ld : Int) := by omega
  have hlp0 : (0 : Int) ≤ (La : Int) + (p : Int) := by omega
  have hnat : ((La : Int) + (p : Int)).toNat = La + p := by omega
  go_upto_region 15 with fail
  go_cut [] (fun wx => ∃ x : UInt8, x ≠ y ∧ Hid (wx.ownsRow w5.heap.size 5 1 (.slice (some ⟨g6, 0, none⟩) (La + Ld) c6) (La + Ld) (Lib.byteCells ((Rc.made A ++ Rc.made D).set (La + p) x))) ∧ Hid (Below w5.heap.size w5 wx))
  case first =>
    go_region_with (go_at_call 19; refine (pick_any turn 255 _ h2 h3 (by omega) (by omega)).mono ?_; rintro e w' ⟨⟨q, hq, rfl⟩, rfl⟩)
    all_goals
      go_wp2_with fail
      go_meet
      exact turned_row HO6.out y ‹_› HB6.out
  case rest =>
    obtain ⟨x, hx, HO7, HB7⟩ := hcut
    have hset : (Rc.made A ++ Rc.made D).set (La + p) x = Rc.made A ++ (Rc.made D).set p x := by
      rw [List.set_append_right _ _ (by rw [HLa.out]; omega), HLa.out, Nat.add_sub_cancel_left]
    have hrl : ((Rc.made D).set p x).length = (Rc.made D).length := List.length_set
    have hrn : (Rc.made D).set p x ≠ Rc.made D := fun e => by
      have hp' : p < (Rc.made D).length := by rw [HLd.out]; exact hp
      have e1 : ((Rc.made D).set p x)[p]'(by rw [hrl]; exact hp') = (Rc.made D)[p] := by simp only [e]
      rw [List.getElem_set_self] at e1
      have e2 := HYY.out
      rw [List.getElem_append_right (by rw [HLa.out]; omega)] at e2
      simp only [HLa.out, Nat.add_sub_cancel_left] at e2
      exact hx (e1.trans e2)
    have ho7 := HO7.out
    rw [hset] at ho7
    have hscan2 := scan_any _ _ wc (own_bs ho7) (.inr ⟨_, _, _, rfl⟩) (by rw [List.length_append, hrl, HLa.out, HLd.out]; omega)
    have HSC2 := hide hscan2
    have HD7 := hide (HD5.out.below HB7.out (Nat.le_refl _))
    have HA7 := hide (HA5.out.below HB7.out (Nat.le_refl _))
    have HBW7 := hide (HB5.out.trans (HB7.out.mono HB5.out.size))
    clear hscan2 ho7 HO7 HB7 HO6 HB6 HD5 HA5 HB5 hy hfz HYY hset hx hlp hlp0 hnat
    go_wp2_with fail
    refine HSC2.out.mono ?_
    rintro e w8 ⟨v8, ds, k, rfl, ht, hz, hsc, hb8⟩
    obtain ⟨ds', k', rfl, rfl, ht', hz'⟩ := Rc.told_made fa ht hz
    rw [HLa.out]
    obtain ⟨gm, cm, rfl, hl1, hl2, _, hlc⟩ := hsc.some (by simp)
    obtain ⟨ao5, n5, k5, hu5, hp5⟩ := hlc 0 (by simp)
    have cv1 := conv_drawn hp5.bs
    have cv2 := conv_drawn (HA7.out.below hb8 (Nat.le_refl _))
    have z1 : decide ((ds'.length : Int) + 1 < 1) = false := by simp; omega
    have z2 : ((ByteArray.mk (List.toArray A)).toList == (ByteArray.mk (List.toArray A)).toList) = true := by simp
    have z3 : decide ((La : Int) + (k' : Int) < (La : Int)) = false := by simp; omega
    have z4 : (0 : Int) < (ds'.length : Int) + 1 := by omega
    have hcl : cm ≤ 9223372036854775807 := by unfold maxLen at hl2; omega
    have HBW8 := hide (HBW7.out.trans (hb8.mono HBW7.out.size))
    have HD8 := hide (HD7.out.below hb8 (Nat.le_refl _))
    have HLC := hide hlc
    clear HSC2 ht hz hz' hsc hb8 HA7 HD7 HBW7 hlc hp5
    simp only [List.length_cons] at hl1 ⊢
    go_wp2_with fail
    go_quiet (fail)
    clear cv1 cv2 z1 z2 z3 hu5
    have hq8 := below_drawn w8 nq
    have HBW9 := hide (HBW8.out.trans (hq8.mono HBW8.out.size))
    have HD9 := hide (HD8.out.below hq8 (Nat.le_refl _))
    cases ds' with
    | nil =>
      have z5 : decide (((0 : Nat) : Int) + 1 < 2) = true := by decide
      clear HLC hq8 HD8 HBW8
      generalize w8.drewN nq = w9 at *
      go_wp2_with fail
      go_quiet (fail)
      go_wp2_with fail
      go_ret
      exact ⟨rfl, HBW9.out.trans ((below_drawn w9 nq).mono HBW9.out.size)⟩
    | cons d2 ds2 =>
      obtain ⟨hn2, e2⟩ := Rc.told_first ht'
      have hne := Rc.get_turned hrl hrn hn2
      rw [← e2] at hne
      clear e2 ht' hn2
      obtain ⟨ao6, n6, k6, hu6, hp6⟩ := HLC.out 1 (by simp)
      have hp6' := hp6.later hq8
      have hu6' := (hq8.cell (p := ⟨gm, 1, none⟩) (World.block_lt_of_cell? w8 _ hu6)).trans hu6
      clear HLC hq8 HD8 HBW8 hp6 hu6
      generalize w8.drewN nq = w9 at *
      have cv3 := conv_drawn hp6'.bs
      have cv4 := conv_drawn HD9.out
      have z5 : decide (((ds2.length + 1 : Nat) : Int) + 1 < 2) = false := by simp; omega
      have z5' : decide ((ds2.length : Int) + 1 + 1 < 2) = false := by simp; omega
      have z6 : (1 : Int) < (ds2.length : Int) + 1 + 1 := by omega
      have z7 : ((ByteArray.mk (List.toArray d2)).toList == (ByteArray.mk (List.toArray D)).toList) = false := by
        rw [beq_eq_false_iff_ne]
        intro e
        apply hne
        simpa using e
      have z8 : (d2 == D) = false := by rw [beq_eq_false_iff_ne]; exact hne
      simp only [List.length_cons] at hl1 z4 ⊢
      go_wp2_with fail
      go_quiet (fail)
      go_wp2_with fail
      go_ret
      exact ⟨rfl, HBW9.out.trans ((below_drawn w9 nq).mono HBW9.out.size)⟩
end Go.Proofs.Ytkohlhnkaklnpaa
