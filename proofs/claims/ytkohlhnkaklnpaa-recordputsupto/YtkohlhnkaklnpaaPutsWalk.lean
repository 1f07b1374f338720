/-
  RecordPuts' walk.
-/
import Derived.Test.YtkohlhnkaklnpaaPutsLaws
import Derived.Test.YtkohlhnkaklnpaaLooks
import Derived.Test.YtkohlhnkaklnpaaShown
namespace Go.Proofs.Ytkohlhnkaklnpaa
open Go.RowKit

set_option maxHeartbeats 16000000 in
set_option maxRecDepth 100000 in
theorem puts_walk (vb vd : Value) (b d : List UInt8) (w : World) (hb : Bs w vb b) (hnb : NilOr vb) (hd : Bs w vd d) (hnd : NilOr vd) (hlb : b.length ≤ 2000000) (hld : d.length ≤ 2000000) :
    Calls Try.prog 3 #[vb, vd] w fun e w' => e = .returned (.bool true) ∧ Below w.heap.size w w' := by
  obtain ⟨aob, cb, rfl, hb1, hb2, hb3⟩ := id hb
  obtain ⟨aod, cd, rfl, hd1, hd2, hd3⟩ := id hd
  have HB := hide hb
  have HD := hide hd
  clear hb hd hb3 hd3
  unfold maxLen at hb2 hd2
  have hsh := shown_any w
  have HSH := hide hsh
  clear hsh
  go_enter Try.func3, Try.ntmps3
  go_wp2_with fail
  refine HSH.out.mono ?_
  rintro e w1 ⟨rfl, be1⟩
  have HB1 := hide (HB.out.below be1 (Nat.le_refl _))
  have HD1 := hide (HD.out.below be1 (Nat.le_refl _))
  have hlx := lent_any _ b w1 HB1.out (by omega)
  have HLX := hide hlx
  have BE1 := hide be1
  clear hlx be1 HSH
  go_wp2_with fail
  refine HLX.out.mono ?_
  rintro e w2 ⟨rfl, rx2, be2⟩
  have HB2 := hide (HB1.out.below be2 (Nat.le_refl _))
  have HD2 := hide (HD1.out.below be2 (Nat.le_refl _))
  have hly := lent_any _ d w2 HD2.out (by omega)
  have HLY := hide hly
  have BE2 := hide (BE1.out.trans (be2.mono BE1.out.size))
  have RX2 := hide rx2
  have hs12 : w1.heap.size < w2.heap.size := rx2.lt
  clear hly be2 rx2 HLX HB1 HD1
  go_wp2_with fail
  refine HLY.out.mono ?_
  rintro e w3 ⟨rfl, ry3, be3⟩
  have RX3 := hide (row_later RX2.out be3)
  have RY3 := hide ry3
  have HB3 := hide (HB2.out.below be3 (Nat.le_refl _))
  have HD3 := hide (HD2.out.below be3 (Nat.le_refl _))
  have BE3 := hide (BE2.out.trans (be3.mono BE2.out.size))
  have hs23 : w2.heap.size < w3.heap.size := ry3.lt
  clear ry3 be3 HLY HB2 HD2 RX2 BE2
  obtain ⟨gx, hgx⟩ : ∃ gx, gx = w1.heap.size := ⟨_, rfl⟩
  obtain ⟨gy, hgy⟩ : ∃ gy, gy = w2.heap.size := ⟨_, rfl⟩
  have hw1 := BE1.out.size
  rw [← hgx] at RX3 hs12 hw1 ⊢
  rw [← hgy] at RY3 hs12 hs23 ⊢
  clear hgx hgy BE1
  have hml : ∀ n : Nat, n ≤ 2000000 → n + 8 ≤ maxLen := fun n hn => by unfold maxLen; omega
  have HP := hide (fun (W : World) (h1 : Row W gx (b ++ List.replicate 8 201)) (h2 : Row W gy (d ++ List.replicate 8 201)) => put_rec _ _ b d W (lent_bs h1 rfl (hml _ hlb)) (.inr ⟨_, _, _, rfl⟩) (lent_bs h2 rfl (hml _ hld)) (.inr ⟨_, _, _, rfl⟩) (by omega))
  have HQ := hide (fun (W : World) (h1 : Row W gx (b ++ List.replicate 8 201)) (h2 : Row W gy (d ++ List.replicate 8 201)) => put_rec _ _ d b W (lent_bs h2 rfl (hml _ hld)) (.inr ⟨_, _, _, rfl⟩) (lent_bs h1 rfl (hml _ hlb)) (.inr ⟨_, _, _, rfl⟩) (by omega))
  have i1 : (0 : Int) ≤ (b.length : Int) := by omega
  have i2 : (0 : Int) ≤ (d.length : Int) := by omega
  have i3 : (b.length : Int) ≤ (b.length : Int) + 8 := by omega
  have i4 : (d.length : Int) ≤ (d.length : Int) + 8 := by omega
  have P4 := HP.out w3.drew (row_later RX3.out ((Below.refl _ _).drew)) (row_later RY3.out ((Below.refl _ _).drew))
  have HPP4 := hide P4
  clear P4
  go_upto_region 4 with fail
  go_cut [8, 9] (fun va vc wx => ∃ ao c, va = .slice ao (Re b d).length c ∧ vc = .int .i64 (Er d) ∧ Hid (Rs wx w3.heap.size wx.heap.size va (Re b d)) ∧ Hid (Below w3.heap.size w3 wx))
  case first =>
    go_region_with (go_at_call 10; refine HPP4.out.mono ?_; rintro e wz ⟨aoz, cz, rfl, hrz, bez⟩)
    go_wp2_with fail
    go_meet
    exact ⟨aoz, cz, rfl, rfl, hrz, ((Below.refl _ w3).drew).trans bez⟩
  obtain ⟨ao4, c4, rfl, rfl, R4, B4⟩ := hcut
  obtain ⟨w4, rfl⟩ : ∃ w4, w4 = wc := ⟨_, rfl⟩
  have hs4 := B4.out.size
  have RX4 := hide (row_later RX3.out B4.out)
  have RY4 := hide (row_later RY3.out B4.out)
  have HB4 := hide (HB3.out.below B4.out (Nat.le_refl _))
  have HD4 := hide (HD3.out.below B4.out (Nat.le_refl _))
  have BE4 := hide (BE3.out.trans (B4.out.mono BE3.out.size))
  clear RX3 RY3 HB3 HD3 BE3 HPP4
  have P5 := HQ.out w4.drew (row_later RX4.out ((Below.refl _ _).drew)) (row_later RY4.out ((Below.refl _ _).drew))
  have HPP5 := hide P5
  clear P5
  go_upto_region 5 with fail
  go_cut [10, 11] (fun va vc wx => ∃ ao c, va = .slice ao (Re d b).length c ∧ vc = .int .i64 (Er b) ∧ Hid (Rs wx w4.heap.size wx.heap.size va (Re d b)) ∧ Hid (Below w4.heap.size w4 wx))
  case first =>
    go_region_with (go_at_call 10; refine HPP5.out.mono ?_; rintro e wz ⟨aoz, cz, rfl, hrz, bez⟩)
    go_wp2_with fail
    go_meet
    exact ⟨aoz, cz, rfl, rfl, hrz, ((Below.refl _ w4).drew).trans bez⟩
  obtain ⟨ao5, c5, rfl, rfl, R5, B5⟩ := hcut
  obtain ⟨w5, rfl⟩ : ∃ w5, w5 = wc := ⟨_, rfl⟩
  have hs5 := B5.out.size
  have RX5 := hide (row_later RX4.out B5.out)
  have RY5 := hide (row_later RY4.out B5.out)
  have HB5 := hide (HB4.out.below B5.out (Nat.le_refl _))
  have HD5 := hide (HD4.out.below B5.out (Nat.le_refl _))
  have BE5 := hide (BE4.out.trans (B5.out.mono BE4.out.size))
  have R45 := hide (R4.out.later B5.out)
  clear RX4 RY4 HB4 HD4 BE4 HPP5 R4
  have P6 := HP.out w5.drew (row_later RX5.out ((Below.refl _ _).drew)) (row_later RY5.out ((Below.refl _ _).drew))
  have HPP6 := hide P6
  clear P6
  go_upto_region 6 with fail
  go_cut [12, 13] (fun va vc wx => ∃ ao c, va = .slice ao (Re b d).length c ∧ vc = .int .i64 (Er d) ∧ Hid (Rs wx w5.heap.size wx.heap.size va (Re b d)) ∧ Hid (Below w5.heap.size w5 wx))
  case first =>
    go_region_with (go_at_call 10; refine HPP6.out.mono ?_; rintro e wz ⟨aoz, cz, rfl, hrz, bez⟩)
    go_wp2_with fail
    go_meet
    exact ⟨aoz, cz, rfl, rfl, hrz, ((Below.refl _ w5).drew).trans bez⟩
  obtain ⟨ao6, c6, rfl, rfl, R6, B6⟩ := hcut
  obtain ⟨w6, rfl⟩ : ∃ w6, w6 = wc := ⟨_, rfl⟩
  have hs6 := B6.out.size
  have RX6 := hide (row_later RX5.out B6.out)
  have RY6 := hide (row_later RY5.out B6.out)
  have HB6 := hide (HB5.out.below B6.out (Nat.le_refl _))
  have HD6 := hide (HD5.out.below B6.out (Nat.le_refl _))
  have BE6 := hide (BE5.out.trans (B6.out.mono BE5.out.size))
  have R46 := hide (R45.out.later B6.out)
  have R56 := hide (R5.out.later B6.out)
  clear RX5 RY5 HB5 HD5 BE5 HPP6 R45 R5 HP HQ
  have PW := refput_rec _ _ b d w6 HB6.out hnb HD6.out hnd (by omega)
  have HPW := hide PW
  clear PW
  go_wp2_with fail
  refine HPW.out.mono ?_
  rintro e w7 ⟨ao7, c7, rfl, r7, be7⟩
  have HB7 := hide (HB6.out.below be7 (Nat.le_refl _))
  have HD7 := hide (HD6.out.below be7 (Nat.le_refl _))
  have BE7 := hide (BE6.out.trans (be7.mono BE6.out.size))
  have RX7 := hide (row_later RX6.out be7)
  have RY7 := hide (row_later RY6.out be7)
  have R7 := hide r7
  have R47 := hide (R46.out.later be7)
  have R57 := hide (R56.out.later be7)
  have R67 := hide (R6.out.later be7)
  have hs7 := be7.size
  clear r7 be7 HB6 HD6 BE6 RX6 RY6 R46 R56 R6 HPW
  have PO := refput_rec _ _ d b w7 HD7.out hnd HB7.out hnb (by omega)
  have HPO := hide PO
  clear PO
  go_wp2_with fail
  refine HPO.out.mono ?_
  rintro e w8 ⟨ao8, c8, rfl, r8, be8⟩
  have HB8 := hide (HB7.out.below be8 (Nat.le_refl _))
  have HD8 := hide (HD7.out.below be8 (Nat.le_refl _))
  have BE8 := hide (BE7.out.trans (be8.mono BE7.out.size))
  have RX8 := hide (row_later RX7.out be8)
  have RY8 := hide (row_later RY7.out be8)
  have R8 := hide r8
  have R48 := hide (R47.out.later be8)
  have R58 := hide (R57.out.later be8)
  have R68 := hide (R67.out.later be8)
  have R78 := hide (R7.out.later be8)
  have hs8 := be8.size
  clear r8 be8 HB7 HD7 BE7 RX7 RY7 R47 R57 R67 R7 HPO
  have cv4 := conv_bs (own_bs R48.out.1)
  have cv5 := conv_bs (own_bs R58.out.1)
  have cv6 := conv_bs (own_bs R68.out.1)
  have cv7 := conv_bs (own_bs R78.out.1)
  have cv8 := conv_bs (own_bs R8.out.1)
  have z1 : (Er d != Er d) = false := by simp
  have z2 : (Er b != Er b) = false := by simp
  go_wp2_with fail
  clear cv4 cv5 cv6 cv7 cv8 z1 z2
  have hnx : 0 < b.length → ∀ g', (Value.slice aob b.length cb).ownBlock = some g' → g' ≠ gx := fun h g hg => by have := bs_block HB.out h g hg; omega
  have hny : 0 < d.length → ∀ g', (Value.slice aod d.length cd).ownBlock = some g' → g' ≠ gy := fun h g hg => by have := bs_block HD.out h g hg; omega
  have hny2 : 0 < d.length → ∀ g', (Value.slice aod d.length cd).ownBlock = some g' → g' ≠ gx := fun h g hg => by have := bs_block HD.out h g hg; omega
  refine (still_row gx _ b w8 (by omega) RX8.out HB8.out hnx).mono ?_
  rintro e w9 ⟨rfl, rx9, hg9⟩
  have HD9 := hide (bs_turned HD8.out hg9 hny2)
  have RX9 := hide rx9
  have RY9 := hide (row_turned RY8.out hg9 (by omega))
  have R49 := hide (R48.out.turned hg9 (by omega))
  have R59 := hide (R58.out.turned hg9 (by omega))
  have R69 := hide (R68.out.turned hg9 (by omega))
  have R79 := hide (R78.out.turned hg9 (by omega))
  have R89 := hide (R8.out.turned hg9 (by omega))
  have BE9 := hide (BE8.out.grown hg9 BE8.out.size (fun k e => by have := Option.some.inj e; omega))
  have hs9 := hg9.size
  clear rx9 hg9 HB8 HD8 RX8 RY8 R48 R58 R68 R78 R8 BE8 hnx hny2
  go_wp2_with fail
  refine (still_row gy _ d w9 (by omega) RY9.out HD9.out hny).mono ?_
  rintro e w10 ⟨rfl, ry10, hg10⟩
  have RX10 := hide (row_turned RX9.out hg10 (by omega))
  have RY10 := hide ry10
  have R410 := hide (R49.out.turned hg10 (by omega))
  have R510 := hide (R59.out.turned hg10 (by omega))
  have R610 := hide (R69.out.turned hg10 (by omega))
  have R710 := hide (R79.out.turned hg10 (by omega))
  have R810 := hide (R89.out.turned hg10 (by omega))
  have BE10 := hide (BE9.out.grown hg10 BE9.out.size (fun k e => by have := Option.some.inj e; omega))
  have hs10 := hg10.size
  clear ry10 hg10 HD9 RX9 RY9 R49 R59 R69 R79 R89 BE9 hny
  have PA := put_rec _ _ (List.replicate b.length 77) (List.replicate d.length 77) w10.drew (sev_bs (row_later RX10.out ((Below.refl _ _).drew)) (hml _ hlb)) (.inr ⟨_, _, _, rfl⟩) (sev_bs (row_later RY10.out ((Below.refl _ _).drew)) (hml _ hld)) (.inr ⟨_, _, _, rfl⟩) (by simp; omega)
  have HPA := hide PA
  clear PA
  generalize hE3 : Er (List.replicate d.length 77) = E3 at *
  generalize hR3 : Re (List.replicate b.length 77) (List.replicate d.length 77) = R3 at *
  have HE3 := hide hE3
  have HR3 := hide hR3
  clear hE3 hR3
  go_upto_region 13 with fail
  go_cut [20, 21] (fun va vc wx => ∃ ao c, va = .slice ao R3.length c ∧ vc = .int .i64 E3 ∧ Hid (Rs wx w10.heap.size wx.heap.size va R3) ∧ Hid (Below w10.heap.size w10 wx))
  case first =>
    go_region_with (go_at_call 10; refine HPA.out.mono ?_; rintro e wz ⟨aoz, cz, rfl, hrz, bez⟩)
    go_wp2_with fail
    go_meet
    exact ⟨aoz, cz, rfl, rfl, hrz, ((Below.refl _ w10).drew).trans bez⟩
  obtain ⟨ao11, c11, rfl, rfl, R11, B11⟩ := hcut
  obtain ⟨w11, rfl⟩ : ∃ w11, w11 = wc := ⟨_, rfl⟩
  have hs11 := B11.out.size
  have R411 := hide (R410.out.later B11.out)
  have R511 := hide (R510.out.later B11.out)
  have R611 := hide (R610.out.later B11.out)
  have R711 := hide (R710.out.later B11.out)
  have R811 := hide (R810.out.later B11.out)
  have BE11 := hide (BE10.out.trans (B11.out.mono BE10.out.size))
  clear R410 R510 R610 R710 R810 BE10 HPA RX10 RY10
  have hsb := sevens_any b.length w11 (by omega)
  have HSB := hide hsb
  clear hsb
  go_wp2_with fail
  refine HSB.out.mono ?_
  rintro e w12 ⟨rfl, rb12, be12⟩
  have hsd := sevens_any d.length w12 (by omega)
  have HSD := hide hsd
  have hs12' := be12.size
  have HB12 := hide be12
  have RB12 := hide rb12
  clear hsd rb12 be12 HSB
  go_wp2_with fail
  refine HSD.out.mono ?_
  rintro e w13 ⟨rfl, rd13, be13⟩
  have hs13 := be13.size
  have b77 : Bs w13 (.slice (some ⟨w11.heap.size, 0, none⟩) b.length b.length) (List.replicate b.length 77) := by
    have := lit_bs (row_later RB12.out be13) (by simp [maxLen]; omega)
    rwa [List.length_replicate] at this
  have d77 : Bs w13 (.slice (some ⟨w12.heap.size, 0, none⟩) d.length d.length) (List.replicate d.length 77) := by
    have := lit_bs rd13 (by simp [maxLen]; omega)
    rwa [List.length_replicate] at this
  have PS := refput_rec _ _ _ _ w13 b77 (.inr ⟨_, _, _, rfl⟩) d77 (.inr ⟨_, _, _, rfl⟩) (by simp; omega)
  rw [HE3.out, HR3.out] at PS
  have HPS := hide PS
  have B113 : Below w11.heap.size w11 w13 := HB12.out.trans (be13.mono hs12')
  have HB113 := hide B113
  clear PS b77 d77 rd13 be13 B113 RB12 HB12 HSD
  go_wp2_with fail
  refine HPS.out.mono ?_
  rintro e w14 ⟨ao14, c14, rfl, r14, be14⟩
  have B114 := hide (HB113.out.trans (be14.mono HB113.out.size))
  have R14 := hide r14
  have hs14 := be14.size
  have R414 := hide (R411.out.later B114.out)
  have R514 := hide (R511.out.later B114.out)
  have R614 := hide (R611.out.later B114.out)
  have R714 := hide (R711.out.later B114.out)
  have R814 := hide (R811.out.later B114.out)
  have R1114 := hide (R11.out.later B114.out)
  have BE14 := hide (BE11.out.trans (B114.out.mono BE11.out.size))
  clear r14 be14 R411 R511 R611 R711 R811 R11 BE11 HB113 B114 HPS
  have cv1 := conv_bs (own_bs R1114.out.1)
  have cv2 := conv_bs (own_bs R14.out.1)
  have z1 : (E3 != E3) = false := by simp
  go_wp2_with fail
  clear cv1 cv2 z1
  have hre1 := Re_length b d
  have hre2 := Re_length d b
  have hre3 : R3.length ≤ 2200000 := by
    rw [← HR3.out]
    have := Re_length (List.replicate b.length 77) (List.replicate d.length 77)
    rw [List.length_replicate] at this
    omega
  have A21 : Ap (Value.slice ao6 (Re b d).length c6) (Value.slice ao4 (Re b d).length c4) := (R414.out.ap R614.out (by omega)).symm
  have A32 : Ap (Value.slice ao5 (Re d b).length c5) (Value.slice ao6 (Re b d).length c6) := R514.out.ap R614.out (Nat.le_refl _)
  have A31 : Ap (Value.slice ao5 (Re d b).length c5) (Value.slice ao4 (Re b d).length c4) := (R414.out.ap R514.out (Nat.le_refl _)).symm
  have A43 : Ap (Value.slice ao11 R3.length c11) (Value.slice ao5 (Re d b).length c5) := (R514.out.ap R1114.out (by omega)).symm
  have A42 : Ap (Value.slice ao11 R3.length c11) (Value.slice ao6 (Re b d).length c6) := (R614.out.ap R1114.out (by omega)).symm
  have A41 : Ap (Value.slice ao11 R3.length c11) (Value.slice ao4 (Re b d).length c4) := (R414.out.ap R1114.out (by omega)).symm
  have AW1 : Ap (Value.slice ao7 (Re b d).length c7) (Value.slice ao4 (Re b d).length c4) := (R414.out.ap R714.out (by omega)).symm
  have AO1 : Ap (Value.slice ao8 (Re d b).length c8) (Value.slice ao4 (Re b d).length c4) := (R414.out.ap R814.out (by omega)).symm
  have K1 := (Sg.start w14 w14.heap.size).step (by simp) R414.out.1 (fun u hu => absurd hu (by simp)) (Nat.le_refl _) (by omega) (by omega)
  have HK1 := hide K1
  clear K1
  refine HK1.out.mono ?_
  rintro e w15 ⟨vk1, hs1, rfl, hl1, S1⟩
  rw [List.length_nil] at hl1
  have cv1 := conv_bs (own_bs (S1.own R614.out.1 (fun u hu => by rw [List.mem_singleton] at hu; subst hu; exact A21)))
  have cv2 := conv_bs (own_bs (S1.own R714.out.1 (fun u hu => by rw [List.mem_singleton] at hu; subst hu; exact AW1)))
  have cv3 := conv_bs (own_bs (S1.own R514.out.1 (fun u hu => by rw [List.mem_singleton] at hu; subst hu; exact A31)))
  have cv4 := conv_bs (own_bs (S1.own R814.out.1 (fun u hu => by rw [List.mem_singleton] at hu; subst hu; exact AO1)))
  have K2 := S1.step (by omega) R614.out.1 (fun u hu => by rw [List.mem_singleton] at hu; subst hu; exact A21) (Nat.le_refl _) (by omega) (by omega)
  have HK2 := hide K2
  clear K2 HK1 S1
  go_wp2_with fail
  clear cv1 cv2 cv3 cv4
  refine HK2.out.mono ?_
  rintro e w16 ⟨vk2, hs2, rfl, hl2, S2⟩
  have K3 := S2.step (by omega) R514.out.1 (fun u hu => by
    simp only [List.mem_cons, List.not_mem_nil, or_false] at hu
    rcases hu with rfl | rfl
    · exact A32
    · exact A31) (Nat.le_refl _) (by omega) (by omega)
  have HK3 := hide K3
  clear K3 HK2 S2
  go_wp2_with fail
  refine HK3.out.mono ?_
  rintro e w17 ⟨vk3, hs3, rfl, hl3, S3⟩
  have K4 := S3.step (by omega) R1114.out.1 (fun u hu => by
    simp only [List.mem_cons, List.not_mem_nil, or_false] at hu
    rcases hu with rfl | rfl | rfl
    · exact A43
    · exact A42
    · exact A41) (Nat.le_refl _) (by omega) (by omega)
  have HK4 := hide K4
  clear K4 HK3 S3
  go_wp2_with fail
  refine HK4.out.mono ?_
  rintro e w18 ⟨vk4, hs4', rfl, hl4, S4⟩
  have LK := looks_any _ vk4 hs4' w18 S4.1
  have HLK := hide LK
  have BF := S4.below (B0 := w.heap.size) BE14.out BE14.out.size (fun u hu g hg => by
    simp only [List.mem_cons, List.not_mem_nil, or_false] at hu
    rcases hu with rfl | rfl | rfl | rfl
    · have := (R1114.out.2 g hg).1; omega
    · have := (R514.out.2 g hg).1; omega
    · have := (R614.out.2 g hg).1; omega
    · have := (R414.out.2 g hg).1; omega)
  have HBF := hide BF
  clear LK BF HK4 S4
  go_wp2_with fail
  refine HLK.out.mono ?_
  rintro e w19 ⟨rfl, d19, rfl⟩
  clear HLK
  go_wp2_with fail
  go_ret
  exact ⟨rfl, HBF.out.trans ((below_dn w18 d19).mono HBF.out.size)⟩
end Go.Proofs.Ytkohlhnkaklnpaa
