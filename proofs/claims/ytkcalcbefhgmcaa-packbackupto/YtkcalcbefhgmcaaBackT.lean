/-
  PackBack's walk where Get refuses the bytes. The last statement draws its order: its 55 operations one by one.
-/
import Derived.Test.YtkcalcbefhgmcaaBackLaws
namespace Go.Proofs.Ytkcalcbefhgmcaa
open Go.RowKit
set_option maxHeartbeats 0 in
set_option maxRecDepth 100000 in
theorem back_walkT (n : Nat) (m : Int) (s : ByteArray) (vl vb : Value) (zs : List Int) (bb : List UInt8) (w : World)
    (hn : n < 18446744073709551616) (hm0 : -9223372036854775808 ≤ m) (hm1 : m ≤ 9223372036854775807) (hs : s.size ≤ 1048576) (hl : Ns w vl zs) (hz : Rw.AllFit zs) (hzl : zs.length ≤ 1048576) (hb : Bs w vb bb) (hbl : bb.length ≤ 1048576) (hv : NilOr vb) (hz1 : (((Dec.getN bb).2 : Int) == 0) = true) :
    Calls Try.prog 6 #[.int .u64 n, .int .i64 m, .string s, vl, vb] w fun e w' => e = .returned (.bool true) ∧ Below w.heap.size w w' := by
  have hsh := shown_any w
  have HL := hide hl
  have HB := hide hb
  have HV := hide hv
  have HZ := hide hz
  have HZ1 := hide hz1
  clear hz1
  obtain ⟨aol, cl, rfl, hlc, hlm, hlcell⟩ := hl
  obtain ⟨aob, cb, rfl, hbc, hbm, _⟩ := hb
  unfold maxLen at hlm hbm
  have HLC := hide hlcell
  clear hv hz hlcell
  go_enter Try.func6, Try.ntmps6
  go_wp2_with fail
  refine hsh.mono ?_
  rintro e w1 ⟨rfl, hb1⟩
  have B1 := hide (And.intro hb1 hb1.size)
  clear hsh hb1
  go_wp2_with fail
  refine (put_any _ [] n w1 (Bs.nil _) hn (by simp)).mono ?_
  rintro e w2 ⟨v2, rfl, ho2, hb2⟩
  have B2 := hide (below_more B1.out.1 B1.out.2 hb2)
  have hb2s := hb2.size
  rw [List.nil_append] at ho2
  have hbb := HB.out.below B2.out.1 (Nat.le_refl _)
  go_wp2_with (at_builtin; refine wpList_append_bs _ rfl _ _ rfl w1.heap.size _ _ _ rfl ho2 _ bb rfl hbb HV.out ?c1 ?c2 ?_)
  case c1 => have := Lib.uvarint_length64 hn; simp; omega
  case c2 => omega
  intro v3 w3 ho3 hb3
  rw [← Lib.byteCells_append] at ho3
  have B3 := hide (below_next B2.out B1.out.2 hb3)
  have hg3 := get_any _ _ w3 (own_bs ho3)
  rw [getN_put hn] at hg3
  clear ho2 hb2 hbb ho3 hb3 hb2s
  go_wp2_with fail
  refine hg3.mono ?_
  rintro e w3 ⟨rfl, rfl⟩
  clear hg3 B2 B1
  -- the number with a sign
  go_wp2_with fail
  refine (putInt_any _ [] m _ (Bs.nil _) hm0 hm1 (by simp)).mono ?_
  rintro e w4 ⟨v4, rfl, ho4, hb4⟩
  have B4 := hide (below_next B3.out B3.out.2 hb4)
  have hb4s := hb4.size
  rw [List.nil_append] at ho4
  have hbb := HB.out.below B4.out.1 (Nat.le_refl _)
  have hzg := Lib.zigzag_lt hm0 hm1
  go_wp2_with (at_builtin; refine wpList_append_bs _ rfl _ _ rfl w3.heap.size _ _ _ rfl ho4 _ bb rfl hbb HV.out ?d1 ?d2 ?_)
  case d1 => have := Lib.uvarint_length64 hzg; simp; omega
  case d2 => omega
  intro v5 w5 ho5 hb5
  rw [← Lib.byteCells_append] at ho5
  have B5 := hide (below_next B4.out B3.out.2 hb5)
  have hg5 := getInt_any _ _ w5 (own_bs ho5)
  rw [getN_put hzg] at hg5
  simp only [Dec.unzig_zigzag] at hg5
  clear ho4 hb4 hbb ho5 hb5 hb4s B4
  go_wp2_with fail
  refine hg5.mono ?_
  rintro e w5 ⟨rfl, rfl⟩
  clear hg5 B3
  -- the text
  go_wp2_with fail
  refine (putText_any _ [] s _ (Bs.nil _) (by simp; omega)).mono ?_
  rintro e w6 ⟨v6, rfl, ho6, hb6⟩
  have B6 := hide (below_next B5.out B5.out.2 hb6)
  have hb6s := hb6.size
  rw [List.nil_append] at ho6
  have hbb := HB.out.below B6.out.1 (Nat.le_refl _)
  go_wp2_with (at_builtin; refine wpList_append_bs _ rfl _ _ rfl w5.heap.size _ _ _ rfl ho6 _ bb rfl hbb HV.out ?e1 ?e2 ?_)
  case e1 => have := Lib.uvarint_length64 (x := s.size) (by omega); simp; omega
  case e2 => omega
  intro v7 w7 ho7 hb7
  rw [← Lib.byteCells_append] at ho7
  have B7 := hide (below_next B6.out B5.out.2 hb7)
  have hg7 := getText_any _ _ w7 (own_bs ho7)
  rw [text_back s bb (by omega)] at hg7
  simp only [text_of] at hg7
  clear ho6 hb6 hbb ho7 hb7 hb6s B6
  go_wp2_with fail
  refine hg7.mono ?_
  rintro e w7 ⟨rfl, rfl⟩
  clear hg7 B5
  -- their lengths
  go_wp2_with fail
  refine (put_any _ [] n _ (Bs.nil _) hn (by simp)).mono ?_
  rintro e w8 ⟨v8, rfl, ho8, hb8⟩
  have B8 := hide (below_next B7.out B7.out.2 hb8)
  obtain ⟨ao8, c8, hv8⟩ := own_len ho8
  simp only [List.length_nil, Nat.zero_add] at hv8
  subst hv8
  clear ho8 hb8 B7
  go_wp2_with fail
  refine (putInt_any _ [] m _ (Bs.nil _) hm0 hm1 (by simp)).mono ?_
  rintro e w9 ⟨v9, rfl, ho9, hb9⟩
  have B9 := hide (below_next B8.out B8.out.2 hb9)
  obtain ⟨ao9, c9, hv9⟩ := own_len ho9
  simp only [List.length_nil, Nat.zero_add] at hv9
  subst hv9
  clear ho9 hb9 B8
  go_wp2_with fail
  refine (putText_any _ [] s _ (Bs.nil _) (by simp; omega)).mono ?_
  rintro e w10 ⟨v10, rfl, ho10, hb10⟩
  have B10 := hide (below_next B9.out B9.out.2 hb10)
  obtain ⟨ao10, c10, hv10⟩ := own_len ho10
  simp only [List.length_nil, Nat.zero_add] at hv10
  subst hv10
  clear ho10 hb10 B9
  go_upto_if 89 with fail
  go_cut [] (fun wx => Below w.heap.size w wx ∧ w.heap.size ≤ wx.heap.size)
  case first =>
    by_cases hle : zs.length ≤ 100000
    · have hle' : (zs.length : Int) ≤ 100000 := by omega
      have hln := HL.out.below B10.out.1 (Nat.le_refl _)
      go_wp2_with fail
      refine (putRow_any _ _ [] zs _ (Bs.nil _) hln HZ.out hzl (by simp)).mono ?_
      rintro e w11 ⟨v11, rfl, ho11, hb11⟩
      have B11 := hide (below_next B10.out B10.out.2 hb11)
      have hrl := row_length HZ.out hle
      simp only [List.length_nil, Nat.zero_add, List.nil_append] at ho11
      have H11 := hide (own_bs ho11)
      obtain ⟨ao11, c11, hv11⟩ := own_len ho11
      have hni := own_nil ho11
      subst hv11
      have HN11 := hide hni
      clear ho11 hb11 hln hni
      have hrp := hide (row_put HZ.out hle bb)
      have hrs := hide (row_short (zs := zs) hle)
      generalize Rw.rowB zs = R at *
      have hem := World.ownsRow_lit (base := w11.heap.size) (e := 5) (size := 1) w11 #[] 0 (Nat.le_refl _) (Nat.zero_le _) rfl
      have hb11' := H11.out.below ((Below.refl w11.heap.size w11).alloc (Nat.le_refl _) (.cells #[] 5)) (Nat.le_refl _)
      go_wp2_with (at_builtin; refine wpList_append_bs _ rfl _ _ rfl w11.heap.size _ _ _ rfl hem _ R rfl hb11' HN11.out ?f1 ?f2 ?_)
      case f1 => omega
      case f2 => simp
      intro v12 w12 ho12 hb12
      have B12 := hide (below_next (below_on' B11.out) B11.out.2 hb12)
      have hs12 := hb12.size
      have hbb := HB.out.below B12.out.1 (Nat.le_refl _)
      go_wp2_with (at_builtin; refine wpList_append_bs _ rfl _ _ rfl w11.heap.size _ _ _ rfl ho12 _ bb rfl hbb HV.out ?g1 ?g2 ?_)
      case g1 => omega
      case g2 => simp at hs12; omega
      intro v13 w13 ho13 hb13
      rw [← Lib.byteCells_append] at ho13
      have B13 := hide (below_next B12.out B11.out.2 hb13)
      have hch : Below w11.heap.size w11 w13 := (((Below.refl w11.heap.size w11).alloc (Nat.le_refl _) (.cells #[] 5)).trans hb12).trans hb13
      have H13 := hide (H11.out.below hch (Nat.le_refl _))
      have hg13 := getRow_any _ _ zs.length w13 (own_bs ho13) (by omega) (by omega)
      rw [hrp.out] at hg13
      have HG := hide hg13
      clear ho12 ho13 hb12 hb13 hbb hb11' hem hs12 hch hg13 hrp B12
      go_wp2_with fail
      refine HG.out.mono ?_
      rintro e w14 ⟨hgot, hb14⟩
      obtain ⟨v14, he14, ho14⟩ := hgot
      subst he14
      simp only at ho14
      obtain ⟨ao14, cap14, hv14, _, _, hsh14⟩ := ho14.shape
      subst hv14
      have B14 := hide (below_next B13.out B13.out.2 hb14)
      have H14 := hide (H13.out.below hb14 (Nat.le_refl _))
      have HS14 := hide hsh14
      have HL14 := hide (HL.out.below B14.out.1 (Nat.le_refl _))
      clear HG ho14 hb14 hsh14 B13 H13
      go_wp2
      go_loopw [21] (fun vo wr => ∃ k : Nat, k ≤ zs.length ∧ vo = .int .i64 k ∧ ∃ d, wr = w14.drewN d) (fun vo _ => zs.length - (intOf vo).toNat)
      case atStart => exact ⟨0, Nat.zero_le _, rfl, 0, rfl⟩
      case round =>
        obtain ⟨k, hk, rfl, hw⟩ := hrel
        have HW := hide hw
        clear hw
        by_cases hlt : k < zs.length
        · have e1 : (k : Int) < (zs.length : Int) := by omega
          obtain ⟨g14, rfl, _, hc14⟩ := HS14.out (by omega)
          have c14 := cells_drew hc14 HW.out k hlt
          rw [Nat.zero_add] at c14
          obtain ⟨aoL, cL, hvL, _, _, hcL⟩ := HL14.out
          simp only [Value.slice.injEq] at hvL
          obtain ⟨rfl, _, rfl⟩ := hvL
          obtain ⟨gl, ol, rfl, hcl⟩ := hcL k hlt
          have hcl' : wr.cell? ⟨gl, ol + k, none⟩ = some (.int .i64 (zs.getD k 0)) := by obtain ⟨d, rfl⟩ := HW.out; exact hcl
          generalize zs.getD k 0 = x at *
          clear hcl hcL hc14
          go_wp2
          go_quiet (fail)
          go_wp2
          exact ⟨⟨k + 1, by omega, by go_num, drew_trans HW.out ⟨nq, rfl⟩⟩, by simp [intOf]; omega⟩
        · obtain rfl : k = zs.length := by omega
          have B15 := hide (below_next B14.out B14.out.2 (below_drew (B := w14.heap.size) HW.out))
          have hg15 := getRow_any _ _ ((zs.length : Int) - 1) wr (H14.out.below (below_drew (B := w14.heap.size) HW.out) (Nat.le_refl _)) (by omega) (by omega)
          rw [hrs.out] at hg15
          have HG := hide hg15
          clear hg15
          go_wp2_with fail
          refine HG.out.mono ?_
          rintro e w16 ⟨hgot, hb16⟩
          obtain ⟨v16, he16, ho16⟩ := hgot
          subst he16
          obtain ⟨ao16, cap16, hv16, _, _, _⟩ := ho16.shape
          simp only [List.length_nil] at hv16
          subst hv16
          have B16 := hide (below_next B15.out B15.out.2 hb16)
          have hrl' : ¬ (5 : Int) + 10 * zs.length < R.length := by omega
          clear HG ho16 hb16
          go_wp2_with fail
          go_meet
          case rel => exact B16.out
    · have hle' : ¬ (zs.length : Int) ≤ 100000 := by omega
      go_wp2_with fail
      go_meet
      case rel => exact B10.out
  case rest =>
    have BC := hide hcut
    have hbw := HB.out.below hcut.1 (Nat.le_refl _)
    have t1 := get_any _ bb wc hbw
    have t2 := getInt_any _ bb wc hbw
    have t3 := getText_any _ bb wc hbw
    have t4 := getRow_any _ bb 100000 wc hbw (by omega) (by omega)
    have l1 := Dec.getN_le bb
    have l3 := text_le bb
    obtain ⟨r1, r2, r3, r4⟩ := row_facts (b := bb) (most := 100000)
    have k1 := hide (show (Dec.getN bb).2 ≠ 0 → bb.take (Dec.getN bb).2 = Lib.uvarint (Dec.getN bb).1 from fun h => (getN_back (b := bb) (n := (Dec.getN bb).1) (s := (Dec.getN bb).2) rfl h).1)
    have k3 := hide (text_back' bb)
    have hlt1 := Dec.getN_lt bb
    have hu := Dec.unzig_bounds hlt1
    have hzz := Dec.zigzag_unzig (Dec.getN bb).1
    have HZZ := hide hzz
    have HR4 := hide r4
    have HR1 := hide r1
    clear hcut hbw hzz r4 r1 B10
    generalize Dec.getN bb = p1 at *
    obtain ⟨x, k⟩ := p1
    generalize textN bb = p3 at *
    obtain ⟨tt, i⟩ := p3
    generalize Rd.row bb 100000 = p4 at *
    obtain ⟨rr, sz⟩ := p4
    simp only at *
    have T4 := hide t4
    have hbk := hide (fun (W : World) (hW : Below w.heap.size w W) (q : Nat) (hq : q ≤ bb.length) => conv_bs (bs_take (HB.out.below hW (Nat.le_refl _)) hq))
    clear t4
    go_wp2_with fail
    refine t1.mono ?_
    rintro e w17 ⟨rfl, rfl⟩
    go_wp2_with fail
    refine t2.mono ?_
    rintro e w17 ⟨rfl, rfl⟩
    go_wp2_with fail
    refine t3.mono ?_
    rintro e w17 ⟨rfl, rfl⟩
    go_wp2_with fail
    refine T4.out.mono ?_
    rintro e w18 ⟨hgot, hb18⟩
    obtain ⟨v18, he18, ho18⟩ := hgot
    subst he18
    simp only at ho18
    have B18 := hide (below_next BC.out BC.out.2 hb18)
    have HO18 := hide ho18
    obtain ⟨ao18, cap18, hv18, hc18, hm18, _⟩ := ho18.shape
    subst hv18
    unfold maxLen at hm18
    clear t1 t2 t3 T4 ho18 hb18
    have a1 : ¬ (bb.length : Int) < k := by omega
    have a2 : ¬ (bb.length : Int) < i := by omega
    have a3 : ¬ (bb.length : Int) < sz := by omega
    have hG0 : GG w (.slice ao18 rr.length cap18) rr w18.drew := ⟨B18.out.1.drew, B18.out.2, HO18.out.ns⟩
    have C1 := hide (fun (h : ((k : Int) == 0) = false) W (hG : GG w (.slice ao18 rr.length cap18) rr W) => c_put x hlt1 (k1.out (fun e => by simp [e] at h)) W hG)
    have C2 := hide (fun (h : ((k : Int) == 0) = false) W (hG : GG w (.slice ao18 rr.length cap18) rr W) => c_putInt x hu.1 hu.2 HZZ.out (k1.out (fun e => by simp [e] at h)) W hG)
    have C3 := hide (fun (h : ((i : Int) == 0) = false) W (hG : GG w (.slice ao18 rr.length cap18) rr W) => c_putText tt (by omega) (k3.out (fun e => by simp [e] at h)) W hG)
    have C4 := hide (fun (h : ((sz : Int) == 0) = false) W (hG : GG w (.slice ao18 rr.length cap18) rr W) => c_putRow HR1.out (by omega) (HR4.out (fun e => by simp [e] at h)) W hG)
    have KS := hide (fun W (hG : GG w (.slice ao18 rr.length cap18) rr W) => (⟨hG, hbk.out W hG.1 k l1, hbk.out W hG.1 i l3.1, hbk.out W hG.1 sz r3⟩ : GG w (.slice ao18 rr.length cap18) rr W ∧ _ ∧ _ ∧ _))
    generalize bb.take k = S1 at *
    generalize bb.take i = S2 at *
    generalize bb.take sz = S3 at *
    have c1 : (k : Int) ≤ (cb : Int) := by omega
    have c2 : (i : Int) ≤ (cb : Int) := by omega
    have c3 : (sz : Int) ≤ (cb : Int) := by omega
    have d1 : (0 : Int) ≤ k := by omega
    have d2 : (0 : Int) ≤ i := by omega
    have d3 : (0 : Int) ≤ sz := by omega
    have b1 : (k : Int) ≤ (bb.length : Int) := by omega
    have b2 : (i : Int) ≤ (bb.length : Int) := by omega
    have b3 : (sz : Int) ≤ (bb.length : Int) := by omega
    clear k1 k3 HR4 HR1 HZZ HO18 B18 BC hbk
    clear HZ HL HV HLC HB hlc hlm hbc hbm hzg hc18 hm18 hlt1 hu l1 l3 r2 r3 hn hm0 hm1 hs hzl hbl
    have z1 : ((k : Int) == 0) = true := HZ1.out
    clear HZ1
    go_wp2
    refine wp_region_noPanic ?_
    refine wp_region_held_drew (S := (fun W => GG w (.slice ao18 rr.length cap18) rr W ∧ (convert 22 9 (.slice aob k cb)).run Try.prog W = .ok (.string ⟨S1.toArray⟩) W ∧ (convert 22 9 (.slice aob i cb)).run Try.prog W = .ok (.string ⟨S2.toArray⟩) W ∧ (convert 22 9 (.slice aob sz cb)).run Try.prog W = .ok (.string ⟨S3.toArray⟩) W)) (by kernel_rfl) (KS.out _ hG0) (fun hHeld => ?_)
    refine' wpAnyH_take (i := 0) (oi := { dst := some 211, op := Op.move (Operand.tmp 13), type := 3, pos := "pack.go:282", after := #[], guard := none }) (v := _) rfl (by kernel_rfl) (by kernel_rfl) (by kernel_rfl) (fun _ _ _ h => h) (Or.inl ⟨by rfl, ?hy1_0⟩) (by assumption) ?re1_0
    case hy1_0 => (intro W hSw; (try dsimp only at hSw); go_simp; try with_reducible rfl)
    try simp only [Act.put, List.setIfInBounds_toArray, List.set_cons_zero, List.set_cons_succ]
    refine' wpAnyH_take (i := 1) (oi := { dst := some 212, op := Op.binOp BinOp.eql 3 (Operand.tmp 211) (Operand.const (Value.int IntKind.i64 0)) 3, type := 4, pos := "pack.go:282", after := #[{ on := 0, ground := Ground.data }], guard := none }) (v := _) rfl (by kernel_rfl) (by kernel_rfl) (by kernel_rfl) (fun _ _ _ h => h) (Or.inl ⟨by rfl, ?hy1_1⟩) (by assumption) ?re1_1
    case hy1_1 => (intro W hSw; (try dsimp only at hSw); go_simp; try with_reducible rfl)
    try simp only [Act.put, List.setIfInBounds_toArray, List.set_cons_zero, List.set_cons_succ]
    refine' wpAnyH_take (i := 2) (oi := { dst := some 213, op := Op.move (Operand.tmp 212), type := 4, pos := "pack.go:282", after := #[{ on := 1, ground := Ground.data }], guard := none }) (v := _) rfl (by kernel_rfl) (by kernel_rfl) (by kernel_rfl) (fun _ _ _ h => h) (Or.inl ⟨by rfl, ?hy1_2⟩) (by assumption) ?re1_2
    case hy1_2 => (intro W hSw; (try dsimp only at hSw); go_simp; try with_reducible rfl)
    try simp only [Act.put, List.setIfInBounds_toArray, List.set_cons_zero, List.set_cons_succ]
    refine wpAnyH_take (i := 3) (oi := { dst := some 214, op := Op.move (Operand.tmp 12), type := 23, pos := "pack.go:282", after := #[{ on := 2, ground := Ground.guard }], guard := some (2, false) }) (v := undef) rfl (by kernel_rfl) (by kernel_rfl) (by kernel_rfl) (fun _ _ _ h => h) (Or.inr ⟨by rfl, rfl⟩) (by assumption) ?_
    simp only [Act.put, List.setIfInBounds_toArray, List.set_cons_zero, List.set_cons_succ]
    refine wpAnyH_take (i := 6) (oi := { dst := some 217, op := Op.move (Operand.tmp 4), type := 22, pos := "pack.go:282", after := #[{ on := 2, ground := Ground.guard }], guard := some (2, false) }) (v := undef) rfl (by kernel_rfl) (by kernel_rfl) (by kernel_rfl) (fun _ _ _ h => h) (Or.inr ⟨by rfl, rfl⟩) (by assumption) ?_
    simp only [Act.put, List.setIfInBounds_toArray, List.set_cons_zero, List.set_cons_succ]
    refine wpAnyH_take (i := 7) (oi := { dst := some 218, op := Op.move (Operand.tmp 13), type := 3, pos := "pack.go:282", after := #[{ on := 2, ground := Ground.guard }], guard := some (2, false) }) (v := undef) rfl (by kernel_rfl) (by kernel_rfl) (by kernel_rfl) (fun _ _ _ h => h) (Or.inr ⟨by rfl, rfl⟩) (by assumption) ?_
    simp only [Act.put, List.setIfInBounds_toArray, List.set_cons_zero, List.set_cons_succ]
    refine wpAnyH_take (i := 8) (oi := { dst := some 219, op := Op.slice 22 (Operand.tmp 217) none (some (Operand.tmp 218)) none, type := 22, pos := "pack.go:282", after := #[{ on := 6, ground := Ground.data }, { on := 7, ground := Ground.data }, { on := 2, ground := Ground.guard }], guard := some (2, false) }) (v := undef) rfl (by kernel_rfl) (by kernel_rfl) (by kernel_rfl) (fun _ _ _ h => h) (Or.inr ⟨by rfl, rfl⟩) (by assumption) ?_
    simp only [Act.put, List.setIfInBounds_toArray, List.set_cons_zero, List.set_cons_succ]
    refine wpAnyH_take (i := 9) (oi := { dst := some 220, op := Op.convert 22 9 (Operand.tmp 219), type := 9, pos := "pack.go:282", after := #[{ on := 8, ground := Ground.data }, { on := 2, ground := Ground.guard }], guard := some (2, false) }) (v := undef) rfl (by kernel_rfl) (by kernel_rfl) (by kernel_rfl) (fun _ _ _ h => h) (Or.inr ⟨by rfl, rfl⟩) (by assumption) ?_
    simp only [Act.put, List.setIfInBounds_toArray, List.set_cons_zero, List.set_cons_succ]
    refine wpAnyH_take (i := 4) (oi := { dst := some 215, op := Op.call { callee := Callee.value (Operand.func 10), args := #[Operand.const (Value.slice none 0 0), Operand.tmp 214], argTypes := #[22, 23] }, type := 22, pos := "pack.go:282", after := #[{ on := 3, ground := Ground.data }, { on := 2, ground := Ground.chain }, { on := 2, ground := Ground.guard }], guard := some (2, false) }) (v := undef) rfl (by kernel_rfl) (by kernel_rfl) (by kernel_rfl) (fun _ _ _ h => h) (Or.inr ⟨by rfl, rfl⟩) (by assumption) ?_
    simp only [Act.put, List.setIfInBounds_toArray, List.set_cons_zero, List.set_cons_succ]
    refine wpAnyH_take (i := 5) (oi := { dst := some 216, op := Op.convert 22 9 (Operand.tmp 215), type := 9, pos := "pack.go:282", after := #[{ on := 4, ground := Ground.data }, { on := 2, ground := Ground.guard }], guard := some (2, false) }) (v := undef) rfl (by kernel_rfl) (by kernel_rfl) (by kernel_rfl) (fun _ _ _ h => h) (Or.inr ⟨by rfl, rfl⟩) (by assumption) ?_
    simp only [Act.put, List.setIfInBounds_toArray, List.set_cons_zero, List.set_cons_succ]
    refine wpAnyH_take (i := 10) (oi := { dst := some 221, op := Op.binOp BinOp.eql 9 (Operand.tmp 216) (Operand.tmp 220) 9, type := 4, pos := "pack.go:282", after := #[{ on := 5, ground := Ground.data }, { on := 9, ground := Ground.data }, { on := 2, ground := Ground.guard }], guard := some (2, false) }) (v := undef) rfl (by kernel_rfl) (by kernel_rfl) (by kernel_rfl) (fun _ _ _ h => h) (Or.inr ⟨by rfl, rfl⟩) (by assumption) ?_
    simp only [Act.put, List.setIfInBounds_toArray, List.set_cons_zero, List.set_cons_succ]
    refine' wpAnyH_take (i := 11) (oi := { dst := some 222, op := Op.pick (Operand.tmp 213) (Operand.const (Value.bool true)) (Operand.tmp 221), type := 4, pos := "pack.go:282", after := #[{ on := 2, ground := Ground.data }, { on := 10, ground := Ground.data }], guard := none }) (v := _) rfl (by kernel_rfl) (by kernel_rfl) (by kernel_rfl) (fun _ _ _ h => h) (Or.inl ⟨by rfl, ?hy1_11⟩) (by assumption) ?re1_11
    case hy1_11 => (intro W hSw; (try dsimp only at hSw); go_simp; try with_reducible rfl)
    try simp only [Act.put, List.setIfInBounds_toArray, List.set_cons_zero, List.set_cons_succ]
    refine' wpAnyH_take (i := 12) (oi := { dst := some 223, op := Op.move (Operand.tmp 222), type := 4, pos := "pack.go:282", after := #[{ on := 11, ground := Ground.data }, { on := 4, ground := Ground.chain }], guard := none }) (v := _) rfl (by kernel_rfl) (by kernel_rfl) (by kernel_rfl) (fun _ _ _ h => h) (Or.inl ⟨by rfl, ?hy1_12⟩) (by assumption) ?re1_12
    case hy1_12 => (intro W hSw; (try dsimp only at hSw); go_simp; try with_reducible rfl)
    try simp only [Act.put, List.setIfInBounds_toArray, List.set_cons_zero, List.set_cons_succ]
    refine' wpAnyH_take (i := 13) (oi := { dst := some 224, op := Op.move (Operand.tmp 15), type := 3, pos := "pack.go:282", after := #[{ on := 12, ground := Ground.guard }], guard := some (12, true) }) (v := _) rfl (by kernel_rfl) (by kernel_rfl) (by kernel_rfl) (fun _ _ _ h => h) (Or.inl ⟨by rfl, ?hy1_13⟩) (by assumption) ?re1_13
    case hy1_13 => (intro W hSw; (try dsimp only at hSw); go_simp; try with_reducible rfl)
    try simp only [Act.put, List.setIfInBounds_toArray, List.set_cons_zero, List.set_cons_succ]
    refine' wpAnyH_take (i := 14) (oi := { dst := some 225, op := Op.binOp BinOp.eql 3 (Operand.tmp 224) (Operand.const (Value.int IntKind.i64 0)) 3, type := 4, pos := "pack.go:282", after := #[{ on := 13, ground := Ground.data }, { on := 12, ground := Ground.guard }], guard := some (12, true) }) (v := _) rfl (by kernel_rfl) (by kernel_rfl) (by kernel_rfl) (fun _ _ _ h => h) (Or.inl ⟨by rfl, ?hy1_14⟩) (by assumption) ?re1_14
    case hy1_14 => (intro W hSw; (try dsimp only at hSw); go_simp; try with_reducible rfl)
    try simp only [Act.put, List.setIfInBounds_toArray, List.set_cons_zero, List.set_cons_succ]
    refine' wpAnyH_take (i := 15) (oi := { dst := some 226, op := Op.move (Operand.tmp 225), type := 4, pos := "pack.go:282", after := #[{ on := 14, ground := Ground.data }, { on := 12, ground := Ground.chain }, { on := 12, ground := Ground.guard }], guard := some (12, true) }) (v := _) rfl (by kernel_rfl) (by kernel_rfl) (by kernel_rfl) (fun _ _ _ h => h) (Or.inl ⟨by rfl, ?hy1_15⟩) (by assumption) ?re1_15
    case hy1_15 => (intro W hSw; (try dsimp only at hSw); go_simp; try with_reducible rfl)
    try simp only [Act.put, List.setIfInBounds_toArray, List.set_cons_zero, List.set_cons_succ]
    refine wpAnyH_take (i := 16) (oi := { dst := some 227, op := Op.move (Operand.tmp 14), type := 2, pos := "pack.go:282", after := #[{ on := 15, ground := Ground.guard }], guard := some (15, false) }) (v := undef) rfl (by kernel_rfl) (by kernel_rfl) (by kernel_rfl) (fun _ _ _ h => h) (Or.inr ⟨by rfl, rfl⟩) (by assumption) ?_
    simp only [Act.put, List.setIfInBounds_toArray, List.set_cons_zero, List.set_cons_succ]
    refine wpAnyH_take (i := 19) (oi := { dst := some 230, op := Op.move (Operand.tmp 4), type := 22, pos := "pack.go:282", after := #[{ on := 15, ground := Ground.guard }], guard := some (15, false) }) (v := undef) rfl (by kernel_rfl) (by kernel_rfl) (by kernel_rfl) (fun _ _ _ h => h) (Or.inr ⟨by rfl, rfl⟩) (by assumption) ?_
    simp only [Act.put, List.setIfInBounds_toArray, List.set_cons_zero, List.set_cons_succ]
    refine wpAnyH_take (i := 20) (oi := { dst := some 231, op := Op.move (Operand.tmp 15), type := 3, pos := "pack.go:282", after := #[{ on := 15, ground := Ground.guard }], guard := some (15, false) }) (v := undef) rfl (by kernel_rfl) (by kernel_rfl) (by kernel_rfl) (fun _ _ _ h => h) (Or.inr ⟨by rfl, rfl⟩) (by assumption) ?_
    simp only [Act.put, List.setIfInBounds_toArray, List.set_cons_zero, List.set_cons_succ]
    refine wpAnyH_take (i := 21) (oi := { dst := some 232, op := Op.slice 22 (Operand.tmp 230) none (some (Operand.tmp 231)) none, type := 22, pos := "pack.go:282", after := #[{ on := 19, ground := Ground.data }, { on := 20, ground := Ground.data }, { on := 15, ground := Ground.guard }], guard := some (15, false) }) (v := undef) rfl (by kernel_rfl) (by kernel_rfl) (by kernel_rfl) (fun _ _ _ h => h) (Or.inr ⟨by rfl, rfl⟩) (by assumption) ?_
    simp only [Act.put, List.setIfInBounds_toArray, List.set_cons_zero, List.set_cons_succ]
    refine wpAnyH_take (i := 22) (oi := { dst := some 233, op := Op.convert 22 9 (Operand.tmp 232), type := 9, pos := "pack.go:282", after := #[{ on := 21, ground := Ground.data }, { on := 15, ground := Ground.guard }], guard := some (15, false) }) (v := undef) rfl (by kernel_rfl) (by kernel_rfl) (by kernel_rfl) (fun _ _ _ h => h) (Or.inr ⟨by rfl, rfl⟩) (by assumption) ?_
    simp only [Act.put, List.setIfInBounds_toArray, List.set_cons_zero, List.set_cons_succ]
    refine wpAnyH_take (i := 17) (oi := { dst := some 228, op := Op.call { callee := Callee.value (Operand.func 11), args := #[Operand.const (Value.slice none 0 0), Operand.tmp 227], argTypes := #[22, 2] }, type := 22, pos := "pack.go:282", after := #[{ on := 16, ground := Ground.data }, { on := 15, ground := Ground.chain }, { on := 15, ground := Ground.guard }], guard := some (15, false) }) (v := undef) rfl (by kernel_rfl) (by kernel_rfl) (by kernel_rfl) (fun _ _ _ h => h) (Or.inr ⟨by rfl, rfl⟩) (by assumption) ?_
    simp only [Act.put, List.setIfInBounds_toArray, List.set_cons_zero, List.set_cons_succ]
    refine wpAnyH_take (i := 18) (oi := { dst := some 229, op := Op.convert 22 9 (Operand.tmp 228), type := 9, pos := "pack.go:282", after := #[{ on := 17, ground := Ground.data }, { on := 15, ground := Ground.guard }], guard := some (15, false) }) (v := undef) rfl (by kernel_rfl) (by kernel_rfl) (by kernel_rfl) (fun _ _ _ h => h) (Or.inr ⟨by rfl, rfl⟩) (by assumption) ?_
    simp only [Act.put, List.setIfInBounds_toArray, List.set_cons_zero, List.set_cons_succ]
    refine wpAnyH_take (i := 23) (oi := { dst := some 234, op := Op.binOp BinOp.eql 9 (Operand.tmp 229) (Operand.tmp 233) 9, type := 4, pos := "pack.go:282", after := #[{ on := 18, ground := Ground.data }, { on := 22, ground := Ground.data }, { on := 15, ground := Ground.guard }], guard := some (15, false) }) (v := undef) rfl (by kernel_rfl) (by kernel_rfl) (by kernel_rfl) (fun _ _ _ h => h) (Or.inr ⟨by rfl, rfl⟩) (by assumption) ?_
    simp only [Act.put, List.setIfInBounds_toArray, List.set_cons_zero, List.set_cons_succ]
    refine' wpAnyH_take (i := 24) (oi := { dst := some 235, op := Op.pick (Operand.tmp 226) (Operand.const (Value.bool true)) (Operand.tmp 234), type := 4, pos := "pack.go:282", after := #[{ on := 15, ground := Ground.data }, { on := 23, ground := Ground.data }, { on := 12, ground := Ground.guard }], guard := some (12, true) }) (v := _) rfl (by kernel_rfl) (by kernel_rfl) (by kernel_rfl) (fun _ _ _ h => h) (Or.inl ⟨by rfl, ?hy1_24⟩) (by assumption) ?re1_24
    case hy1_24 => (intro W hSw; (try dsimp only at hSw); go_simp; try with_reducible rfl)
    try simp only [Act.put, List.setIfInBounds_toArray, List.set_cons_zero, List.set_cons_succ]
    refine' wpAnyH_take (i := 25) (oi := { dst := some 236, op := Op.pick (Operand.tmp 223) (Operand.tmp 235) (Operand.const (Value.bool false)), type := 4, pos := "pack.go:282", after := #[{ on := 12, ground := Ground.data }, { on := 24, ground := Ground.data }], guard := none }) (v := _) rfl (by kernel_rfl) (by kernel_rfl) (by kernel_rfl) (fun _ _ _ h => h) (Or.inl ⟨by rfl, ?hy1_25⟩) (by assumption) ?re1_25
    case hy1_25 => (intro W hSw; (try dsimp only at hSw); go_simp; try with_reducible rfl)
    try simp only [Act.put, List.setIfInBounds_toArray, List.set_cons_zero, List.set_cons_succ]
    refine' wpAnyH_take (i := 26) (oi := { dst := some 237, op := Op.move (Operand.tmp 236), type := 4, pos := "pack.go:282", after := #[{ on := 25, ground := Ground.data }, { on := 17, ground := Ground.chain }], guard := none }) (v := _) rfl (by kernel_rfl) (by kernel_rfl) (by kernel_rfl) (fun _ _ _ h => h) (Or.inl ⟨by rfl, ?hy1_26⟩) (by assumption) ?re1_26
    case hy1_26 => (intro W hSw; (try dsimp only at hSw); go_simp; try with_reducible rfl)
    try simp only [Act.put, List.setIfInBounds_toArray, List.set_cons_zero, List.set_cons_succ]
    cases z2 : ((i : Int) == 0)
    case false =>
      refine' wpAnyH_take (i := 27) (oi := { dst := some 238, op := Op.move (Operand.tmp 17), type := 3, pos := "pack.go:282", after := #[{ on := 26, ground := Ground.guard }], guard := some (26, true) }) (v := _) rfl (by kernel_rfl) (by kernel_rfl) (by kernel_rfl) (fun _ _ _ h => h) (Or.inl ⟨by rfl, ?hy10_27⟩) (by assumption) ?re10_27
      case hy10_27 => (intro W hSw; (try dsimp only at hSw); go_simp; try with_reducible rfl)
      try simp only [Act.put, List.setIfInBounds_toArray, List.set_cons_zero, List.set_cons_succ]
      refine' wpAnyH_take (i := 28) (oi := { dst := some 239, op := Op.binOp BinOp.eql 3 (Operand.tmp 238) (Operand.const (Value.int IntKind.i64 0)) 3, type := 4, pos := "pack.go:282", after := #[{ on := 27, ground := Ground.data }, { on := 26, ground := Ground.guard }], guard := some (26, true) }) (v := _) rfl (by kernel_rfl) (by kernel_rfl) (by kernel_rfl) (fun _ _ _ h => h) (Or.inl ⟨by rfl, ?hy10_28⟩) (by assumption) ?re10_28
      case hy10_28 => (intro W hSw; (try dsimp only at hSw); go_simp; try with_reducible rfl)
      try simp only [Act.put, List.setIfInBounds_toArray, List.set_cons_zero, List.set_cons_succ]
      refine' wpAnyH_take (i := 29) (oi := { dst := some 240, op := Op.move (Operand.tmp 239), type := 4, pos := "pack.go:282", after := #[{ on := 28, ground := Ground.data }, { on := 26, ground := Ground.chain }, { on := 26, ground := Ground.guard }], guard := some (26, true) }) (v := _) rfl (by kernel_rfl) (by kernel_rfl) (by kernel_rfl) (fun _ _ _ h => h) (Or.inl ⟨by rfl, ?hy10_29⟩) (by assumption) ?re10_29
      case hy10_29 => (intro W hSw; (try dsimp only at hSw); go_simp; try with_reducible rfl)
      try simp only [Act.put, List.setIfInBounds_toArray, List.set_cons_zero, List.set_cons_succ]
      refine' wpAnyH_take (i := 30) (oi := { dst := some 241, op := Op.move (Operand.tmp 16), type := 9, pos := "pack.go:282", after := #[{ on := 29, ground := Ground.guard }], guard := some (29, false) }) (v := _) rfl (by kernel_rfl) (by kernel_rfl) (by kernel_rfl) (fun _ _ _ h => h) (Or.inl ⟨by rfl, ?hy10_30⟩) (by assumption) ?re10_30
      case hy10_30 => (intro W hSw; (try dsimp only at hSw); go_simp; try with_reducible rfl)
      try simp only [Act.put, List.setIfInBounds_toArray, List.set_cons_zero, List.set_cons_succ]
      refine' wpAnyH_take (i := 33) (oi := { dst := some 244, op := Op.move (Operand.tmp 4), type := 22, pos := "pack.go:282", after := #[{ on := 29, ground := Ground.guard }], guard := some (29, false) }) (v := _) rfl (by kernel_rfl) (by kernel_rfl) (by kernel_rfl) (fun _ _ _ h => h) (Or.inl ⟨by rfl, ?hy10_33⟩) (by assumption) ?re10_33
      case hy10_33 => (intro W hSw; (try dsimp only at hSw); go_simp; try with_reducible rfl)
      try simp only [Act.put, List.setIfInBounds_toArray, List.set_cons_zero, List.set_cons_succ]
      refine' wpAnyH_take (i := 34) (oi := { dst := some 245, op := Op.move (Operand.tmp 17), type := 3, pos := "pack.go:282", after := #[{ on := 29, ground := Ground.guard }], guard := some (29, false) }) (v := _) rfl (by kernel_rfl) (by kernel_rfl) (by kernel_rfl) (fun _ _ _ h => h) (Or.inl ⟨by rfl, ?hy10_34⟩) (by assumption) ?re10_34
      case hy10_34 => (intro W hSw; (try dsimp only at hSw); go_simp; try with_reducible rfl)
      try simp only [Act.put, List.setIfInBounds_toArray, List.set_cons_zero, List.set_cons_succ]
      refine' wpAnyH_take (i := 35) (oi := { dst := some 246, op := Op.slice 22 (Operand.tmp 244) none (some (Operand.tmp 245)) none, type := 22, pos := "pack.go:282", after := #[{ on := 33, ground := Ground.data }, { on := 34, ground := Ground.data }, { on := 29, ground := Ground.guard }], guard := some (29, false) }) (v := _) rfl (by kernel_rfl) (by kernel_rfl) (by kernel_rfl) (fun _ _ _ h => h) (Or.inl ⟨by rfl, ?hy10_35⟩) (by assumption) ?re10_35
      case hy10_35 => (intro W hSw; (try dsimp only at hSw); go_simp; try with_reducible rfl)
      try simp only [Act.put, List.setIfInBounds_toArray, List.set_cons_zero, List.set_cons_succ]
      refine' wpAnyH_take (i := 36) (oi := { dst := some 247, op := Op.convert 22 9 (Operand.tmp 246), type := 9, pos := "pack.go:282", after := #[{ on := 35, ground := Ground.data }, { on := 29, ground := Ground.guard }], guard := some (29, false) }) (v := _) rfl (by kernel_rfl) (by kernel_rfl) (by kernel_rfl) (fun _ _ _ h => h) (Or.inl ⟨by rfl, ?hy10_36⟩) (by assumption) ?re10_36
      case hy10_36 => (intro W hSw; (try dsimp only at hSw); go_simp; try with_reducible rfl)
      try simp only [Act.put, List.setIfInBounds_toArray, List.set_cons_zero, List.set_cons_succ]
      refine wpAnyH_ready (rs := [31]) (by kernel_rfl) (by simp) ?_
      refine AllReadyH.cons (o := { dst := some 242, op := Op.call { callee := Callee.value (Operand.func 12), args := #[Operand.const (Value.slice none 0 0), Operand.tmp 241], argTypes := #[22, 9] }, type := 22, pos := "pack.go:282", after := #[{ on := 30, ground := Ground.data }, { on := 29, ground := Ground.chain }, { on := 29, ground := Ground.guard }], guard := some (29, false) }) rfl (fun K hK => ?_) AllReadyH.nil
      go_simp
      go_at_call 12
      refine (C3.out z2 _ hG0).mono ?_
      clear hHeld hG0
      rintro e y1 ⟨v19, rfl, hc19, hG1⟩
      try go_wp2_with fail
      refine hK.out _ _ (KS.out _ hG1) (fun hHeld => ?_)
      clear hK K
      try simp only [Act.put, List.setIfInBounds_toArray, List.set_cons_zero, List.set_cons_succ]
      refine wpAnyH_ready (rs := [32]) (by kernel_rfl) (by simp) ?_
      refine AllReadyH.cons (o := { dst := some 243, op := Op.convert 22 9 (Operand.tmp 242), type := 9, pos := "pack.go:282", after := #[{ on := 31, ground := Ground.data }, { on := 29, ground := Ground.guard }], guard := some (29, false) }) rfl (fun K hK => ?_) AllReadyH.nil
      go_simp
      refine hK.out _ _ (KS.out _ hG1) (fun _ => ?_)
      clear hK K hc19
      try simp only [Act.put, List.setIfInBounds_toArray, List.set_cons_zero, List.set_cons_succ]
      refine' wpAnyH_take (i := 37) (oi := { dst := some 248, op := Op.binOp BinOp.eql 9 (Operand.tmp 243) (Operand.tmp 247) 9, type := 4, pos := "pack.go:282", after := #[{ on := 32, ground := Ground.data }, { on := 36, ground := Ground.data }, { on := 29, ground := Ground.guard }], guard := some (29, false) }) (v := _) rfl (by kernel_rfl) (by kernel_rfl) (by kernel_rfl) (fun _ _ _ h => h) (Or.inl ⟨by rfl, ?hy10_37⟩) (by assumption) ?re10_37
      case hy10_37 => (intro W hSw; (try dsimp only at hSw); go_simp; try with_reducible rfl)
      try simp only [Act.put, List.setIfInBounds_toArray, List.set_cons_zero, List.set_cons_succ]
      refine' wpAnyH_take (i := 38) (oi := { dst := some 249, op := Op.pick (Operand.tmp 240) (Operand.const (Value.bool true)) (Operand.tmp 248), type := 4, pos := "pack.go:282", after := #[{ on := 29, ground := Ground.data }, { on := 37, ground := Ground.data }, { on := 26, ground := Ground.guard }], guard := some (26, true) }) (v := _) rfl (by kernel_rfl) (by kernel_rfl) (by kernel_rfl) (fun _ _ _ h => h) (Or.inl ⟨by rfl, ?hy10_38⟩) (by assumption) ?re10_38
      case hy10_38 => (intro W hSw; (try dsimp only at hSw); go_simp; try with_reducible rfl)
      try simp only [Act.put, List.setIfInBounds_toArray, List.set_cons_zero, List.set_cons_succ]
      refine' wpAnyH_take (i := 39) (oi := { dst := some 250, op := Op.pick (Operand.tmp 237) (Operand.tmp 249) (Operand.const (Value.bool false)), type := 4, pos := "pack.go:282", after := #[{ on := 26, ground := Ground.data }, { on := 38, ground := Ground.data }], guard := none }) (v := _) rfl (by kernel_rfl) (by kernel_rfl) (by kernel_rfl) (fun _ _ _ h => h) (Or.inl ⟨by rfl, ?hy10_39⟩) (by assumption) ?re10_39
      case hy10_39 => (intro W hSw; (try dsimp only at hSw); go_simp; try with_reducible rfl)
      try simp only [Act.put, List.setIfInBounds_toArray, List.set_cons_zero, List.set_cons_succ]
      refine' wpAnyH_take (i := 40) (oi := { dst := some 251, op := Op.move (Operand.tmp 250), type := 4, pos := "pack.go:282", after := #[{ on := 39, ground := Ground.data }, { on := 31, ground := Ground.chain }], guard := none }) (v := _) rfl (by kernel_rfl) (by kernel_rfl) (by kernel_rfl) (fun _ _ _ h => h) (Or.inl ⟨by rfl, ?hy10_40⟩) (by assumption) ?re10_40
      case hy10_40 => (intro W hSw; (try dsimp only at hSw); go_simp; try with_reducible rfl)
      try simp only [Act.put, List.setIfInBounds_toArray, List.set_cons_zero, List.set_cons_succ]
      cases z3 : ((sz : Int) == 0)
      case false =>
        refine' wpAnyH_take (i := 41) (oi := { dst := some 252, op := Op.move (Operand.tmp 25), type := 3, pos := "pack.go:282", after := #[{ on := 40, ground := Ground.guard }], guard := some (40, true) }) (v := _) rfl (by kernel_rfl) (by kernel_rfl) (by kernel_rfl) (fun _ _ _ h => h) (Or.inl ⟨by rfl, ?hy100_41⟩) (by assumption) ?re100_41
        case hy100_41 => (intro W hSw; (try dsimp only at hSw); go_simp; try with_reducible rfl)
        try simp only [Act.put, List.setIfInBounds_toArray, List.set_cons_zero, List.set_cons_succ]
        refine' wpAnyH_take (i := 42) (oi := { dst := some 253, op := Op.binOp BinOp.eql 3 (Operand.tmp 252) (Operand.const (Value.int IntKind.i64 0)) 3, type := 4, pos := "pack.go:282", after := #[{ on := 41, ground := Ground.data }, { on := 40, ground := Ground.guard }], guard := some (40, true) }) (v := _) rfl (by kernel_rfl) (by kernel_rfl) (by kernel_rfl) (fun _ _ _ h => h) (Or.inl ⟨by rfl, ?hy100_42⟩) (by assumption) ?re100_42
        case hy100_42 => (intro W hSw; (try dsimp only at hSw); go_simp; try with_reducible rfl)
        try simp only [Act.put, List.setIfInBounds_toArray, List.set_cons_zero, List.set_cons_succ]
        refine' wpAnyH_take (i := 43) (oi := { dst := some 254, op := Op.move (Operand.tmp 253), type := 4, pos := "pack.go:282", after := #[{ on := 42, ground := Ground.data }, { on := 40, ground := Ground.chain }, { on := 40, ground := Ground.guard }], guard := some (40, true) }) (v := _) rfl (by kernel_rfl) (by kernel_rfl) (by kernel_rfl) (fun _ _ _ h => h) (Or.inl ⟨by rfl, ?hy100_43⟩) (by assumption) ?re100_43
        case hy100_43 => (intro W hSw; (try dsimp only at hSw); go_simp; try with_reducible rfl)
        try simp only [Act.put, List.setIfInBounds_toArray, List.set_cons_zero, List.set_cons_succ]
        refine' wpAnyH_take (i := 44) (oi := { dst := some 255, op := Op.move (Operand.tmp 24), type := 24, pos := "pack.go:282", after := #[{ on := 43, ground := Ground.guard }], guard := some (43, false) }) (v := _) rfl (by kernel_rfl) (by kernel_rfl) (by kernel_rfl) (fun _ _ _ h => h) (Or.inl ⟨by rfl, ?hy100_44⟩) (by assumption) ?re100_44
        case hy100_44 => (intro W hSw; (try dsimp only at hSw); go_simp; try with_reducible rfl)
        try simp only [Act.put, List.setIfInBounds_toArray, List.set_cons_zero, List.set_cons_succ]
        refine' wpAnyH_take (i := 47) (oi := { dst := some 258, op := Op.move (Operand.tmp 4), type := 22, pos := "pack.go:282", after := #[{ on := 43, ground := Ground.guard }], guard := some (43, false) }) (v := _) rfl (by kernel_rfl) (by kernel_rfl) (by kernel_rfl) (fun _ _ _ h => h) (Or.inl ⟨by rfl, ?hy100_47⟩) (by assumption) ?re100_47
        case hy100_47 => (intro W hSw; (try dsimp only at hSw); go_simp; try with_reducible rfl)
        try simp only [Act.put, List.setIfInBounds_toArray, List.set_cons_zero, List.set_cons_succ]
        refine' wpAnyH_take (i := 48) (oi := { dst := some 259, op := Op.move (Operand.tmp 25), type := 3, pos := "pack.go:282", after := #[{ on := 43, ground := Ground.guard }], guard := some (43, false) }) (v := _) rfl (by kernel_rfl) (by kernel_rfl) (by kernel_rfl) (fun _ _ _ h => h) (Or.inl ⟨by rfl, ?hy100_48⟩) (by assumption) ?re100_48
        case hy100_48 => (intro W hSw; (try dsimp only at hSw); go_simp; try with_reducible rfl)
        try simp only [Act.put, List.setIfInBounds_toArray, List.set_cons_zero, List.set_cons_succ]
        refine' wpAnyH_take (i := 49) (oi := { dst := some 260, op := Op.slice 22 (Operand.tmp 258) none (some (Operand.tmp 259)) none, type := 22, pos := "pack.go:282", after := #[{ on := 47, ground := Ground.data }, { on := 48, ground := Ground.data }, { on := 43, ground := Ground.guard }], guard := some (43, false) }) (v := _) rfl (by kernel_rfl) (by kernel_rfl) (by kernel_rfl) (fun _ _ _ h => h) (Or.inl ⟨by rfl, ?hy100_49⟩) (by assumption) ?re100_49
        case hy100_49 => (intro W hSw; (try dsimp only at hSw); go_simp; try with_reducible rfl)
        try simp only [Act.put, List.setIfInBounds_toArray, List.set_cons_zero, List.set_cons_succ]
        refine' wpAnyH_take (i := 50) (oi := { dst := some 261, op := Op.convert 22 9 (Operand.tmp 260), type := 9, pos := "pack.go:282", after := #[{ on := 49, ground := Ground.data }, { on := 43, ground := Ground.guard }], guard := some (43, false) }) (v := _) rfl (by kernel_rfl) (by kernel_rfl) (by kernel_rfl) (fun _ _ _ h => h) (Or.inl ⟨by rfl, ?hy100_50⟩) (by assumption) ?re100_50
        case hy100_50 => (intro W hSw; (try dsimp only at hSw); go_simp; try with_reducible rfl)
        try simp only [Act.put, List.setIfInBounds_toArray, List.set_cons_zero, List.set_cons_succ]
        refine wpAnyH_ready (rs := [45]) (by kernel_rfl) (by simp) ?_
        refine AllReadyH.cons (o := { dst := some 256, op := Op.call { callee := Callee.value (Operand.func 13), args := #[Operand.const (Value.slice none 0 0), Operand.tmp 255], argTypes := #[22, 24] }, type := 22, pos := "pack.go:282", after := #[{ on := 44, ground := Ground.data }, { on := 43, ground := Ground.chain }, { on := 43, ground := Ground.guard }], guard := some (43, false) }) rfl (fun K hK => ?_) AllReadyH.nil
        go_simp
        go_at_call 13
        refine (C4.out z3 _ hG1).mono ?_
        clear hHeld hG1
        rintro e y2 ⟨v19, rfl, hc19, hG2⟩
        try go_wp2_with fail
        refine hK.out _ _ (KS.out _ hG2) (fun hHeld => ?_)
        clear hK K
        try simp only [Act.put, List.setIfInBounds_toArray, List.set_cons_zero, List.set_cons_succ]
        refine wpAnyH_ready (rs := [46]) (by kernel_rfl) (by simp) ?_
        refine AllReadyH.cons (o := { dst := some 257, op := Op.convert 22 9 (Operand.tmp 256), type := 9, pos := "pack.go:282", after := #[{ on := 45, ground := Ground.data }, { on := 43, ground := Ground.guard }], guard := some (43, false) }) rfl (fun K hK => ?_) AllReadyH.nil
        go_simp
        refine hK.out _ _ (KS.out _ hG2) (fun _ => ?_)
        clear hK K hc19
        try simp only [Act.put, List.setIfInBounds_toArray, List.set_cons_zero, List.set_cons_succ]
        refine' wpAnyH_take (i := 51) (oi := { dst := some 262, op := Op.binOp BinOp.eql 9 (Operand.tmp 257) (Operand.tmp 261) 9, type := 4, pos := "pack.go:282", after := #[{ on := 46, ground := Ground.data }, { on := 50, ground := Ground.data }, { on := 43, ground := Ground.guard }], guard := some (43, false) }) (v := _) rfl (by kernel_rfl) (by kernel_rfl) (by kernel_rfl) (fun _ _ _ h => h) (Or.inl ⟨by rfl, ?hy100_51⟩) (by assumption) ?re100_51
        case hy100_51 => (intro W hSw; (try dsimp only at hSw); go_simp; try with_reducible rfl)
        try simp only [Act.put, List.setIfInBounds_toArray, List.set_cons_zero, List.set_cons_succ]
        refine' wpAnyH_take (i := 52) (oi := { dst := some 263, op := Op.pick (Operand.tmp 254) (Operand.const (Value.bool true)) (Operand.tmp 262), type := 4, pos := "pack.go:282", after := #[{ on := 43, ground := Ground.data }, { on := 51, ground := Ground.data }, { on := 40, ground := Ground.guard }], guard := some (40, true) }) (v := _) rfl (by kernel_rfl) (by kernel_rfl) (by kernel_rfl) (fun _ _ _ h => h) (Or.inl ⟨by rfl, ?hy100_52⟩) (by assumption) ?re100_52
        case hy100_52 => (intro W hSw; (try dsimp only at hSw); go_simp; try with_reducible rfl)
        try simp only [Act.put, List.setIfInBounds_toArray, List.set_cons_zero, List.set_cons_succ]
        refine' wpAnyH_take (i := 53) (oi := { dst := some 264, op := Op.pick (Operand.tmp 251) (Operand.tmp 263) (Operand.const (Value.bool false)), type := 4, pos := "pack.go:282", after := #[{ on := 40, ground := Ground.data }, { on := 52, ground := Ground.data }], guard := none }) (v := _) rfl (by kernel_rfl) (by kernel_rfl) (by kernel_rfl) (fun _ _ _ h => h) (Or.inl ⟨by rfl, ?hy100_53⟩) (by assumption) ?re100_53
        case hy100_53 => (intro W hSw; (try dsimp only at hSw); go_simp; try with_reducible rfl)
        try simp only [Act.put, List.setIfInBounds_toArray, List.set_cons_zero, List.set_cons_succ]
        refine' wpAnyH_take (i := 54) (oi := { dst := some 10, op := Op.assign (Operand.tmp 264), type := 4, pos := "pack.go:282", after := #[{ on := 53, ground := Ground.data }, { on := 45, ground := Ground.chain }, { on := 0, ground := Ground.phase }, { on := 1, ground := Ground.phase }, { on := 2, ground := Ground.phase }, { on := 3, ground := Ground.phase }, { on := 4, ground := Ground.phase }, { on := 5, ground := Ground.phase }, { on := 6, ground := Ground.phase }, { on := 7, ground := Ground.phase }, { on := 8, ground := Ground.phase }, { on := 9, ground := Ground.phase }, { on := 10, ground := Ground.phase }, { on := 11, ground := Ground.phase }, { on := 12, ground := Ground.phase }, { on := 13, ground := Ground.phase }, { on := 14, ground := Ground.phase }, { on := 15, ground := Ground.phase }, { on := 16, ground := Ground.phase }, { on := 17, ground := Ground.phase }, { on := 18, ground := Ground.phase }, { on := 19, ground := Ground.phase }, { on := 20, ground := Ground.phase }, { on := 21, ground := Ground.phase }, { on := 22, ground := Ground.phase }, { on := 23, ground := Ground.phase }, { on := 24, ground := Ground.phase }, { on := 25, ground := Ground.phase }, { on := 26, ground := Ground.phase }, { on := 27, ground := Ground.phase }, { on := 28, ground := Ground.phase }, { on := 29, ground := Ground.phase }, { on := 30, ground := Ground.phase }, { on := 31, ground := Ground.phase }, { on := 32, ground := Ground.phase }, { on := 33, ground := Ground.phase }, { on := 34, ground := Ground.phase }, { on := 35, ground := Ground.phase }, { on := 36, ground := Ground.phase }, { on := 37, ground := Ground.phase }, { on := 38, ground := Ground.phase }, { on := 39, ground := Ground.phase }, { on := 40, ground := Ground.phase }, { on := 41, ground := Ground.phase }, { on := 42, ground := Ground.phase }, { on := 43, ground := Ground.phase }, { on := 44, ground := Ground.phase }, { on := 45, ground := Ground.phase }, { on := 46, ground := Ground.phase }, { on := 47, ground := Ground.phase }, { on := 48, ground := Ground.phase }, { on := 49, ground := Ground.phase }, { on := 50, ground := Ground.phase }, { on := 51, ground := Ground.phase }, { on := 52, ground := Ground.phase }, { on := 53, ground := Ground.phase }], guard := none }) (v := _) rfl (by kernel_rfl) (by kernel_rfl) (by kernel_rfl) (fun _ _ _ h => h) (Or.inl ⟨by rfl, ?hy100_54⟩) (by assumption) ?re100_54
        case hy100_54 => (intro W hSw; (try dsimp only at hSw); go_simp; try with_reducible rfl)
        try simp only [Act.put, List.setIfInBounds_toArray, List.set_cons_zero, List.set_cons_succ]
        refine wpAnyH_done (by kernel_rfl) ?_ _
        refine NoPanic.normal ?_
        go_wp2
        go_ret
        exact ⟨rfl, hG2.1⟩
      case true =>
        refine' wpAnyH_take (i := 41) (oi := { dst := some 252, op := Op.move (Operand.tmp 25), type := 3, pos := "pack.go:282", after := #[{ on := 40, ground := Ground.guard }], guard := some (40, true) }) (v := _) rfl (by kernel_rfl) (by kernel_rfl) (by kernel_rfl) (fun _ _ _ h => h) (Or.inl ⟨by rfl, ?hy101_41⟩) (by assumption) ?re101_41
        case hy101_41 => (intro W hSw; (try dsimp only at hSw); go_simp; try with_reducible rfl)
        try simp only [Act.put, List.setIfInBounds_toArray, List.set_cons_zero, List.set_cons_succ]
        refine' wpAnyH_take (i := 42) (oi := { dst := some 253, op := Op.binOp BinOp.eql 3 (Operand.tmp 252) (Operand.const (Value.int IntKind.i64 0)) 3, type := 4, pos := "pack.go:282", after := #[{ on := 41, ground := Ground.data }, { on := 40, ground := Ground.guard }], guard := some (40, true) }) (v := _) rfl (by kernel_rfl) (by kernel_rfl) (by kernel_rfl) (fun _ _ _ h => h) (Or.inl ⟨by rfl, ?hy101_42⟩) (by assumption) ?re101_42
        case hy101_42 => (intro W hSw; (try dsimp only at hSw); go_simp; try with_reducible rfl)
        try simp only [Act.put, List.setIfInBounds_toArray, List.set_cons_zero, List.set_cons_succ]
        refine' wpAnyH_take (i := 43) (oi := { dst := some 254, op := Op.move (Operand.tmp 253), type := 4, pos := "pack.go:282", after := #[{ on := 42, ground := Ground.data }, { on := 40, ground := Ground.chain }, { on := 40, ground := Ground.guard }], guard := some (40, true) }) (v := _) rfl (by kernel_rfl) (by kernel_rfl) (by kernel_rfl) (fun _ _ _ h => h) (Or.inl ⟨by rfl, ?hy101_43⟩) (by assumption) ?re101_43
        case hy101_43 => (intro W hSw; (try dsimp only at hSw); go_simp; try with_reducible rfl)
        try simp only [Act.put, List.setIfInBounds_toArray, List.set_cons_zero, List.set_cons_succ]
        refine wpAnyH_take (i := 44) (oi := { dst := some 255, op := Op.move (Operand.tmp 24), type := 24, pos := "pack.go:282", after := #[{ on := 43, ground := Ground.guard }], guard := some (43, false) }) (v := undef) rfl (by kernel_rfl) (by kernel_rfl) (by kernel_rfl) (fun _ _ _ h => h) (Or.inr ⟨by rfl, rfl⟩) (by assumption) ?_
        simp only [Act.put, List.setIfInBounds_toArray, List.set_cons_zero, List.set_cons_succ]
        refine wpAnyH_take (i := 47) (oi := { dst := some 258, op := Op.move (Operand.tmp 4), type := 22, pos := "pack.go:282", after := #[{ on := 43, ground := Ground.guard }], guard := some (43, false) }) (v := undef) rfl (by kernel_rfl) (by kernel_rfl) (by kernel_rfl) (fun _ _ _ h => h) (Or.inr ⟨by rfl, rfl⟩) (by assumption) ?_
        simp only [Act.put, List.setIfInBounds_toArray, List.set_cons_zero, List.set_cons_succ]
        refine wpAnyH_take (i := 48) (oi := { dst := some 259, op := Op.move (Operand.tmp 25), type := 3, pos := "pack.go:282", after := #[{ on := 43, ground := Ground.guard }], guard := some (43, false) }) (v := undef) rfl (by kernel_rfl) (by kernel_rfl) (by kernel_rfl) (fun _ _ _ h => h) (Or.inr ⟨by rfl, rfl⟩) (by assumption) ?_
        simp only [Act.put, List.setIfInBounds_toArray, List.set_cons_zero, List.set_cons_succ]
        refine wpAnyH_take (i := 49) (oi := { dst := some 260, op := Op.slice 22 (Operand.tmp 258) none (some (Operand.tmp 259)) none, type := 22, pos := "pack.go:282", after := #[{ on := 47, ground := Ground.data }, { on := 48, ground := Ground.data }, { on := 43, ground := Ground.guard }], guard := some (43, false) }) (v := undef) rfl (by kernel_rfl) (by kernel_rfl) (by kernel_rfl) (fun _ _ _ h => h) (Or.inr ⟨by rfl, rfl⟩) (by assumption) ?_
        simp only [Act.put, List.setIfInBounds_toArray, List.set_cons_zero, List.set_cons_succ]
        refine wpAnyH_take (i := 50) (oi := { dst := some 261, op := Op.convert 22 9 (Operand.tmp 260), type := 9, pos := "pack.go:282", after := #[{ on := 49, ground := Ground.data }, { on := 43, ground := Ground.guard }], guard := some (43, false) }) (v := undef) rfl (by kernel_rfl) (by kernel_rfl) (by kernel_rfl) (fun _ _ _ h => h) (Or.inr ⟨by rfl, rfl⟩) (by assumption) ?_
        simp only [Act.put, List.setIfInBounds_toArray, List.set_cons_zero, List.set_cons_succ]
        refine wpAnyH_take (i := 45) (oi := { dst := some 256, op := Op.call { callee := Callee.value (Operand.func 13), args := #[Operand.const (Value.slice none 0 0), Operand.tmp 255], argTypes := #[22, 24] }, type := 22, pos := "pack.go:282", after := #[{ on := 44, ground := Ground.data }, { on := 43, ground := Ground.chain }, { on := 43, ground := Ground.guard }], guard := some (43, false) }) (v := undef) rfl (by kernel_rfl) (by kernel_rfl) (by kernel_rfl) (fun _ _ _ h => h) (Or.inr ⟨by rfl, rfl⟩) (by assumption) ?_
        simp only [Act.put, List.setIfInBounds_toArray, List.set_cons_zero, List.set_cons_succ]
        refine wpAnyH_take (i := 46) (oi := { dst := some 257, op := Op.convert 22 9 (Operand.tmp 256), type := 9, pos := "pack.go:282", after := #[{ on := 45, ground := Ground.data }, { on := 43, ground := Ground.guard }], guard := some (43, false) }) (v := undef) rfl (by kernel_rfl) (by kernel_rfl) (by kernel_rfl) (fun _ _ _ h => h) (Or.inr ⟨by rfl, rfl⟩) (by assumption) ?_
        simp only [Act.put, List.setIfInBounds_toArray, List.set_cons_zero, List.set_cons_succ]
        refine wpAnyH_take (i := 51) (oi := { dst := some 262, op := Op.binOp BinOp.eql 9 (Operand.tmp 257) (Operand.tmp 261) 9, type := 4, pos := "pack.go:282", after := #[{ on := 46, ground := Ground.data }, { on := 50, ground := Ground.data }, { on := 43, ground := Ground.guard }], guard := some (43, false) }) (v := undef) rfl (by kernel_rfl) (by kernel_rfl) (by kernel_rfl) (fun _ _ _ h => h) (Or.inr ⟨by rfl, rfl⟩) (by assumption) ?_
        simp only [Act.put, List.setIfInBounds_toArray, List.set_cons_zero, List.set_cons_succ]
        refine' wpAnyH_take (i := 52) (oi := { dst := some 263, op := Op.pick (Operand.tmp 254) (Operand.const (Value.bool true)) (Operand.tmp 262), type := 4, pos := "pack.go:282", after := #[{ on := 43, ground := Ground.data }, { on := 51, ground := Ground.data }, { on := 40, ground := Ground.guard }], guard := some (40, true) }) (v := _) rfl (by kernel_rfl) (by kernel_rfl) (by kernel_rfl) (fun _ _ _ h => h) (Or.inl ⟨by rfl, ?hy101_52⟩) (by assumption) ?re101_52
        case hy101_52 => (intro W hSw; (try dsimp only at hSw); go_simp; try with_reducible rfl)
        try simp only [Act.put, List.setIfInBounds_toArray, List.set_cons_zero, List.set_cons_succ]
        refine' wpAnyH_take (i := 53) (oi := { dst := some 264, op := Op.pick (Operand.tmp 251) (Operand.tmp 263) (Operand.const (Value.bool false)), type := 4, pos := "pack.go:282", after := #[{ on := 40, ground := Ground.data }, { on := 52, ground := Ground.data }], guard := none }) (v := _) rfl (by kernel_rfl) (by kernel_rfl) (by kernel_rfl) (fun _ _ _ h => h) (Or.inl ⟨by rfl, ?hy101_53⟩) (by assumption) ?re101_53
        case hy101_53 => (intro W hSw; (try dsimp only at hSw); go_simp; try with_reducible rfl)
        try simp only [Act.put, List.setIfInBounds_toArray, List.set_cons_zero, List.set_cons_succ]
        refine' wpAnyH_take (i := 54) (oi := { dst := some 10, op := Op.assign (Operand.tmp 264), type := 4, pos := "pack.go:282", after := #[{ on := 53, ground := Ground.data }, { on := 45, ground := Ground.chain }, { on := 0, ground := Ground.phase }, { on := 1, ground := Ground.phase }, { on := 2, ground := Ground.phase }, { on := 3, ground := Ground.phase }, { on := 4, ground := Ground.phase }, { on := 5, ground := Ground.phase }, { on := 6, ground := Ground.phase }, { on := 7, ground := Ground.phase }, { on := 8, ground := Ground.phase }, { on := 9, ground := Ground.phase }, { on := 10, ground := Ground.phase }, { on := 11, ground := Ground.phase }, { on := 12, ground := Ground.phase }, { on := 13, ground := Ground.phase }, { on := 14, ground := Ground.phase }, { on := 15, ground := Ground.phase }, { on := 16, ground := Ground.phase }, { on := 17, ground := Ground.phase }, { on := 18, ground := Ground.phase }, { on := 19, ground := Ground.phase }, { on := 20, ground := Ground.phase }, { on := 21, ground := Ground.phase }, { on := 22, ground := Ground.phase }, { on := 23, ground := Ground.phase }, { on := 24, ground := Ground.phase }, { on := 25, ground := Ground.phase }, { on := 26, ground := Ground.phase }, { on := 27, ground := Ground.phase }, { on := 28, ground := Ground.phase }, { on := 29, ground := Ground.phase }, { on := 30, ground := Ground.phase }, { on := 31, ground := Ground.phase }, { on := 32, ground := Ground.phase }, { on := 33, ground := Ground.phase }, { on := 34, ground := Ground.phase }, { on := 35, ground := Ground.phase }, { on := 36, ground := Ground.phase }, { on := 37, ground := Ground.phase }, { on := 38, ground := Ground.phase }, { on := 39, ground := Ground.phase }, { on := 40, ground := Ground.phase }, { on := 41, ground := Ground.phase }, { on := 42, ground := Ground.phase }, { on := 43, ground := Ground.phase }, { on := 44, ground := Ground.phase }, { on := 45, ground := Ground.phase }, { on := 46, ground := Ground.phase }, { on := 47, ground := Ground.phase }, { on := 48, ground := Ground.phase }, { on := 49, ground := Ground.phase }, { on := 50, ground := Ground.phase }, { on := 51, ground := Ground.phase }, { on := 52, ground := Ground.phase }, { on := 53, ground := Ground.phase }], guard := none }) (v := _) rfl (by kernel_rfl) (by kernel_rfl) (by kernel_rfl) (fun _ _ _ h => h) (Or.inl ⟨by rfl, ?hy101_54⟩) (by assumption) ?re101_54
        case hy101_54 => (intro W hSw; (try dsimp only at hSw); go_simp; try with_reducible rfl)
        try simp only [Act.put, List.setIfInBounds_toArray, List.set_cons_zero, List.set_cons_succ]
        refine wpAnyH_done (by kernel_rfl) ?_ _
        refine NoPanic.normal ?_
        go_wp2
        go_ret
        exact ⟨rfl, hG1.1⟩
    case true =>
      refine' wpAnyH_take (i := 27) (oi := { dst := some 238, op := Op.move (Operand.tmp 17), type := 3, pos := "pack.go:282", after := #[{ on := 26, ground := Ground.guard }], guard := some (26, true) }) (v := _) rfl (by kernel_rfl) (by kernel_rfl) (by kernel_rfl) (fun _ _ _ h => h) (Or.inl ⟨by rfl, ?hy11_27⟩) (by assumption) ?re11_27
      case hy11_27 => (intro W hSw; (try dsimp only at hSw); go_simp; try with_reducible rfl)
      try simp only [Act.put, List.setIfInBounds_toArray, List.set_cons_zero, List.set_cons_succ]
      refine' wpAnyH_take (i := 28) (oi := { dst := some 239, op := Op.binOp BinOp.eql 3 (Operand.tmp 238) (Operand.const (Value.int IntKind.i64 0)) 3, type := 4, pos := "pack.go:282", after := #[{ on := 27, ground := Ground.data }, { on := 26, ground := Ground.guard }], guard := some (26, true) }) (v := _) rfl (by kernel_rfl) (by kernel_rfl) (by kernel_rfl) (fun _ _ _ h => h) (Or.inl ⟨by rfl, ?hy11_28⟩) (by assumption) ?re11_28
      case hy11_28 => (intro W hSw; (try dsimp only at hSw); go_simp; try with_reducible rfl)
      try simp only [Act.put, List.setIfInBounds_toArray, List.set_cons_zero, List.set_cons_succ]
      refine' wpAnyH_take (i := 29) (oi := { dst := some 240, op := Op.move (Operand.tmp 239), type := 4, pos := "pack.go:282", after := #[{ on := 28, ground := Ground.data }, { on := 26, ground := Ground.chain }, { on := 26, ground := Ground.guard }], guard := some (26, true) }) (v := _) rfl (by kernel_rfl) (by kernel_rfl) (by kernel_rfl) (fun _ _ _ h => h) (Or.inl ⟨by rfl, ?hy11_29⟩) (by assumption) ?re11_29
      case hy11_29 => (intro W hSw; (try dsimp only at hSw); go_simp; try with_reducible rfl)
      try simp only [Act.put, List.setIfInBounds_toArray, List.set_cons_zero, List.set_cons_succ]
      refine wpAnyH_take (i := 30) (oi := { dst := some 241, op := Op.move (Operand.tmp 16), type := 9, pos := "pack.go:282", after := #[{ on := 29, ground := Ground.guard }], guard := some (29, false) }) (v := undef) rfl (by kernel_rfl) (by kernel_rfl) (by kernel_rfl) (fun _ _ _ h => h) (Or.inr ⟨by rfl, rfl⟩) (by assumption) ?_
      simp only [Act.put, List.setIfInBounds_toArray, List.set_cons_zero, List.set_cons_succ]
      refine wpAnyH_take (i := 33) (oi := { dst := some 244, op := Op.move (Operand.tmp 4), type := 22, pos := "pack.go:282", after := #[{ on := 29, ground := Ground.guard }], guard := some (29, false) }) (v := undef) rfl (by kernel_rfl) (by kernel_rfl) (by kernel_rfl) (fun _ _ _ h => h) (Or.inr ⟨by rfl, rfl⟩) (by assumption) ?_
      simp only [Act.put, List.setIfInBounds_toArray, List.set_cons_zero, List.set_cons_succ]
      refine wpAnyH_take (i := 34) (oi := { dst := some 245, op := Op.move (Operand.tmp 17), type := 3, pos := "pack.go:282", after := #[{ on := 29, ground := Ground.guard }], guard := some (29, false) }) (v := undef) rfl (by kernel_rfl) (by kernel_rfl) (by kernel_rfl) (fun _ _ _ h => h) (Or.inr ⟨by rfl, rfl⟩) (by assumption) ?_
      simp only [Act.put, List.setIfInBounds_toArray, List.set_cons_zero, List.set_cons_succ]
      refine wpAnyH_take (i := 35) (oi := { dst := some 246, op := Op.slice 22 (Operand.tmp 244) none (some (Operand.tmp 245)) none, type := 22, pos := "pack.go:282", after := #[{ on := 33, ground := Ground.data }, { on := 34, ground := Ground.data }, { on := 29, ground := Ground.guard }], guard := some (29, false) }) (v := undef) rfl (by kernel_rfl) (by kernel_rfl) (by kernel_rfl) (fun _ _ _ h => h) (Or.inr ⟨by rfl, rfl⟩) (by assumption) ?_
      simp only [Act.put, List.setIfInBounds_toArray, List.set_cons_zero, List.set_cons_succ]
      refine wpAnyH_take (i := 36) (oi := { dst := some 247, op := Op.convert 22 9 (Operand.tmp 246), type := 9, pos := "pack.go:282", after := #[{ on := 35, ground := Ground.data }, { on := 29, ground := Ground.guard }], guard := some (29, false) }) (v := undef) rfl (by kernel_rfl) (by kernel_rfl) (by kernel_rfl) (fun _ _ _ h => h) (Or.inr ⟨by rfl, rfl⟩) (by assumption) ?_
      simp only [Act.put, List.setIfInBounds_toArray, List.set_cons_zero, List.set_cons_succ]
      refine wpAnyH_take (i := 31) (oi := { dst := some 242, op := Op.call { callee := Callee.value (Operand.func 12), args := #[Operand.const (Value.slice none 0 0), Operand.tmp 241], argTypes := #[22, 9] }, type := 22, pos := "pack.go:282", after := #[{ on := 30, ground := Ground.data }, { on := 29, ground := Ground.chain }, { on := 29, ground := Ground.guard }], guard := some (29, false) }) (v := undef) rfl (by kernel_rfl) (by kernel_rfl) (by kernel_rfl) (fun _ _ _ h => h) (Or.inr ⟨by rfl, rfl⟩) (by assumption) ?_
      simp only [Act.put, List.setIfInBounds_toArray, List.set_cons_zero, List.set_cons_succ]
      refine wpAnyH_take (i := 32) (oi := { dst := some 243, op := Op.convert 22 9 (Operand.tmp 242), type := 9, pos := "pack.go:282", after := #[{ on := 31, ground := Ground.data }, { on := 29, ground := Ground.guard }], guard := some (29, false) }) (v := undef) rfl (by kernel_rfl) (by kernel_rfl) (by kernel_rfl) (fun _ _ _ h => h) (Or.inr ⟨by rfl, rfl⟩) (by assumption) ?_
      simp only [Act.put, List.setIfInBounds_toArray, List.set_cons_zero, List.set_cons_succ]
      refine wpAnyH_take (i := 37) (oi := { dst := some 248, op := Op.binOp BinOp.eql 9 (Operand.tmp 243) (Operand.tmp 247) 9, type := 4, pos := "pack.go:282", after := #[{ on := 32, ground := Ground.data }, { on := 36, ground := Ground.data }, { on := 29, ground := Ground.guard }], guard := some (29, false) }) (v := undef) rfl (by kernel_rfl) (by kernel_rfl) (by kernel_rfl) (fun _ _ _ h => h) (Or.inr ⟨by rfl, rfl⟩) (by assumption) ?_
      simp only [Act.put, List.setIfInBounds_toArray, List.set_cons_zero, List.set_cons_succ]
      refine' wpAnyH_take (i := 38) (oi := { dst := some 249, op := Op.pick (Operand.tmp 240) (Operand.const (Value.bool true)) (Operand.tmp 248), type := 4, pos := "pack.go:282", after := #[{ on := 29, ground := Ground.data }, { on := 37, ground := Ground.data }, { on := 26, ground := Ground.guard }], guard := some (26, true) }) (v := _) rfl (by kernel_rfl) (by kernel_rfl) (by kernel_rfl) (fun _ _ _ h => h) (Or.inl ⟨by rfl, ?hy11_38⟩) (by assumption) ?re11_38
      case hy11_38 => (intro W hSw; (try dsimp only at hSw); go_simp; try with_reducible rfl)
      try simp only [Act.put, List.setIfInBounds_toArray, List.set_cons_zero, List.set_cons_succ]
      refine' wpAnyH_take (i := 39) (oi := { dst := some 250, op := Op.pick (Operand.tmp 237) (Operand.tmp 249) (Operand.const (Value.bool false)), type := 4, pos := "pack.go:282", after := #[{ on := 26, ground := Ground.data }, { on := 38, ground := Ground.data }], guard := none }) (v := _) rfl (by kernel_rfl) (by kernel_rfl) (by kernel_rfl) (fun _ _ _ h => h) (Or.inl ⟨by rfl, ?hy11_39⟩) (by assumption) ?re11_39
      case hy11_39 => (intro W hSw; (try dsimp only at hSw); go_simp; try with_reducible rfl)
      try simp only [Act.put, List.setIfInBounds_toArray, List.set_cons_zero, List.set_cons_succ]
      refine' wpAnyH_take (i := 40) (oi := { dst := some 251, op := Op.move (Operand.tmp 250), type := 4, pos := "pack.go:282", after := #[{ on := 39, ground := Ground.data }, { on := 31, ground := Ground.chain }], guard := none }) (v := _) rfl (by kernel_rfl) (by kernel_rfl) (by kernel_rfl) (fun _ _ _ h => h) (Or.inl ⟨by rfl, ?hy11_40⟩) (by assumption) ?re11_40
      case hy11_40 => (intro W hSw; (try dsimp only at hSw); go_simp; try with_reducible rfl)
      try simp only [Act.put, List.setIfInBounds_toArray, List.set_cons_zero, List.set_cons_succ]
      cases z3 : ((sz : Int) == 0)
      case false =>
        refine' wpAnyH_take (i := 41) (oi := { dst := some 252, op := Op.move (Operand.tmp 25), type := 3, pos := "pack.go:282", after := #[{ on := 40, ground := Ground.guard }], guard := some (40, true) }) (v := _) rfl (by kernel_rfl) (by kernel_rfl) (by kernel_rfl) (fun _ _ _ h => h) (Or.inl ⟨by rfl, ?hy110_41⟩) (by assumption) ?re110_41
        case hy110_41 => (intro W hSw; (try dsimp only at hSw); go_simp; try with_reducible rfl)
        try simp only [Act.put, List.setIfInBounds_toArray, List.set_cons_zero, List.set_cons_succ]
        refine' wpAnyH_take (i := 42) (oi := { dst := some 253, op := Op.binOp BinOp.eql 3 (Operand.tmp 252) (Operand.const (Value.int IntKind.i64 0)) 3, type := 4, pos := "pack.go:282", after := #[{ on := 41, ground := Ground.data }, { on := 40, ground := Ground.guard }], guard := some (40, true) }) (v := _) rfl (by kernel_rfl) (by kernel_rfl) (by kernel_rfl) (fun _ _ _ h => h) (Or.inl ⟨by rfl, ?hy110_42⟩) (by assumption) ?re110_42
        case hy110_42 => (intro W hSw; (try dsimp only at hSw); go_simp; try with_reducible rfl)
        try simp only [Act.put, List.setIfInBounds_toArray, List.set_cons_zero, List.set_cons_succ]
        refine' wpAnyH_take (i := 43) (oi := { dst := some 254, op := Op.move (Operand.tmp 253), type := 4, pos := "pack.go:282", after := #[{ on := 42, ground := Ground.data }, { on := 40, ground := Ground.chain }, { on := 40, ground := Ground.guard }], guard := some (40, true) }) (v := _) rfl (by kernel_rfl) (by kernel_rfl) (by kernel_rfl) (fun _ _ _ h => h) (Or.inl ⟨by rfl, ?hy110_43⟩) (by assumption) ?re110_43
        case hy110_43 => (intro W hSw; (try dsimp only at hSw); go_simp; try with_reducible rfl)
        try simp only [Act.put, List.setIfInBounds_toArray, List.set_cons_zero, List.set_cons_succ]
        refine' wpAnyH_take (i := 44) (oi := { dst := some 255, op := Op.move (Operand.tmp 24), type := 24, pos := "pack.go:282", after := #[{ on := 43, ground := Ground.guard }], guard := some (43, false) }) (v := _) rfl (by kernel_rfl) (by kernel_rfl) (by kernel_rfl) (fun _ _ _ h => h) (Or.inl ⟨by rfl, ?hy110_44⟩) (by assumption) ?re110_44
        case hy110_44 => (intro W hSw; (try dsimp only at hSw); go_simp; try with_reducible rfl)
        try simp only [Act.put, List.setIfInBounds_toArray, List.set_cons_zero, List.set_cons_succ]
        refine' wpAnyH_take (i := 47) (oi := { dst := some 258, op := Op.move (Operand.tmp 4), type := 22, pos := "pack.go:282", after := #[{ on := 43, ground := Ground.guard }], guard := some (43, false) }) (v := _) rfl (by kernel_rfl) (by kernel_rfl) (by kernel_rfl) (fun _ _ _ h => h) (Or.inl ⟨by rfl, ?hy110_47⟩) (by assumption) ?re110_47
        case hy110_47 => (intro W hSw; (try dsimp only at hSw); go_simp; try with_reducible rfl)
        try simp only [Act.put, List.setIfInBounds_toArray, List.set_cons_zero, List.set_cons_succ]
        refine' wpAnyH_take (i := 48) (oi := { dst := some 259, op := Op.move (Operand.tmp 25), type := 3, pos := "pack.go:282", after := #[{ on := 43, ground := Ground.guard }], guard := some (43, false) }) (v := _) rfl (by kernel_rfl) (by kernel_rfl) (by kernel_rfl) (fun _ _ _ h => h) (Or.inl ⟨by rfl, ?hy110_48⟩) (by assumption) ?re110_48
        case hy110_48 => (intro W hSw; (try dsimp only at hSw); go_simp; try with_reducible rfl)
        try simp only [Act.put, List.setIfInBounds_toArray, List.set_cons_zero, List.set_cons_succ]
        refine' wpAnyH_take (i := 49) (oi := { dst := some 260, op := Op.slice 22 (Operand.tmp 258) none (some (Operand.tmp 259)) none, type := 22, pos := "pack.go:282", after := #[{ on := 47, ground := Ground.data }, { on := 48, ground := Ground.data }, { on := 43, ground := Ground.guard }], guard := some (43, false) }) (v := _) rfl (by kernel_rfl) (by kernel_rfl) (by kernel_rfl) (fun _ _ _ h => h) (Or.inl ⟨by rfl, ?hy110_49⟩) (by assumption) ?re110_49
        case hy110_49 => (intro W hSw; (try dsimp only at hSw); go_simp; try with_reducible rfl)
        try simp only [Act.put, List.setIfInBounds_toArray, List.set_cons_zero, List.set_cons_succ]
        refine' wpAnyH_take (i := 50) (oi := { dst := some 261, op := Op.convert 22 9 (Operand.tmp 260), type := 9, pos := "pack.go:282", after := #[{ on := 49, ground := Ground.data }, { on := 43, ground := Ground.guard }], guard := some (43, false) }) (v := _) rfl (by kernel_rfl) (by kernel_rfl) (by kernel_rfl) (fun _ _ _ h => h) (Or.inl ⟨by rfl, ?hy110_50⟩) (by assumption) ?re110_50
        case hy110_50 => (intro W hSw; (try dsimp only at hSw); go_simp; try with_reducible rfl)
        try simp only [Act.put, List.setIfInBounds_toArray, List.set_cons_zero, List.set_cons_succ]
        refine wpAnyH_ready (rs := [45]) (by kernel_rfl) (by simp) ?_
        refine AllReadyH.cons (o := { dst := some 256, op := Op.call { callee := Callee.value (Operand.func 13), args := #[Operand.const (Value.slice none 0 0), Operand.tmp 255], argTypes := #[22, 24] }, type := 22, pos := "pack.go:282", after := #[{ on := 44, ground := Ground.data }, { on := 43, ground := Ground.chain }, { on := 43, ground := Ground.guard }], guard := some (43, false) }) rfl (fun K hK => ?_) AllReadyH.nil
        go_simp
        go_at_call 13
        refine (C4.out z3 _ hG0).mono ?_
        clear hHeld hG0
        rintro e y1 ⟨v19, rfl, hc19, hG1⟩
        try go_wp2_with fail
        refine hK.out _ _ (KS.out _ hG1) (fun hHeld => ?_)
        clear hK K
        try simp only [Act.put, List.setIfInBounds_toArray, List.set_cons_zero, List.set_cons_succ]
        refine wpAnyH_ready (rs := [46]) (by kernel_rfl) (by simp) ?_
        refine AllReadyH.cons (o := { dst := some 257, op := Op.convert 22 9 (Operand.tmp 256), type := 9, pos := "pack.go:282", after := #[{ on := 45, ground := Ground.data }, { on := 43, ground := Ground.guard }], guard := some (43, false) }) rfl (fun K hK => ?_) AllReadyH.nil
        go_simp
        refine hK.out _ _ (KS.out _ hG1) (fun _ => ?_)
        clear hK K hc19
        try simp only [Act.put, List.setIfInBounds_toArray, List.set_cons_zero, List.set_cons_succ]
        refine' wpAnyH_take (i := 51) (oi := { dst := some 262, op := Op.binOp BinOp.eql 9 (Operand.tmp 257) (Operand.tmp 261) 9, type := 4, pos := "pack.go:282", after := #[{ on := 46, ground := Ground.data }, { on := 50, ground := Ground.data }, { on := 43, ground := Ground.guard }], guard := some (43, false) }) (v := _) rfl (by kernel_rfl) (by kernel_rfl) (by kernel_rfl) (fun _ _ _ h => h) (Or.inl ⟨by rfl, ?hy110_51⟩) (by assumption) ?re110_51
        case hy110_51 => (intro W hSw; (try dsimp only at hSw); go_simp; try with_reducible rfl)
        try simp only [Act.put, List.setIfInBounds_toArray, List.set_cons_zero, List.set_cons_succ]
        refine' wpAnyH_take (i := 52) (oi := { dst := some 263, op := Op.pick (Operand.tmp 254) (Operand.const (Value.bool true)) (Operand.tmp 262), type := 4, pos := "pack.go:282", after := #[{ on := 43, ground := Ground.data }, { on := 51, ground := Ground.data }, { on := 40, ground := Ground.guard }], guard := some (40, true) }) (v := _) rfl (by kernel_rfl) (by kernel_rfl) (by kernel_rfl) (fun _ _ _ h => h) (Or.inl ⟨by rfl, ?hy110_52⟩) (by assumption) ?re110_52
        case hy110_52 => (intro W hSw; (try dsimp only at hSw); go_simp; try with_reducible rfl)
        try simp only [Act.put, List.setIfInBounds_toArray, List.set_cons_zero, List.set_cons_succ]
        refine' wpAnyH_take (i := 53) (oi := { dst := some 264, op := Op.pick (Operand.tmp 251) (Operand.tmp 263) (Operand.const (Value.bool false)), type := 4, pos := "pack.go:282", after := #[{ on := 40, ground := Ground.data }, { on := 52, ground := Ground.data }], guard := none }) (v := _) rfl (by kernel_rfl) (by kernel_rfl) (by kernel_rfl) (fun _ _ _ h => h) (Or.inl ⟨by rfl, ?hy110_53⟩) (by assumption) ?re110_53
        case hy110_53 => (intro W hSw; (try dsimp only at hSw); go_simp; try with_reducible rfl)
        try simp only [Act.put, List.setIfInBounds_toArray, List.set_cons_zero, List.set_cons_succ]
        refine' wpAnyH_take (i := 54) (oi := { dst := some 10, op := Op.assign (Operand.tmp 264), type := 4, pos := "pack.go:282", after := #[{ on := 53, ground := Ground.data }, { on := 45, ground := Ground.chain }, { on := 0, ground := Ground.phase }, { on := 1, ground := Ground.phase }, { on := 2, ground := Ground.phase }, { on := 3, ground := Ground.phase }, { on := 4, ground := Ground.phase }, { on := 5, ground := Ground.phase }, { on := 6, ground := Ground.phase }, { on := 7, ground := Ground.phase }, { on := 8, ground := Ground.phase }, { on := 9, ground := Ground.phase }, { on := 10, ground := Ground.phase }, { on := 11, ground := Ground.phase }, { on := 12, ground := Ground.phase }, { on := 13, ground := Ground.phase }, { on := 14, ground := Ground.phase }, { on := 15, ground := Ground.phase }, { on := 16, ground := Ground.phase }, { on := 17, ground := Ground.phase }, { on := 18, ground := Ground.phase }, { on := 19, ground := Ground.phase }, { on := 20, ground := Ground.phase }, { on := 21, ground := Ground.phase }, { on := 22, ground := Ground.phase }, { on := 23, ground := Ground.phase }, { on := 24, ground := Ground.phase }, { on := 25, ground := Ground.phase }, { on := 26, ground := Ground.phase }, { on := 27, ground := Ground.phase }, { on := 28, ground := Ground.phase }, { on := 29, ground := Ground.phase }, { on := 30, ground := Ground.phase }, { on := 31, ground := Ground.phase }, { on := 32, ground := Ground.phase }, { on := 33, ground := Ground.phase }, { on := 34, ground := Ground.phase }, { on := 35, ground := Ground.phase }, { on := 36, ground := Ground.phase }, { on := 37, ground := Ground.phase }, { on := 38, ground := Ground.phase }, { on := 39, ground := Ground.phase }, { on := 40, ground := Ground.phase }, { on := 41, ground := Ground.phase }, { on := 42, ground := Ground.phase }, { on := 43, ground := Ground.phase }, { on := 44, ground := Ground.phase }, { on := 45, ground := Ground.phase }, { on := 46, ground := Ground.phase }, { on := 47, ground := Ground.phase }, { on := 48, ground := Ground.phase }, { on := 49, ground := Ground.phase }, { on := 50, ground := Ground.phase }, { on := 51, ground := Ground.phase }, { on := 52, ground := Ground.phase }, { on := 53, ground := Ground.phase }], guard := none }) (v := _) rfl (by kernel_rfl) (by kernel_rfl) (by kernel_rfl) (fun _ _ _ h => h) (Or.inl ⟨by rfl, ?hy110_54⟩) (by assumption) ?re110_54
        case hy110_54 => (intro W hSw; (try dsimp only at hSw); go_simp; try with_reducible rfl)
        try simp only [Act.put, List.setIfInBounds_toArray, List.set_cons_zero, List.set_cons_succ]
        refine wpAnyH_done (by kernel_rfl) ?_ _
        refine NoPanic.normal ?_
        go_wp2
        go_ret
        exact ⟨rfl, hG1.1⟩
      case true =>
        refine' wpAnyH_take (i := 41) (oi := { dst := some 252, op := Op.move (Operand.tmp 25), type := 3, pos := "pack.go:282", after := #[{ on := 40, ground := Ground.guard }], guard := some (40, true) }) (v := _) rfl (by kernel_rfl) (by kernel_rfl) (by kernel_rfl) (fun _ _ _ h => h) (Or.inl ⟨by rfl, ?hy111_41⟩) (by assumption) ?re111_41
        case hy111_41 => (intro W hSw; (try dsimp only at hSw); go_simp; try with_reducible rfl)
        try simp only [Act.put, List.setIfInBounds_toArray, List.set_cons_zero, List.set_cons_succ]
        refine' wpAnyH_take (i := 42) (oi := { dst := some 253, op := Op.binOp BinOp.eql 3 (Operand.tmp 252) (Operand.const (Value.int IntKind.i64 0)) 3, type := 4, pos := "pack.go:282", after := #[{ on := 41, ground := Ground.data }, { on := 40, ground := Ground.guard }], guard := some (40, true) }) (v := _) rfl (by kernel_rfl) (by kernel_rfl) (by kernel_rfl) (fun _ _ _ h => h) (Or.inl ⟨by rfl, ?hy111_42⟩) (by assumption) ?re111_42
        case hy111_42 => (intro W hSw; (try dsimp only at hSw); go_simp; try with_reducible rfl)
        try simp only [Act.put, List.setIfInBounds_toArray, List.set_cons_zero, List.set_cons_succ]
        refine' wpAnyH_take (i := 43) (oi := { dst := some 254, op := Op.move (Operand.tmp 253), type := 4, pos := "pack.go:282", after := #[{ on := 42, ground := Ground.data }, { on := 40, ground := Ground.chain }, { on := 40, ground := Ground.guard }], guard := some (40, true) }) (v := _) rfl (by kernel_rfl) (by kernel_rfl) (by kernel_rfl) (fun _ _ _ h => h) (Or.inl ⟨by rfl, ?hy111_43⟩) (by assumption) ?re111_43
        case hy111_43 => (intro W hSw; (try dsimp only at hSw); go_simp; try with_reducible rfl)
        try simp only [Act.put, List.setIfInBounds_toArray, List.set_cons_zero, List.set_cons_succ]
        refine wpAnyH_take (i := 44) (oi := { dst := some 255, op := Op.move (Operand.tmp 24), type := 24, pos := "pack.go:282", after := #[{ on := 43, ground := Ground.guard }], guard := some (43, false) }) (v := undef) rfl (by kernel_rfl) (by kernel_rfl) (by kernel_rfl) (fun _ _ _ h => h) (Or.inr ⟨by rfl, rfl⟩) (by assumption) ?_
        simp only [Act.put, List.setIfInBounds_toArray, List.set_cons_zero, List.set_cons_succ]
        refine wpAnyH_take (i := 47) (oi := { dst := some 258, op := Op.move (Operand.tmp 4), type := 22, pos := "pack.go:282", after := #[{ on := 43, ground := Ground.guard }], guard := some (43, false) }) (v := undef) rfl (by kernel_rfl) (by kernel_rfl) (by kernel_rfl) (fun _ _ _ h => h) (Or.inr ⟨by rfl, rfl⟩) (by assumption) ?_
        simp only [Act.put, List.setIfInBounds_toArray, List.set_cons_zero, List.set_cons_succ]
        refine wpAnyH_take (i := 48) (oi := { dst := some 259, op := Op.move (Operand.tmp 25), type := 3, pos := "pack.go:282", after := #[{ on := 43, ground := Ground.guard }], guard := some (43, false) }) (v := undef) rfl (by kernel_rfl) (by kernel_rfl) (by kernel_rfl) (fun _ _ _ h => h) (Or.inr ⟨by rfl, rfl⟩) (by assumption) ?_
        simp only [Act.put, List.setIfInBounds_toArray, List.set_cons_zero, List.set_cons_succ]
        refine wpAnyH_take (i := 49) (oi := { dst := some 260, op := Op.slice 22 (Operand.tmp 258) none (some (Operand.tmp 259)) none, type := 22, pos := "pack.go:282", after := #[{ on := 47, ground := Ground.data }, { on := 48, ground := Ground.data }, { on := 43, ground := Ground.guard }], guard := some (43, false) }) (v := undef) rfl (by kernel_rfl) (by kernel_rfl) (by kernel_rfl) (fun _ _ _ h => h) (Or.inr ⟨by rfl, rfl⟩) (by assumption) ?_
        simp only [Act.put, List.setIfInBounds_toArray, List.set_cons_zero, List.set_cons_succ]
        refine wpAnyH_take (i := 50) (oi := { dst := some 261, op := Op.convert 22 9 (Operand.tmp 260), type := 9, pos := "pack.go:282", after := #[{ on := 49, ground := Ground.data }, { on := 43, ground := Ground.guard }], guard := some (43, false) }) (v := undef) rfl (by kernel_rfl) (by kernel_rfl) (by kernel_rfl) (fun _ _ _ h => h) (Or.inr ⟨by rfl, rfl⟩) (by assumption) ?_
        simp only [Act.put, List.setIfInBounds_toArray, List.set_cons_zero, List.set_cons_succ]
        refine wpAnyH_take (i := 45) (oi := { dst := some 256, op := Op.call { callee := Callee.value (Operand.func 13), args := #[Operand.const (Value.slice none 0 0), Operand.tmp 255], argTypes := #[22, 24] }, type := 22, pos := "pack.go:282", after := #[{ on := 44, ground := Ground.data }, { on := 43, ground := Ground.chain }, { on := 43, ground := Ground.guard }], guard := some (43, false) }) (v := undef) rfl (by kernel_rfl) (by kernel_rfl) (by kernel_rfl) (fun _ _ _ h => h) (Or.inr ⟨by rfl, rfl⟩) (by assumption) ?_
        simp only [Act.put, List.setIfInBounds_toArray, List.set_cons_zero, List.set_cons_succ]
        refine wpAnyH_take (i := 46) (oi := { dst := some 257, op := Op.convert 22 9 (Operand.tmp 256), type := 9, pos := "pack.go:282", after := #[{ on := 45, ground := Ground.data }, { on := 43, ground := Ground.guard }], guard := some (43, false) }) (v := undef) rfl (by kernel_rfl) (by kernel_rfl) (by kernel_rfl) (fun _ _ _ h => h) (Or.inr ⟨by rfl, rfl⟩) (by assumption) ?_
        simp only [Act.put, List.setIfInBounds_toArray, List.set_cons_zero, List.set_cons_succ]
        refine wpAnyH_take (i := 51) (oi := { dst := some 262, op := Op.binOp BinOp.eql 9 (Operand.tmp 257) (Operand.tmp 261) 9, type := 4, pos := "pack.go:282", after := #[{ on := 46, ground := Ground.data }, { on := 50, ground := Ground.data }, { on := 43, ground := Ground.guard }], guard := some (43, false) }) (v := undef) rfl (by kernel_rfl) (by kernel_rfl) (by kernel_rfl) (fun _ _ _ h => h) (Or.inr ⟨by rfl, rfl⟩) (by assumption) ?_
        simp only [Act.put, List.setIfInBounds_toArray, List.set_cons_zero, List.set_cons_succ]
        refine' wpAnyH_take (i := 52) (oi := { dst := some 263, op := Op.pick (Operand.tmp 254) (Operand.const (Value.bool true)) (Operand.tmp 262), type := 4, pos := "pack.go:282", after := #[{ on := 43, ground := Ground.data }, { on := 51, ground := Ground.data }, { on := 40, ground := Ground.guard }], guard := some (40, true) }) (v := _) rfl (by kernel_rfl) (by kernel_rfl) (by kernel_rfl) (fun _ _ _ h => h) (Or.inl ⟨by rfl, ?hy111_52⟩) (by assumption) ?re111_52
        case hy111_52 => (intro W hSw; (try dsimp only at hSw); go_simp; try with_reducible rfl)
        try simp only [Act.put, List.setIfInBounds_toArray, List.set_cons_zero, List.set_cons_succ]
        refine' wpAnyH_take (i := 53) (oi := { dst := some 264, op := Op.pick (Operand.tmp 251) (Operand.tmp 263) (Operand.const (Value.bool false)), type := 4, pos := "pack.go:282", after := #[{ on := 40, ground := Ground.data }, { on := 52, ground := Ground.data }], guard := none }) (v := _) rfl (by kernel_rfl) (by kernel_rfl) (by kernel_rfl) (fun _ _ _ h => h) (Or.inl ⟨by rfl, ?hy111_53⟩) (by assumption) ?re111_53
        case hy111_53 => (intro W hSw; (try dsimp only at hSw); go_simp; try with_reducible rfl)
        try simp only [Act.put, List.setIfInBounds_toArray, List.set_cons_zero, List.set_cons_succ]
        refine' wpAnyH_take (i := 54) (oi := { dst := some 10, op := Op.assign (Operand.tmp 264), type := 4, pos := "pack.go:282", after := #[{ on := 53, ground := Ground.data }, { on := 45, ground := Ground.chain }, { on := 0, ground := Ground.phase }, { on := 1, ground := Ground.phase }, { on := 2, ground := Ground.phase }, { on := 3, ground := Ground.phase }, { on := 4, ground := Ground.phase }, { on := 5, ground := Ground.phase }, { on := 6, ground := Ground.phase }, { on := 7, ground := Ground.phase }, { on := 8, ground := Ground.phase }, { on := 9, ground := Ground.phase }, { on := 10, ground := Ground.phase }, { on := 11, ground := Ground.phase }, { on := 12, ground := Ground.phase }, { on := 13, ground := Ground.phase }, { on := 14, ground := Ground.phase }, { on := 15, ground := Ground.phase }, { on := 16, ground := Ground.phase }, { on := 17, ground := Ground.phase }, { on := 18, ground := Ground.phase }, { on := 19, ground := Ground.phase }, { on := 20, ground := Ground.phase }, { on := 21, ground := Ground.phase }, { on := 22, ground := Ground.phase }, { on := 23, ground := Ground.phase }, { on := 24, ground := Ground.phase }, { on := 25, ground := Ground.phase }, { on := 26, ground := Ground.phase }, { on := 27, ground := Ground.phase }, { on := 28, ground := Ground.phase }, { on := 29, ground := Ground.phase }, { on := 30, ground := Ground.phase }, { on := 31, ground := Ground.phase }, { on := 32, ground := Ground.phase }, { on := 33, ground := Ground.phase }, { on := 34, ground := Ground.phase }, { on := 35, ground := Ground.phase }, { on := 36, ground := Ground.phase }, { on := 37, ground := Ground.phase }, { on := 38, ground := Ground.phase }, { on := 39, ground := Ground.phase }, { on := 40, ground := Ground.phase }, { on := 41, ground := Ground.phase }, { on := 42, ground := Ground.phase }, { on := 43, ground := Ground.phase }, { on := 44, ground := Ground.phase }, { on := 45, ground := Ground.phase }, { on := 46, ground := Ground.phase }, { on := 47, ground := Ground.phase }, { on := 48, ground := Ground.phase }, { on := 49, ground := Ground.phase }, { on := 50, ground := Ground.phase }, { on := 51, ground := Ground.phase }, { on := 52, ground := Ground.phase }, { on := 53, ground := Ground.phase }], guard := none }) (v := _) rfl (by kernel_rfl) (by kernel_rfl) (by kernel_rfl) (fun _ _ _ h => h) (Or.inl ⟨by rfl, ?hy111_54⟩) (by assumption) ?re111_54
        case hy111_54 => (intro W hSw; (try dsimp only at hSw); go_simp; try with_reducible rfl)
        try simp only [Act.put, List.setIfInBounds_toArray, List.set_cons_zero, List.set_cons_succ]
        refine wpAnyH_done (by kernel_rfl) ?_ _
        refine NoPanic.normal ?_
        go_wp2
        go_ret
        exact ⟨rfl, hG0.1⟩
end Go.Proofs.Ytkcalcbefhgmcaa
