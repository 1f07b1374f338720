/-
  StoreLasts' walk.
-/
import Derived.Test.YtmceoelafmlpjaaTri
namespace Go.Proofs.Ytmceoelafmlpjaa
open Go.RowKit
theorem nil_take {ao : Option Addr} {m c k : Nat} (h : NilOr (.slice ao m c)) (hk : k ≤ m) : NilOr (.slice ao k c) := by
  rcases h with e | ⟨ad, m', c', e⟩
  · simp only [Value.slice.injEq] at e
    obtain ⟨rfl, rfl, rfl⟩ := e
    obtain rfl : k = 0 := by omega
    exact .inl rfl
  · simp only [Value.slice.injEq] at e
    exact .inr ⟨ad, k, c, by rw [e.1]⟩
theorem junk_row (w : World) (x1 : Int) (i q : Nat) (hq : q < 3) : ∃ (gj q' : Nat) (x y : UInt8), q' ≤ 2 ∧ Value.slice (some ⟨w.heap.size, 0, none⟩) q 2 = .slice (some ⟨gj, 0, none⟩) q' 2 ∧ Hid (Below w.heap.size w (w.alloc (.cells #[.int .u8 (x1 % 256), .int .u8 ((i : Int) % 256)] 5)).drew) ∧ Hid ((w.alloc (.cells #[.int .u8 (x1 % 256), .int .u8 ((i : Int) % 256)] 5)).drew.ownsRow w.heap.size 5 1 (.slice (some ⟨gj, 0, none⟩) q' 2) q' (Lib.byteCells ([x, y].take q'))) := by
  obtain ⟨x, hx⟩ : ∃ x : UInt8, (x.toNat : Int) = x1 % 256 := ⟨UInt8.ofNat (x1 % 256).toNat, by simp [UInt8.toNat_ofNat']; omega⟩
  obtain ⟨y, hy⟩ : ∃ y : UInt8, (y.toNat : Int) = (i : Int) % 256 := ⟨UInt8.ofNat (i % 256), by simp [UInt8.toNat_ofNat']⟩
  rw [← hx, ← hy]
  have hr : Row (w.alloc (.cells #[.int .u8 x.toNat, .int .u8 y.toNat] 5)).drew w.heap.size [x, y] := heap_alloc_new w _
  have ho := row_own (B := w.heap.size) hr (Nat.le_refl _) (by show 2 ≤ maxLen; decide)
  exact ⟨w.heap.size, q, x, y, by omega, rfl, ((Below.refl w.heap.size w).alloc (Nat.le_refl _) _).drew, own_cut ho (by show q ≤ 2; omega)⟩
set_option maxHeartbeats 8000000 in
set_option maxRecDepth 100000 in
theorem lasts_walk (ao0 : Option Addr) (n0 c0 : Nat) (b0 : List UInt8) (vs : Value) (N : Nat) (z : Nat → Nat → Int) (w : World) (h0 : Bs w (.slice ao0 n0 c0) b0) (hn0 : NilOr (.slice ao0 n0 c0)) (hs : Ts w vs N z) :
    Calls Try.prog 4 #[.slice ao0 n0 c0, vs] w fun e w' => e = .returned (.bool true) ∧ Below w.heap.size w w' := by
  obtain ⟨aos, cs, rfl, hs1, hs2, -⟩ := id hs
  obtain ⟨_, _, ee, h01, h02, -⟩ := id h0
  simp only [Value.slice.injEq] at ee
  obtain ⟨rfl, rfl, rfl⟩ := ee
  unfold maxLen at hs2 h02
  have HS := hide hs
  have H0 := hide h0
  have HN0 := hide hn0
  have HSH := hide (shown_any w)
  clear hs h0 hn0
  go_enter Try.func4, Try.ntmps4
  go_wp2_with fail
  refine HSH.out.mono ?_
  rintro e w1 ⟨rfl, be1⟩
  have BE1 := hide be1
  have HS1 := hide (HS.out.below be1 (Nat.le_refl _))
  have H01 := hide (H0.out.below be1 (Nat.le_refl _))
  clear be1 HSH HS H0
  go_upto_if 24 with fail
  go_cut [0] (fun v0 wx => ∃ m, m ≤ 1000 ∧ m ≤ b0.length ∧ v0 = .slice ao0 m c0 ∧ wx = w1)
  case first =>
    by_cases hb : (b0.length : Int) > 1000
    · have hc1 : 1000 ≤ c0 := by omega
      go_wp2_with fail
      go_meet
      exact ⟨1000, by omega, by omega, rfl, rfl⟩
    · go_wp2_with fail
      go_meet
      exact ⟨b0.length, by omega, by omega, rfl, rfl⟩
  obtain ⟨m0, hm0, hm1, rfl, rfl⟩ := hcut
  obtain ⟨wa, rfl⟩ : ∃ x, x = wc := ⟨_, rfl⟩
  have hF : (b0.take m0).length = m0 := by rw [List.length_take]; omega
  have HF : Hid (Bs wa (.slice ao0 m0 c0) (b0.take m0) ∧ NilOr (.slice ao0 m0 c0)) := ⟨bs_take H01.out hm1, nil_take HN0.out hm1⟩
  have HN := hide (new_any _ _ wa HF.out.1 (by omega))
  clear H01 HN0
  obtain ⟨F, hFe⟩ : ∃ F, F = b0.take m0 := ⟨_, rfl⟩
  rw [← hFe] at hF HF HN
  clear hFe
  go_wp2_with fail
  refine HN.out.mono ?_
  rintro e w2 ⟨g, v2, rfl, hs2', hb2⟩
  have HS2 := hide hs2'
  have HB2 := hide hb2
  have hw2 : wa.heap.size ≤ w2.heap.size := hb2.size
  have HF2 := hide (HF.out.1.below hb2 (Nat.le_refl _))
  clear hs2' hb2 HN
  go_wp2_with (at_builtin; refine wpList_append_at _ rfl _ _ rfl wa.heap.size _ _ _ rfl (World.ownsRow_nil _ _ _ _) _ F rfl HF2.out HF.out.2 (by omega) hw2 ?_)
  intro u8 w3 ho3 hg3 ha3
  obtain ⟨ao8, c8, rfl⟩ := own_len ho3
  have HTR : Hid (Tr w3 wa.heap.size g (.slice ao8 m0 c8) F (.slice none 0 0) [] (.slice none 0 0) [] F F.length true (-1)) := by
    have h1 : Tr w2 wa.heap.size g (.slice none 0 0) [] (.slice none 0 0) [] (.slice none 0 0) [] F F.length true (-1) := ⟨v2, HS2.out, Rw.nil, Rw.nil, Rw.nil, fun k hk => by simp [Value.ownBlock] at hk, fun k hk => by simp [Value.ownBlock] at hk, fun k hk => by simp [Value.ownBlock] at hk⟩
    have h2 := Tr.grow (q := F) h1 (by rw [List.length_nil, Nat.zero_add, hF]; exact ho3) hg3 ha3
    rw [List.nil_append] at h2
    exact h2.flip
  have HB3 := hide (HB2.out.grown hg3 hw2 (fun k e => by simp [Value.ownBlock] at e))
  clear ho3 hg3 ha3 HS2 HB2 HF2 HF
  go_upto_block 0 with fail
  go_cut [] (fun wx => Hid (Below wa.heap.size wa wx))
  case first =>
    go_wp2_with fail
    go_loopw [7, 8, 9, 10] (fun v7 v8 v9 v10 wr => ∃ (i : Nat) (L O : List UInt8), i ≤ N ∧ i ≤ 300 ∧ L.length + O.length ≤ 1000 + 50 * i ∧ v10 = .int .i64 i ∧ v7 = .int .i64 0 ∧ Hid (Below wa.heap.size wa wr) ∧ Hid (Tr wr wa.heap.size g v8 L v9 O (.slice none 0 0) [] (L ++ O) L.length true (-1))) (fun _ _ _ v10 _ => N - (intOf v10).toNat)
    case atStart => exact ⟨0, F, [], Nat.zero_le _, by omega, by simp; omega, rfl, rfl, HB3, by rw [List.append_nil]; exact HTR⟩
    case round =>
      obtain ⟨i, L, O, hi, hi3, hLO, rfl, rfl, HBE, HD⟩ := hrel
      by_cases hlt : i < N ∧ i < 300
      · obtain ⟨hlt, hlt3⟩ := hlt
        obtain ⟨_, _, ee, -, -, hcs⟩ := id HS1.out
        simp only [Value.slice.injEq] at ee
        obtain ⟨rfl, -, rfl⟩ := ee
        obtain ⟨gs, os, rfl, hz⟩ := hcs i hlt
        clear hcs
        have hz0 := hz 0 (by omega)
        have hz1 := hz 1 (by omega)
        have hz2 := hz 2 (by omega)
        clear hz
        have K : Hid (∀ W, Below wa.heap.size wa W → W.cell? ⟨gs, os + i * 3, none⟩ = some (.int .i64 (z i 0)) ∧ W.cell? ⟨gs, os + i * 3 + 1, none⟩ = some (.int .i64 (z i 1)) ∧ W.cell? ⟨gs, os + i * 3 + 2, none⟩ = some (.int .i64 (z i 2))) := fun W hb =>
          ⟨(hb.cell (p := ⟨gs, os + i * 3, none⟩) (World.block_lt_of_cell? wa _ hz0.1)).trans hz0.1, (hb.cell (p := ⟨gs, os + i * 3 + 1, none⟩) (World.block_lt_of_cell? wa _ hz1.1)).trans hz1.1, (hb.cell (p := ⟨gs, os + i * 3 + 2, none⟩) (World.block_lt_of_cell? wa _ hz2.1)).trans hz2.1⟩
        have P0 : Hid (∀ W n, 0 < n → n ≤ 1000 → Calls Try.prog 11 #[.int .i64 (z i 0), .int .i64 (n : Nat)] W fun e w' => e = .returned (.int .i64 (pk (z i 0) n)) ∧ w' = W) := fun W n h1 h2 => pick_any (z i 0) n W hz0.2.1 hz0.2.2 h1 (by omega)
        have P1 : Hid (∀ W n, 0 < n → n ≤ 1000 → Calls Try.prog 11 #[.int .i64 (z i 1), .int .i64 (n : Nat)] W fun e w' => e = .returned (.int .i64 (pk (z i 1) n)) ∧ w' = W) := fun W n h1 h2 => pick_any (z i 1) n W hz1.2.1 hz1.2.2 h1 (by omega)
        have P2 : Hid (∀ W n, 0 < n → n ≤ 1000 → Calls Try.prog 11 #[.int .i64 (z i 2), .int .i64 (n : Nat)] W fun e w' => e = .returned (.int .i64 (pk (z i 2) n)) ∧ w' = W) := fun W n h1 h2 => pick_any (z i 2) n W hz2.2.1 hz2.2.2 h1 (by omega)
        have B1 := hide hz1.2
        have e1 : (i : Int) < (N : Int) := by omega
        have e2 : (i : Int) < 300 := by omega
        clear hz0 hz1 hz2 HS1 HB3 HTR
        obtain ⟨x0, hx0⟩ : ∃ x, x = z i 0 := ⟨_, rfl⟩
        obtain ⟨x1, hx1⟩ : ∃ x, x = z i 1 := ⟨_, rfl⟩
        obtain ⟨x2, hx2⟩ : ∃ x, x = z i 2 := ⟨_, rfl⟩
        rw [← hx0, ← hx1, ← hx2] at K
        rw [← hx0] at P0
        rw [← hx1] at P1 B1
        rw [← hx2] at P2
        clear hx0 hx1 hx2
        obtain ⟨w4, rfl⟩ : ∃ x, x = wr := ⟨_, rfl⟩
        go_upto_block 2 with fail
        go_cut [11] (fun v11 wx => ∃ b : List UInt8, b.length ≤ 40 ∧ Hid (Below w4.heap.size w4 wx) ∧ Hid (wx.ownsRow w4.heap.size 5 1 v11 b.length (Lib.byteCells b)))
        case first =>
          as_aux_lemma =>
            go_wp2_with fail
            have hp40 := pk_lt x0 (n := 40) (by omega)
            go_loopw [11, 12] (fun v11 v12 wr => ∃ (k : Nat) (b : List UInt8), k ≤ pk x0 40 ∧ b.length = k ∧ v12 = .int .i64 k ∧ Hid (Below w4.heap.size w4 wr) ∧ Hid (wr.ownsRow w4.heap.size 5 1 v11 k (Lib.byteCells b))) (fun _ v12 _ => pk x0 40 - (intOf v12).toNat)
            case atStart => exact ⟨0, [], Nat.zero_le _, rfl, rfl, hide (Below.refl _ _), hide (World.ownsRow_nil _ _ _ _)⟩
            case round =>
              obtain ⟨k, b, hk, hbl, rfl, HBk, HOk⟩ := hrel
              obtain ⟨c0', c1', -⟩ := K.out wr (HBE.out.trans (HBk.out.mono HBE.out.size))
              have hbw : w4.heap.size ≤ wr.heap.size := HBk.out.size
              have HP := hide (P0.out wr 40 (by omega) (by omega))
              obtain ⟨p, hp⟩ : ∃ p, p = pk x0 40 := ⟨_, rfl⟩
              rw [← hp] at hk hp40 HP ⊢
              clear hp
              go_wp2_with fail
              refine HP.out.mono ?_
              rintro e w5 ⟨rfl, rfl⟩
              by_cases hlk : k < p
              · have e3 : (k : Int) < (p : Int) := by omega
                have HQ := hide (P1.out w5 26 (by omega) (by omega))
                have hq26 := pk_lt x1 (n := 26) (by omega)
                obtain ⟨q, hq⟩ : ∃ q, q = pk x1 26 := ⟨_, rfl⟩
                rw [← hq] at HQ hq26
                clear hq
                go_wp2_with fail
                refine HQ.out.mono ?_
                rintro e w6 ⟨rfl, rfl⟩
                obtain ⟨x, hx⟩ : ∃ x : UInt8, (x.toNat : Int) = 97 + (q : Int) := ⟨UInt8.ofNat (97 + q), by simp [UInt8.toNat_ofNat']; omega⟩
                have e4 : IntKind.i64.wrap (97 + (q : Int)) = (x.toNat : Int) := by rw [IntKind.wrap_i64]; omega
                have hxl := x.toNat_lt
                have e5 : IntKind.u8.wrap (x.toNat : Int) = (x.toNat : Int) := by rw [IntKind.wrap_u8]; omega
                have HX := hide hx
                have HBL := hide hbl
                clear hx hbl
                have HL1 : Hid (Bs (w6.alloc (.cells #[.int .u8 x.toNat] 5)) (.slice (some ⟨w6.heap.size, 0, none⟩) 1 1) [x]) := lit_bs (row_lit w6 [x]) (by show 1 ≤ maxLen; decide)
                obtain ⟨ao11, c11, rfl⟩ := own_len HOk.out
                have HOl := hide (HOk.out.kept (World.grownBy_alloc w6 (.cells #[.int .u8 x.toNat] 5) none) (by cases (Value.slice ao11 k c11).ownBlock <;> simp))
                go_wp2_with (at_builtin; refine wpList_append_at _ rfl _ _ rfl w4.heap.size _ _ _ rfl HOl.out _ [x] rfl HL1.out (.inr ⟨_, _, _, rfl⟩) (by simp; omega) (by simp; omega) ?_)
                intro u11 w7 ho7 hg7 ha7
                obtain ⟨ao7, c7, rfl⟩ := own_len ho7
                have HO7 := hide ho7
                have HB7 := hide ((HBk.out.trans (((Below.refl w6.heap.size w6).alloc (Nat.le_refl _) (.cells (Lib.byteCells [x]).toArray 5)).mono hbw)).grown hg7 (by simp; omega) (fun k e => (HOl.out.lt k e).1))
                clear ho7 hg7 ha7 HL1 HOl
                go_wp2_with fail
                go_roundw
                case rel =>
                  refine ⟨k + 1, b ++ [x], by omega, by rw [List.length_append, HBL.out]; rfl, by go_num, HB7, ?_⟩
                  rw [Lib.byteCells_append]
                  exact HO7
                case measure => simp [intOf]; omega
              · have e3 : ¬ (k : Int) < (p : Int) := by omega
                go_wp2_with fail
                go_meet
                exact ⟨b, by omega, HBk, by rw [hbl]; exact HOk⟩
        obtain ⟨b, hb40, HBb, HOb⟩ := hcut
        obtain ⟨w5, rfl⟩ : ∃ x, x = wc := ⟨_, rfl⟩
        have HBE5 := hide (HBE.out.trans (HBb.out.mono HBE.out.size))
        have HD5 := hide (HD.out.third HBb.out HOb.out)
        have hLOl : (L ++ O).length = L.length + O.length := List.length_append
        have HA := hide (append_tr _ b w5 HD5.out (own_bs HOb.out) (own_nilOr HOb.out) (by omega))
        obtain ⟨ao11, c11, rfl⟩ := own_len HOb.out
        clear HBE HD HBb HOb
        go_wp2_with fail
        refine HA.out.mono ?_
        rintro e w6 ⟨rfl, hd6, hb6⟩
        have HBE6 := hide (HBE5.out.trans hb6)
        have HD6 := hide hd6
        have hbw6 : wa.heap.size ≤ w6.heap.size := HBE6.out.size
        obtain ⟨_, _, _, ⟨ho9, -, -⟩, ⟨hob, -, -⟩, -⟩ := hd6
        obtain ⟨ao9, c9, rfl⟩ := own_len ho9
        have HO9 := hide ho9
        have HOB := hide (And.intro (own_bs hob) (own_nilOr hob))
        clear ho9 hob hb6 HA HD5 HBE5
        go_wp2_with (at_builtin; refine wpList_append_at _ rfl _ _ rfl wa.heap.size _ _ _ rfl HO9.out _ b rfl HOB.out.1 HOB.out.2 (by omega) hbw6 ?_)
        intro u9' w7 ho7 hg7 ha7
        have HD7 := hide (Tr.grow (q := b) HD6.out ho7 hg7 ha7).drop
        have HBE7 := hide (HBE6.out.grown hg7 hbw6 (fun k e => (HO9.out.lt k e).1))
        obtain ⟨O2, hO2⟩ : ∃ x, x = O ++ b := ⟨_, rfl⟩
        have hO2l : O2.length = O.length + b.length := by rw [hO2, List.length_append]
        rw [List.append_assoc, ← hO2] at HD7
        rw [← hO2l] at ho7
        have hLO2 : L.length + O2.length ≤ 1040 + 50 * i := by omega
        obtain ⟨ao7, c7, rfl⟩ := own_len ho7
        clear ho7 hg7 ha7 HD6 HO9 HOB HBE6 hO2 hO2l hLOl hLO
        obtain ⟨-, -, c2'⟩ := K.out w7 HBE7.out
        have HQ := hide (P2.out w7 21 (by omega) (by omega))
        obtain ⟨q, hq⟩ : ∃ q, q = pk x2 21 := ⟨_, rfl⟩
        rw [← hq] at HQ
        clear hq
        go_wp2_with fail
        refine HQ.out.mono ?_
        rintro e w8 ⟨rfl, rfl⟩
        clear HQ c2' P2
        go_upto_block 4 with fail
        go_cut [7, 8, 9] (fun v7 v8 v9 wx => ∃ (L' O' : List UInt8), L'.length + O'.length ≤ 1050 + 50 * i ∧ v7 = .int .i64 0 ∧ Hid (Below wa.heap.size wa wx) ∧ Hid (Tr wx wa.heap.size g v8 L' v9 O' (.slice none 0 0) [] (L' ++ O') L'.length true (-1)))
        case first =>
          go_upto_if 90 with fail
          go_cut [90] (fun v90 wx => ∃ t, v90 = .bool t ∧ wx = w8)
          case first =>
            as_aux_lemma =>
              go_wp2_with fail
              all_goals
                go_meet
                exact ⟨_, rfl, rfl⟩
          obtain ⟨t, rfl, rfl⟩ := hcut
          obtain ⟨w9, rfl⟩ : ∃ x, x = wc := ⟨_, rfl⟩
          cases t with
          | true =>
            as_aux_lemma =>
              have HSY := hide (sync_tr w9 HD7.out)
              clear HD7
              go_wp2_with fail
              refine HSY.out.mono ?_
              rintro e wd ⟨rfl, hd, hb⟩
              have HDd := hide hd.flip
              have HBd := hide (HBE7.out.trans hb)
              have hbwd : wa.heap.size ≤ wd.heap.size := HBd.out.size
              obtain ⟨_, _, ⟨ho9, -, -⟩, ⟨ho8, -, -⟩, -⟩ := HDd.out
              obtain ⟨ao8', c8', rfl⟩ := own_len ho8
              have HO8 := hide ho8
              have HO9 := hide (And.intro (own_bs ho9) (own_nilOr ho9))
              clear ho8 ho9 hd hb HSY HBE7
              go_wp2_with (at_builtin; refine wpList_append_at _ rfl _ _ rfl wa.heap.size _ _ _ rfl HO8.out _ O2 rfl HO9.out.1 HO9.out.2 (by omega) hbwd ?_)
              intro u8' we hoe hge hae
              have HDe := hide (Tr.grow (q := O2) HDd.out hoe hge hae).flip.nil
              have HBe := hide (HBd.out.grown hge hbwd (fun k e => (HO8.out.lt k e).1))
              obtain ⟨aoe, ce, rfl⟩ := own_len hoe
              clear hoe hge hae HO8 HO9 HDd HBd
              go_wp2_with fail
              go_meet
              exact ⟨L ++ O2, [], by simp; omega, rfl, HBe, by rw [List.append_nil]; exact HDe⟩
          | false =>
            go_upto_if 103 with fail
            go_cut [103] (fun v103 wx => ∃ t, v103 = .bool t ∧ wx = w9)
            case first =>
              as_aux_lemma =>
                go_wp2_with fail
                all_goals
                  go_meet
                  exact ⟨_, rfl, rfl⟩
            obtain ⟨t, rfl, rfl⟩ := hcut
            obtain ⟨w10, rfl⟩ : ∃ x, x = wc := ⟨_, rfl⟩
            cases t with
            | false =>
              go_wp2_with fail
              go_meet
              exact ⟨L, O2, by omega, rfl, HBE7, HD7⟩
            | true =>
              obtain ⟨c0', c1', -⟩ := K.out w10 HBE7.out
              have HQ := hide (P0.out w10 60 (by omega) (by omega))
              have hk60 := pk_lt x0 (n := 60) (by omega)
              obtain ⟨kp, hkp⟩ : ∃ q, q = pk x0 60 := ⟨_, rfl⟩
              rw [← hkp] at HQ hk60
              clear hkp P0
              go_wp2_with fail
              refine HQ.out.mono ?_
              rintro e wk ⟨rfl, rfl⟩
              go_upto_region 36 with fail
              go_cut [14] (fun v14 wx => ∃ (gj q : Nat) (x y : UInt8), q ≤ 2 ∧ v14 = .slice (some ⟨gj, 0, none⟩) q 2 ∧ Hid (Below wk.heap.size wk wx) ∧ Hid (wx.ownsRow wk.heap.size 5 1 (.slice (some ⟨gj, 0, none⟩) q 2) q (Lib.byteCells ([x, y].take q))))
              case first =>
                as_aux_lemma =>
                  have HQ3 := hide (fun W => P1.out W 3 (by omega) (by omega))
                  have hq3 := pk_lt x1 (n := 3) (by omega)
                  obtain ⟨q3, hq3e⟩ : ∃ q, q = pk x1 3 := ⟨_, rfl⟩
                  rw [← hq3e] at HQ3 hq3
                  clear hq3e
                  have hq32 : q3 ≤ 2 := by omega
                  have hq33 : (q3 : Int) ≤ 2 := by omega
                  have hq34 : ¬ (2 : Int) < (q3 : Int) := by omega
                  have hq35 : (0 : Int) ≤ (q3 : Int) := by omega
                  have hq36 : ¬ (q3 : Int) < 0 := by omega
                  have hq37 : ¬ 2 < q3 := by omega
                  go_region_held3 (fun W => W.cell? ⟨gs, os + i * 3 + 1, none⟩ = some (.int .i64 x1)) (go_keep) (first | (go_at_call 11; refine (HQ3.out _).mono ?_; rintro e wq ⟨rfl, rfl⟩))
                  all_goals
                    go_wp2_with fail
                    go_meet
                    exact junk_row wk x1 i q3 hq3
              obtain ⟨gj, q, x, y, hq2, rfl, HBj, HOj⟩ := hcut
              obtain ⟨wj, rfl⟩ : ∃ x, x = wc := ⟨_, rfl⟩
              obtain ⟨J, hJ⟩ : ∃ J, J = [x, y].take q := ⟨_, rfl⟩
              have hJl : J.length = q := by rw [hJ, List.length_take]; simp; omega
              obtain ⟨m, hm⟩ : ∃ m, m = min kp O2.length := ⟨_, rfl⟩
              have hmk : m ≤ kp := by omega
              have hmO : m ≤ O2.length := by omega
              have hmin : (if O2.length < kp then (O2.length : Int) else (kp : Int)) = (m : Int) := by split <;> omega
              obtain ⟨T, hT⟩ : ∃ T, T = O2.take m := ⟨_, rfl⟩
              have hTl : T.length = m := by rw [hT, List.length_take]; omega
              rw [← hJ] at HOj
              have HDj := hide (HD7.out.third HBj.out (by rw [hJl]; exact HOj.out))
              have HBEj := hide (HBE7.out.trans (HBj.out.mono HBE7.out.size))
              have hmm : min kp ((L ++ O2).length - L.length) = m := by rw [List.length_append, hm]; congr 1; omega
              have hC := crash_tr _ J kp wj HDj.out (own_bs HOj.out) (own_nilOr HOj.out) (by rw [hmm]; omega)
              rw [hmm, List.take_append, List.take_of_length_le (Nat.le_add_right _ _), Nat.add_sub_cancel_left, ← hT] at hC
              have HC := hide hC
              have HT := hide (And.intro hT (And.intro hTl hJl))
              clear hJ hm hT hTl hJl hmm hC HDj HBj HD7 HBE7 c0' c1'
              go_wp2_with fail
              refine HC.out.mono ?_
              rintro e wl ⟨rfl, hd, hb⟩
              have HBl := hide (HBEj.out.trans hb)
              have hal : Below wl.heap.size wl (wl.alloc (.cells #[.int .u8 120] 5 (1, 2))) := (Below.refl wl.heap.size wl).alloc (Nat.le_refl _) _
              have HDz := hide (hd.later hal)
              have HBz := hide (HBl.out.trans (hal.mono HBl.out.size))
              have k1 : (convert 22 22 (.slice (some ⟨wl.heap.size, 0, none⟩) 1 1)).run Try.prog (wl.alloc (.cells #[.int .u8 120] 5)) = .ok (.slice (some ⟨wl.heap.size, 0, none⟩) 1 1) (wl.alloc (.cells #[.int .u8 120] 5 (1, 2))) := Lib.run_convert_bytes_const (P := Try.prog) wl 22 5 #[.int .u8 120] 1 1 Try.underlying22 Try.underlying5
              have HAD := hide (append_dead (.slice (some ⟨wl.heap.size, 0, none⟩) 1 1) _ HDz.out)
              clear hd hb hal HBl HBEj HOj HC
              go_wp2_with fail
              refine HAD.out.mono ?_
              rintro e wz ⟨rfl, hwz⟩
              rw [← hwz] at HDz HBz
              clear hwz HAD k1
              have HSD := hide (sync_dead wz HDz.out)
              go_wp2_with fail
              refine HSD.out.mono ?_
              rintro e wy ⟨rfl, rfl⟩
              have HBD := hide (bytes_dead wy HDz.out)
              clear HSD
              go_wp2_with fail
              refine HBD.out.mono ?_
              rintro e wx ⟨rfl, rfl⟩
              have HRS := hide (restart_tr wx HDz.out)
              clear HBD
              go_wp2_with fail
              refine HRS.out.mono ?_
              rintro e wr2 ⟨rfl, hd2, hb2⟩
              have HB2' := hide (HBz.out.trans hb2)
              have HD2 := hide hd2.flip
              have hbw2 : wa.heap.size ≤ wr2.heap.size := HB2'.out.size
              obtain ⟨_, _, ⟨ho9, -, -⟩, ⟨ho8, -, -⟩, -⟩ := HD2.out
              obtain ⟨ao8', c8', rfl⟩ := own_len ho8
              have hcap9 := own_cap ho9
              have hmc : m ≤ c7 := by omega
              have HO8 := hide ho8
              have HO9 : Hid (Bs wr2 (.slice ao7 m c7) T ∧ NilOr (.slice ao7 m c7)) := ⟨by rw [HT.out.1]; exact bs_take (own_bs ho9) hmO, nil_take (own_nilOr ho9) hmO⟩
              have hlt1 : L.length + T.length ≤ 140737488355328 := by rw [HT.out.2.1]; omega
              have hlt2 : L.length + T.length + J.length ≤ 140737488355328 := by rw [HT.out.2.1, HT.out.2.2]; omega
              clear ho8 ho9 hd2 hb2 HRS HDz HBz
              go_wp2_with (at_builtin; refine wpList_append_at _ rfl _ _ rfl wa.heap.size _ _ _ rfl HO8.out _ T rfl HO9.out.1 HO9.out.2 hlt1 hbw2 ?_)
              intro u8a wf hof hgf haf
              have HDf := hide (Tr.grow (q := T) HD2.out hof hgf haf)
              have HBf := hide (HB2'.out.grown hgf hbw2 (fun k e => (HO8.out.lt k e).1))
              have hbwf : wa.heap.size ≤ wf.heap.size := HBf.out.size
              obtain ⟨ao8b, c8b, rfl⟩ := own_len hof
              have HOf := hide hof
              obtain ⟨_, _, _, _, ⟨hoJ, -, -⟩, -⟩ := HDf.out
              have HJf := hide (And.intro (own_bs hoJ) (own_nilOr hoJ))
              clear hof hgf haf hoJ HO8 HO9 HD2 HB2' hbw2
              go_wp2_with (at_builtin; refine wpList_append_at _ rfl _ _ rfl wa.heap.size _ _ _ rfl HOf.out _ J rfl HJf.out.1 HJf.out.2 hlt2 hbwf ?_)
              intro u8c wg hog hgg hag
              have HDg := hide (Tr.grow (q := J) HDf.out (by rw [List.length_append, Lib.byteCells_append, List.append_assoc]; exact hog) hgg hag).flip.nil.drop
              have HBg := hide (HBf.out.grown hgg hbwf (fun k e => (HOf.out.lt k e).1))
              obtain ⟨ao8d, c8d, rfl⟩ := own_len hog
              clear hog hgg hag HOf HJf HDf HBf
              go_wp2_with fail
              go_meet
              refine ⟨L ++ T ++ J, [], ?_, rfl, HBg, ?_⟩
              · rw [List.length_append, List.length_append, HT.out.2.1, HT.out.2.2, List.length_nil]
                omega
              · have e : L.length + m + J.length = (L ++ T ++ J).length := by rw [List.length_append, List.length_append, HT.out.2.1]
                have h := HDg.out
                rw [e] at h
                rw [List.append_nil]
                exact h
        obtain ⟨L', O', hLO', rfl, HBE8, HD8⟩ := hcut
        obtain ⟨w11, rfl⟩ : ∃ x, x = wc := ⟨_, rfl⟩
        obtain ⟨_, _, ⟨ho8, -, -⟩, ⟨ho9, -, -⟩, -⟩ := HD8.out
        obtain ⟨ao8', c8', rfl⟩ := own_len ho8
        obtain ⟨ao9', c9', rfl⟩ := own_len ho9
        have cv8 := conv_bs (own_bs ho8)
        have cv9 := conv_bs (own_bs ho9)
        have hcat : ByteArray.mk L'.toArray ++ ByteArray.mk O'.toArray = ByteArray.mk (L' ++ O').toArray := by
          apply ByteArray.ext
          simp
        have HST := hide (state_tr w11 HD8.out)
        obtain ⟨T, hT⟩ : ∃ T, T = L' ++ O' := ⟨_, rfl⟩
        rw [← hT] at hcat HST HD8
        have HTT := hide hT
        clear ho8 ho9 hT
        go_wp2_with fail
        refine HST.out.mono ?_
        rintro e w12 ⟨rfl, hd12, hb12⟩
        have HB12 := hide (HBE8.out.trans (hb12.mono HBE8.out.size))
        have HBY := hide (bytes_tr w12 hd12)
        clear cv8 cv9 hd12 hb12 HST HBE8 HD8
        go_wp2_with fail
        refine HBY.out.mono ?_
        rintro e w13 ⟨v13, rfl, hbs, hd13, hb13⟩
        have cv := conv_bs hbs.1
        have HB13 := hide (HB12.out.trans (hb13.mono HB12.out.size))
        have HD13 := hide hd13
        have z1 : ((ByteArray.mk (List.toArray T)).toList == (ByteArray.mk (List.toArray T)).toList) = true := by simp
        clear hbs hd13 hb13 HBY HB12
        go_wp2_with fail
        go_roundw
        case rel =>
          refine ⟨i + 1, L', O', by omega, by omega, by omega, by go_num, rfl, HB13, ?_⟩
          rw [← HTT.out]
          exact HD13
        case measure => simp [intOf]; omega
      · by_cases hl3 : i < N
        · have e1 : (i : Int) < (N : Int) := by omega
          have e2 : ¬ (i : Int) < 300 := by omega
          go_wp2_with fail
          go_meet
          exact HBE
        · have e1 : ¬ (i : Int) < (N : Int) := by omega
          go_wp2_with fail
          go_meet
          exact HBE
  go_wp2_with fail
  go_ret
  exact ⟨rfl, BE1.out.trans (hcut.out.mono BE1.out.size)⟩
end Go.Proofs.Ytmceoelafmlpjaa
