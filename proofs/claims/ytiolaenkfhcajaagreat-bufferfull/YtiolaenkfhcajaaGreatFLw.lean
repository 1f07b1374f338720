/-
  Buffer, full: the law's walk.
-/
import Derived.Test.YtiolaenkfhcajaaGreatFLp
import Derived.Test.YtiolaenkfhcajaaGreatFApl
import Derived.Test.YtiolaenkfhcajaaGreatFRow
import Derived.Deep.CutBlock
import Derived.Deep.DeepCutAuto
namespace Go.Proofs.YtiolaenkfhcajaaGreat
open Go.RowKit
set_option maxRecDepth 100000
set_option maxHeartbeats 8000000 in
theorem full_any (w : World) (az ai : Option Addr) (ns cs ni ci : Nat) (ss is : List Int) (hs : Wz w az ss) (hns : ss.length = ns) (hi : Wz w ai is) (hni : is.length = ni) (more : Int) (_hmo : -9223372036854775808 ≤ more ∧ more ≤ 9223372036854775807) : Calls Tryz.prog 3 #[.slice az ns cs, .slice ai ni ci, .int .i64 more] w fun e w' => e = .returned (.bool true) ∧ Below w.heap.size w w' := by
  have J1 := hide (shown_any w)
  have JW : Hid (∀ V (n : Nat), Mv w V (fun k => w.heap.size ≤ k) → Calls Tryz.prog 8 #[.slice az ns cs, .slice ai ni ci, .int .i64 (n : Int)] V fun e w' => e = .returned (.tuple #[.int .i64 (atN ss n), .int .i64 (atN is n)]) ∧ w' = V) := fun V n hV => who_any hs hns hi hni hV n
  have HIN : Hid (∀ n, InB (keyF ss is n)) := fun n => ⟨atN_in hs n, atN_in hi n⟩
  clear hs hi hns hni
  go_enter Tryz.func3, Tryz.ntmps3
  go_wp2_with fail
  refine J1.out.mono ?_
  rintro e w1 ⟨rfl, b1⟩
  have J2 := hide (bnew_any w1)
  have B1 := hide b1
  clear b1 J1
  go_wp2_with fail
  refine J2.out.mono ?_
  rintro e w2 ⟨gb, gx, rfl, hB, hl, b2⟩
  have HB := hide hB
  have HLB := hide hl
  have B2 := hide b2
  have J3 := hide (bks_any w2)
  clear hB hl b2 J2
  go_wp2_with fail
  refine J3.out.mono ?_
  rintro e w3 ⟨vk, rfl, hk, b3⟩
  have B3 := hide b3
  have J4 := hide (wnew_any (hk w3 (Below.refl _ _)) bks_may (fun _ => ([], [])))
  clear hk b3 J3
  go_wp2_with fail
  refine J4.out.mono ?_
  rintro e w4 ⟨gw, rfl, ⟨own, vkk, gp, gm, gt, ho, hx⟩, b4⟩
  have HX := hide hx
  have B4 := hide b4
  have BW4 : Hid (Below w.heap.size w w4) := below_on (below_on (below_on B1.out B2.out) B3.out) B4.out
  have KB : Hid (Bk w4.heap.size w4 gb gx (keyF ss is) []) := ⟨_, _, _, _, HB.out.later (below_on B3.out B4.out), fun k hk => by rcases hk with h | h; exact .inl h; exact .inr (.inl h), fun _ h => h.elim⟩
  have hgs : Hid ((w.heap.size ≤ gb ∧ w.heap.size ≤ gx) ∧ own gb = 0 ∧ own gx = 0) := by
    have s1 := B1.out.size
    have s3 := B3.out.size
    have a1 := HLB.out
    have a3 := HB.out.bs gb HB.out.sb
    have a4 := HB.out.bs gx HB.out.sm
    exact ⟨⟨by omega, by omega⟩, ho gb (by omega), ho gx (by omega)⟩
  clear hx b4 ho J4 HB HLB B1 B2 B3 B4
  go_upto_block 0 with fail
  go_cut [] (fun W => Hid (Bk w4.heap.size W gb gx (keyF ss is) (List.range 100000) ∧ Mv w4 W (fun j => j = gb ∨ j = gx ∨ w4.heap.size ≤ j)))
  case first =>
    go_wp2_with fail
    go_loopw [11] (fun v11 W => ∃ i : Nat, i ≤ 100000 ∧ v11 = .int .i64 (i : Int) ∧ Hid (Bk w4.heap.size W gb gx (keyF ss is) (List.range i) ∧ Mv w4 W (fun j => j = gb ∨ j = gx ∨ w4.heap.size ≤ j))) (fun v11 _ => 100000 - (intOf v11).toNat)
    case atStart => exact ⟨0, Nat.zero_le _, rfl, KB.out, Mv.refl _ _⟩
    case round =>
      obtain ⟨i, hi, rfl, HI⟩ := hrel
      by_cases hlt : i < 100000
      · have t1 : (i : Int) < 100000 := by omega
        have tw : IntKind.i64.wrap ((i : Int) + 1) = (i : Int) + 1 := by
          rw [IntKind.wrap_i64]
          omega
        obtain ⟨hb, hm⟩ := HI.out
        have mw : Mv w wr (fun k => w.heap.size ≤ k) := (Mv.of_below BW4.out _).trans hm (fun j _ hj => by have := hgs.out; have := BW4.out.size; rcases hj with rfl | rfl | h <;> omega)
        have JI := hide (JW.out wr i mw)
        have hib := HIN.out i
        obtain ⟨x, hx⟩ : ∃ x, x = atN ss i := ⟨_, rfl⟩
        obtain ⟨y, hy⟩ : ∃ y, y = atN is i := ⟨_, rfl⟩
        have ek : keyF ss is i = (x, y) := by rw [hx, hy]; rfl
        rw [ek] at hib
        rw [← hx, ← hy] at JI
        have JP : Hid (Calls Tryz.prog 9 #[.pointer (some ⟨gb, 0, none⟩), .int .i64 x, .agg #[.int .i64 y, .int .i64 1], .agg #[.int .i64 4, .int .i64 0, .int .i64 0, .int .i64 (i : Int), .slice none 0 0, .slice none 0 0]] wr fun e w' => e = .returned (.int .i64 0) ∧ Bk w4.heap.size w' gb gx (keyF ss is) (List.range (i + 1)) ∧ Mv wr w' (fun j => j = gb ∨ j = gx ∨ w4.heap.size ≤ j)) := by
          unfold Hid
          rw [List.range_succ]
          exact bput_row hb hm.2.2.2.1 (by rw [List.length_range]; exact hlt) i x y 1 ek.symm hib
        have HM := hide hm
        clear hb hm mw hib hx hy ek
        go_wp2_with fail
        refine JI.out.mono ?_
        rintro e w' ⟨rfl, hw'⟩
        obtain rfl : wr = w' := hw'.symm
        clear JI hw'
        go_wp2_with fail
        refine JP.out.mono ?_
        rintro e w5 ⟨rfl, k5, m5⟩
        have HX5 : Hid (Bk w4.heap.size w5 gb gx (keyF ss is) (List.range (i + 1)) ∧ Mv w4 w5 (fun j => j = gb ∨ j = gx ∨ w4.heap.size ≤ j)) := ⟨k5, HM.out.trans m5 (fun _ _ h => h)⟩
        clear k5 m5 JP HM HI
        go_wp2_with fail
        go_roundw
        case rel => exact ⟨i + 1, hlt, by go_num, HX5.out⟩
        case measure => simp [intOf]; omega
      · have t1 : ¬ (i : Int) < 100000 := by omega
        obtain rfl : i = 100000 := by omega
        go_wp2_with fail
        go_meet
        exact HI
  obtain ⟨h51, h52⟩ := hcut.out
  obtain ⟨w5, rfl⟩ : ∃ x, x = wc := ⟨_, rfl⟩
  have K5 := hide h51
  have MW5 : Hid (Mv w w5 (fun k => w.heap.size ≤ k)) := (Mv.of_below BW4.out _).trans h52 (fun j _ hj => by have := hgs.out; have := BW4.out.size; rcases hj with rfl | rfl | h <;> omega)
  have HX5 := hide (HX.out.frame (L := 0) (.inl rfl) h52 (fun k hk hj => .inr (by have := hgs.out; rcases hj with rfl | rfl | h; exact this.2.1; exact this.2.2; omega)))
  clear hcut h51 h52 KB HX
  go_upto_block 2 with fail
  go_cut [] (fun W => Hid (Below w5.heap.size w5 W))
  case first =>
    go_wp2_with fail
    go_loopw [14] (fun v14 W => ∃ i : Nat, i ≤ 3 ∧ v14 = .int .i64 (i : Int) ∧ Hid (Below w5.heap.size w5 W)) (fun v14 _ => 3 - (intOf v14).toNat)
    case atStart => exact ⟨0, Nat.zero_le _, rfl, Below.refl _ _⟩
    case round =>
      obtain ⟨i, hi, rfl, HI⟩ := hrel
      by_cases hlt : i < 3
      · have t1 : (i : Int) < 3 := by omega
        have tw : IntKind.i64.wrap ((i : Int) + 1) = (i : Int) + 1 := by
          rw [IntKind.wrap_i64]
          omega
        have JP : Hid (Calls Tryz.prog 9 #[.pointer (some ⟨gb, 0, none⟩), .int .i64 more, .agg #[.int .i64 more, .int .i64 0], .agg #[.int .i64 1, .int .i64 0, .int .i64 0, .int .i64 (-1), .slice none 0 0, .slice none 0 0]] wr fun e w' => e = .returned (.int .i64 40) ∧ Below wr.heap.size wr w') := by
          obtain ⟨S, U, n, f, hb, -, -⟩ := K5.out
          rw [List.length_range] at hb
          exact bput_full (hb.later HI.out) more more 0 1 0 0 (-1)
        go_wp2_with fail
        refine JP.out.mono ?_
        rintro e w6 ⟨rfl, b6⟩
        have BX : Hid (Below w5.heap.size w5 w6) := below_on HI.out b6
        clear b6 JP HI
        go_wp2_with fail
        go_roundw
        case rel => exact ⟨i + 1, hlt, by go_num, BX.out⟩
        case measure => simp [intOf]; omega
      · have t1 : ¬ (i : Int) < 3 := by omega
        go_wp2_with fail
        go_meet
        exact HI
  obtain ⟨w6, rfl⟩ : ∃ x, x = wc := ⟨_, rfl⟩
  have B6 : Hid (Below w5.heap.size w5 w6) := hcut
  have K6 : Hid (Bk w4.heap.size w6 gb gx (keyF ss is) (List.range 100000)) := K5.out.later B6.out
  have HX6 := hide (HX5.out.later B6.out)
  have MW6 : Hid (Mv w w6 (fun k => w.heap.size ≤ k)) := MW5.out.later B6.out
  clear hcut K5 HX5 MW5
  have JA : Hid (Calls Tryz.prog 10 #[.pointer (some ⟨gb, 0, none⟩), .pointer (some ⟨gw, 0, none⟩)] w6 fun e w' => e = .returned (.tuple #[.slice none 0 0, .int .i64 100000]) ∧ Below w6.heap.size w6 w') := by
    obtain ⟨S, U, n, f, hb, -, -⟩ := K6.out
    rw [List.length_range] at hb
    refine apply_full hb (Nat.le_refl _) (fun ss q1 q2 => ?_) (fun V k hV => ?_)
    · obtain ⟨t, k1, k2, -, -⟩ := all_told q1 q2
      exact ⟨t, k1, k2⟩
    · exact apply_remove 0 0 k 41 (fun V' hV' => remove_stale ((HX6.out.later hV).later hV') 0 0 k rfl)
  go_wp2_with fail
  refine JA.out.mono ?_
  rintro e w7 ⟨rfl, b7⟩
  have B7 := hide b7
  have JR := hide (rows_none (HX6.out.later b7))
  have JL := hide (fun V (hV : Below w7.heap.size w7 V) => ball_row2 (K6.out.later (below_on b7 hV)) (Nat.le_refl _) (by decide))
  clear b7 JA HX6
  go_wp2_with fail
  refine JR.out.mono ?_
  rintro e w8 ⟨rfl, b8⟩
  have B8 := hide b8
  have JM := hide (JL.out w8 b8)
  clear b8 JR JL
  go_wp2_with fail
  refine JM.out.mono ?_
  rintro e w9 ⟨gl, lc, t, rfl, ht, hc, b9⟩
  have HT := hide ht
  have HC := hide hc
  have MW9 : Hid (Mv w w9 (fun k => w.heap.size ≤ k)) := ((MW6.out.later B7.out).later B8.out).later b9
  clear ht hc b9 JM
  go_wp2_with fail
  go_loopw [18] (fun v18 W => ∃ i : Nat, i ≤ 100000 ∧ v18 = .int .i64 (i : Int) ∧ Hid (Below w9.heap.size w9 W)) (fun v18 _ => 100000 - (intOf v18).toNat)
  case atStart => exact ⟨0, Nat.zero_le _, rfl, Below.refl _ _⟩
  case round =>
    obtain ⟨i, hi, rfl, HI⟩ := hrel
    by_cases hlt : i < 100000
    · have t1 : (i : Int) < 100000 := by omega
      have tw : IntKind.i64.wrap ((i : Int) + 1) = (i : Int) + 1 := by
        rw [IntKind.wrap_i64]
        omega
      have hit : i < t.length := by have := HT.out.1; omega
      obtain ⟨q, hqe⟩ : ∃ q, q = t[i] := ⟨_, rfl⟩
      have hqn : q < 100000 := by rw [hqe]; exact HT.out.2.1 _ (List.getElem_mem hit)
      have a1 : ¬ (q : Int) < 0 := by omega
      have a2 : ¬ (100000 : Int) ≤ (q : Int) := by omega
      have HSL : Hid (∀ V, Below w9.heap.size w9 V → V.cell? ⟨gl, i * 6, none⟩ = some (.int .i64 4) ∧ V.cell? ⟨gl, i * 6 + 3, none⟩ = some (.int .i64 (q : Int))) := fun V hV => by
        obtain ⟨c0, c3⟩ := HC.out i hit
        rw [← hqe] at c3
        exact ⟨(Mv.of_below hV (fun _ => False)).cell c0 id, (Mv.of_below hV (fun _ => False)).cell c3 id⟩
      obtain ⟨l0, l3⟩ := HSL.out wr HI.out
      have HQE := hide hqe
      clear hqe
      by_cases h0 : i = 0
      · have hz : ((i : Int) == 0) = true := by simp [h0]
        have hi1 : i + 1 ≤ 100000 := hlt
        clear h0
        go_wp2_with fail
        go_roundw
        case rel => exact ⟨i + 1, hi1, by go_num, HI.out⟩
        case measure => simp [intOf]; omega
      · have hz : ((i : Int) == 0) = false := by simp [h0]
        obtain ⟨j, hj⟩ : ∃ j, i = j + 1 := ⟨i - 1, by omega⟩
        have tj : IntKind.i64.wrap ((i : Int) - 1) = (j : Int) := by
          rw [IntKind.wrap_i64]
          omega
        have hjt : j < t.length := by omega
        have hjn : j < 100000 := by omega
        have tj1 : (j : Int) < 100000 := by omega
        obtain ⟨p, hpe⟩ : ∃ p, p = t[j] := ⟨_, rfl⟩
        have hpq := List.pairwise_iff_getElem.1 HT.out.2.2 j i hjt hit (by omega)
        rw [← hpe, ← HQE.out] at hpq
        have HSJ : Hid (∀ V, Below w9.heap.size w9 V → V.cell? ⟨gl, j * 6 + 3, none⟩ = some (.int .i64 (p : Int))) := fun V hV => by
          obtain ⟨-, c3⟩ := HC.out j hjt
          rw [← hpe] at c3
          exact (Mv.of_below hV (fun _ => False)).cell c3 id
        have k3 := HSJ.out wr HI.out
        have mw : Mv w wr (fun k => w.heap.size ≤ k) := MW9.out.later HI.out
        have JI := hide (JW.out wr p mw)
        have JJ := hide (JW.out wr q mw)
        have hlt2 : atN ss p < atN ss q ∨ (atN ss p = atN ss q ∧ atN is p < atN is q) ∨ (atN ss p = atN ss q ∧ atN is p = atN is q ∧ p < q) := by
          unfold keyF ltT at hpq
          simp only [Prod.mk.injEq] at hpq
          omega
        have hdr : Below w9.heap.size w9 wr.drew := below_on HI.out (below_drew wr)
        have HDR := hide hdr
        have s0 : wr.drew.cell? ⟨gl, j * 6 + 3, none⟩ = some (.int .i64 (p : Int)) ∧ wr.drew.cell? ⟨gl, i * 6 + 3, none⟩ = some (.int .i64 (q : Int)) := ⟨HSJ.out _ hdr, (HSL.out _ hdr).2⟩
        clear hpq hpe hj mw hdr
        generalize atN ss p = pa at hlt2 JI
        generalize atN is p = pb at hlt2 JI
        generalize atN ss q = qa at hlt2 JJ
        generalize atN is q = qb at hlt2 JJ
        have HLT := hide hlt2
        clear hlt2
        go_wp2_with fail
        refine JI.out.mono ?_
        rintro e w' ⟨rfl, hw'⟩
        obtain rfl : wr = w' := hw'.symm
        clear JI hw'
        go_wp2_with fail
        refine JJ.out.mono ?_
        rintro e w' ⟨rfl, hw'⟩
        obtain rfl : wr = w' := hw'.symm
        clear JJ hw'
        go_upto_region 33 with fail
        rcases HLT.out with h1 | ⟨rfl, h2⟩ | ⟨rfl, rfl, h3⟩
        · have n1 : ¬ (qa : Int) < (pa : Int) := by omega
          have n2 : ((pa : Int) == (qa : Int)) = false := by
            simp
            omega
          refine wp_region_noPanic ?_
          refine wp_region_held_drew (S := (fun V => V.cell? ⟨gl, j * 6 + 3, none⟩ = some (.int .i64 (p : Int)) ∧ V.cell? ⟨gl, i * 6 + 3, none⟩ = some (.int .i64 (q : Int)))) (by kernel_rfl) (s0) (fun hHeld => ?_)
          refine' wpAnyH_take (i := 0) (oi := { dst := some 153, op := Go.Op.move (Go.Operand.tmp 19), type := 3, pos := "law.go:606", after := #[], guard := none }) (v := _) rfl (by kernel_rfl) (by kernel_rfl) (by kernel_rfl) (fun _ _ _ h => h) (Or.inl ⟨by rfl, ?hyr1_0⟩) (by assumption) ?rer1_0
          case hyr1_0 => (intro W hSw; (try dsimp only at hSw); go_simp; try with_reducible rfl)
          try simp only [Act.put, List.setIfInBounds_toArray, List.set_cons_zero, List.set_cons_succ]
          refine' wpAnyH_take (i := 1) (oi := { dst := some 154, op := Go.Op.move (Go.Operand.tmp 21), type := 3, pos := "law.go:606", after := #[], guard := none }) (v := _) rfl (by kernel_rfl) (by kernel_rfl) (by kernel_rfl) (fun _ _ _ h => h) (Or.inl ⟨by rfl, ?hyr1_1⟩) (by assumption) ?rer1_1
          case hyr1_1 => (intro W hSw; (try dsimp only at hSw); go_simp; try with_reducible rfl)
          try simp only [Act.put, List.setIfInBounds_toArray, List.set_cons_zero, List.set_cons_succ]
          refine' wpAnyH_take (i := 2) (oi := { dst := some 155, op := Go.Op.binOp Go.BinOp.gtr 3 (Go.Operand.tmp 153) (Go.Operand.tmp 154) 3, type := 4, pos := "law.go:606", after := #[{ on := 0, ground := Go.Ground.data }, { on := 1, ground := Go.Ground.data }], guard := none }) (v := _) rfl (by kernel_rfl) (by kernel_rfl) (by kernel_rfl) (fun _ _ _ h => h) (Or.inl ⟨by rfl, ?hyr1_2⟩) (by assumption) ?rer1_2
          case hyr1_2 => (intro W hSw; (try dsimp only at hSw); go_simp; try with_reducible rfl)
          try simp only [Act.put, List.setIfInBounds_toArray, List.set_cons_zero, List.set_cons_succ]
          refine' wpAnyH_take (i := 3) (oi := { dst := some 156, op := Go.Op.move (Go.Operand.tmp 155), type := 4, pos := "law.go:606", after := #[{ on := 2, ground := Go.Ground.data }], guard := none }) (v := _) rfl (by kernel_rfl) (by kernel_rfl) (by kernel_rfl) (fun _ _ _ h => h) (Or.inl ⟨by rfl, ?hyr1_3⟩) (by assumption) ?rer1_3
          case hyr1_3 => (intro W hSw; (try dsimp only at hSw); go_simp; try with_reducible rfl)
          try simp only [Act.put, List.setIfInBounds_toArray, List.set_cons_zero, List.set_cons_succ]
          refine' wpAnyH_take (i := 4) (oi := { dst := some 157, op := Go.Op.move (Go.Operand.tmp 19), type := 3, pos := "law.go:606", after := #[{ on := 3, ground := Go.Ground.guard }], guard := some (3, false) }) (v := _) rfl (by kernel_rfl) (by kernel_rfl) (by kernel_rfl) (fun _ _ _ h => h) (Or.inl ⟨by rfl, ?hyr1_4⟩) (by assumption) ?rer1_4
          case hyr1_4 => (intro W hSw; (try dsimp only at hSw); go_simp; try with_reducible rfl)
          try simp only [Act.put, List.setIfInBounds_toArray, List.set_cons_zero, List.set_cons_succ]
          refine' wpAnyH_take (i := 5) (oi := { dst := some 158, op := Go.Op.move (Go.Operand.tmp 21), type := 3, pos := "law.go:606", after := #[{ on := 3, ground := Go.Ground.guard }], guard := some (3, false) }) (v := _) rfl (by kernel_rfl) (by kernel_rfl) (by kernel_rfl) (fun _ _ _ h => h) (Or.inl ⟨by rfl, ?hyr1_5⟩) (by assumption) ?rer1_5
          case hyr1_5 => (intro W hSw; (try dsimp only at hSw); go_simp; try with_reducible rfl)
          try simp only [Act.put, List.setIfInBounds_toArray, List.set_cons_zero, List.set_cons_succ]
          refine' wpAnyH_take (i := 6) (oi := { dst := some 159, op := Go.Op.binOp Go.BinOp.eql 3 (Go.Operand.tmp 157) (Go.Operand.tmp 158) 3, type := 4, pos := "law.go:606", after := #[{ on := 4, ground := Go.Ground.data }, { on := 5, ground := Go.Ground.data }, { on := 3, ground := Go.Ground.guard }], guard := some (3, false) }) (v := _) rfl (by kernel_rfl) (by kernel_rfl) (by kernel_rfl) (fun _ _ _ h => h) (Or.inl ⟨by rfl, ?hyr1_6⟩) (by assumption) ?rer1_6
          case hyr1_6 => (intro W hSw; (try dsimp only at hSw); go_simp; try with_reducible rfl)
          try simp only [Act.put, List.setIfInBounds_toArray, List.set_cons_zero, List.set_cons_succ]
          refine' wpAnyH_take (i := 7) (oi := { dst := some 160, op := Go.Op.move (Go.Operand.tmp 159), type := 4, pos := "law.go:606", after := #[{ on := 6, ground := Go.Ground.data }, { on := 3, ground := Go.Ground.chain }, { on := 3, ground := Go.Ground.guard }], guard := some (3, false) }) (v := _) rfl (by kernel_rfl) (by kernel_rfl) (by kernel_rfl) (fun _ _ _ h => h) (Or.inl ⟨by rfl, ?hyr1_7⟩) (by assumption) ?rer1_7
          case hyr1_7 => (intro W hSw; (try dsimp only at hSw); go_simp; try with_reducible rfl)
          try simp only [Act.put, List.setIfInBounds_toArray, List.set_cons_zero, List.set_cons_succ]
          refine wpAnyH_take (i := 8) (oi := { dst := some 161, op := Go.Op.move (Go.Operand.tmp 20), type := 3, pos := "law.go:606", after := #[{ on := 7, ground := Go.Ground.guard }], guard := some (7, true) }) (v := undef) rfl (by kernel_rfl) (by kernel_rfl) (by kernel_rfl) (fun _ _ _ h => h) (Or.inr ⟨by rfl, rfl⟩) (by assumption) ?_
          try simp only [Act.put, List.setIfInBounds_toArray, List.set_cons_zero, List.set_cons_succ]
          refine wpAnyH_take (i := 9) (oi := { dst := some 162, op := Go.Op.move (Go.Operand.tmp 22), type := 3, pos := "law.go:606", after := #[{ on := 7, ground := Go.Ground.guard }], guard := some (7, true) }) (v := undef) rfl (by kernel_rfl) (by kernel_rfl) (by kernel_rfl) (fun _ _ _ h => h) (Or.inr ⟨by rfl, rfl⟩) (by assumption) ?_
          try simp only [Act.put, List.setIfInBounds_toArray, List.set_cons_zero, List.set_cons_succ]
          refine wpAnyH_take (i := 10) (oi := { dst := some 163, op := Go.Op.binOp Go.BinOp.gtr 3 (Go.Operand.tmp 161) (Go.Operand.tmp 162) 3, type := 4, pos := "law.go:606", after := #[{ on := 8, ground := Go.Ground.data }, { on := 9, ground := Go.Ground.data }, { on := 7, ground := Go.Ground.guard }], guard := some (7, true) }) (v := undef) rfl (by kernel_rfl) (by kernel_rfl) (by kernel_rfl) (fun _ _ _ h => h) (Or.inr ⟨by rfl, rfl⟩) (by assumption) ?_
          try simp only [Act.put, List.setIfInBounds_toArray, List.set_cons_zero, List.set_cons_succ]
          refine' wpAnyH_take (i := 11) (oi := { dst := some 164, op := Go.Op.pick (Go.Operand.tmp 160) (Go.Operand.tmp 163) (Go.Operand.const (Go.Value.bool false)), type := 4, pos := "law.go:606", after := #[{ on := 7, ground := Go.Ground.data }, { on := 10, ground := Go.Ground.data }, { on := 3, ground := Go.Ground.guard }], guard := some (3, false) }) (v := _) rfl (by kernel_rfl) (by kernel_rfl) (by kernel_rfl) (fun _ _ _ h => h) (Or.inl ⟨by rfl, ?hyr1_11⟩) (by assumption) ?rer1_11
          case hyr1_11 => (intro W hSw; (try dsimp only at hSw); go_simp; try with_reducible rfl)
          try simp only [Act.put, List.setIfInBounds_toArray, List.set_cons_zero, List.set_cons_succ]
          refine' wpAnyH_take (i := 12) (oi := { dst := some 165, op := Go.Op.pick (Go.Operand.tmp 156) (Go.Operand.const (Go.Value.bool true)) (Go.Operand.tmp 164), type := 4, pos := "law.go:606", after := #[{ on := 3, ground := Go.Ground.data }, { on := 11, ground := Go.Ground.data }], guard := none }) (v := _) rfl (by kernel_rfl) (by kernel_rfl) (by kernel_rfl) (fun _ _ _ h => h) (Or.inl ⟨by rfl, ?hyr1_12⟩) (by assumption) ?rer1_12
          case hyr1_12 => (intro W hSw; (try dsimp only at hSw); go_simp; try with_reducible rfl)
          try simp only [Act.put, List.setIfInBounds_toArray, List.set_cons_zero, List.set_cons_succ]
          refine' wpAnyH_take (i := 13) (oi := { dst := some 166, op := Go.Op.move (Go.Operand.tmp 165), type := 4, pos := "law.go:606", after := #[{ on := 12, ground := Go.Ground.data }, { on := 7, ground := Go.Ground.chain }], guard := none }) (v := _) rfl (by kernel_rfl) (by kernel_rfl) (by kernel_rfl) (fun _ _ _ h => h) (Or.inl ⟨by rfl, ?hyr1_13⟩) (by assumption) ?rer1_13
          case hyr1_13 => (intro W hSw; (try dsimp only at hSw); go_simp; try with_reducible rfl)
          try simp only [Act.put, List.setIfInBounds_toArray, List.set_cons_zero, List.set_cons_succ]
          refine' wpAnyH_take (i := 14) (oi := { dst := some 167, op := Go.Op.move (Go.Operand.tmp 19), type := 3, pos := "law.go:606", after := #[{ on := 13, ground := Go.Ground.guard }], guard := some (13, false) }) (v := _) rfl (by kernel_rfl) (by kernel_rfl) (by kernel_rfl) (fun _ _ _ h => h) (Or.inl ⟨by rfl, ?hyr1_14⟩) (by assumption) ?rer1_14
          case hyr1_14 => (intro W hSw; (try dsimp only at hSw); go_simp; try with_reducible rfl)
          try simp only [Act.put, List.setIfInBounds_toArray, List.set_cons_zero, List.set_cons_succ]
          refine' wpAnyH_take (i := 15) (oi := { dst := some 168, op := Go.Op.move (Go.Operand.tmp 21), type := 3, pos := "law.go:606", after := #[{ on := 13, ground := Go.Ground.guard }], guard := some (13, false) }) (v := _) rfl (by kernel_rfl) (by kernel_rfl) (by kernel_rfl) (fun _ _ _ h => h) (Or.inl ⟨by rfl, ?hyr1_15⟩) (by assumption) ?rer1_15
          case hyr1_15 => (intro W hSw; (try dsimp only at hSw); go_simp; try with_reducible rfl)
          try simp only [Act.put, List.setIfInBounds_toArray, List.set_cons_zero, List.set_cons_succ]
          refine' wpAnyH_take (i := 16) (oi := { dst := some 169, op := Go.Op.binOp Go.BinOp.eql 3 (Go.Operand.tmp 167) (Go.Operand.tmp 168) 3, type := 4, pos := "law.go:606", after := #[{ on := 14, ground := Go.Ground.data }, { on := 15, ground := Go.Ground.data }, { on := 13, ground := Go.Ground.guard }], guard := some (13, false) }) (v := _) rfl (by kernel_rfl) (by kernel_rfl) (by kernel_rfl) (fun _ _ _ h => h) (Or.inl ⟨by rfl, ?hyr1_16⟩) (by assumption) ?rer1_16
          case hyr1_16 => (intro W hSw; (try dsimp only at hSw); go_simp; try with_reducible rfl)
          try simp only [Act.put, List.setIfInBounds_toArray, List.set_cons_zero, List.set_cons_succ]
          refine' wpAnyH_take (i := 17) (oi := { dst := some 170, op := Go.Op.move (Go.Operand.tmp 169), type := 4, pos := "law.go:606", after := #[{ on := 16, ground := Go.Ground.data }, { on := 13, ground := Go.Ground.chain }, { on := 13, ground := Go.Ground.guard }], guard := some (13, false) }) (v := _) rfl (by kernel_rfl) (by kernel_rfl) (by kernel_rfl) (fun _ _ _ h => h) (Or.inl ⟨by rfl, ?hyr1_17⟩) (by assumption) ?rer1_17
          case hyr1_17 => (intro W hSw; (try dsimp only at hSw); go_simp; try with_reducible rfl)
          try simp only [Act.put, List.setIfInBounds_toArray, List.set_cons_zero, List.set_cons_succ]
          refine wpAnyH_take (i := 18) (oi := { dst := some 171, op := Go.Op.move (Go.Operand.tmp 20), type := 3, pos := "law.go:606", after := #[{ on := 17, ground := Go.Ground.guard }], guard := some (17, true) }) (v := undef) rfl (by kernel_rfl) (by kernel_rfl) (by kernel_rfl) (fun _ _ _ h => h) (Or.inr ⟨by rfl, rfl⟩) (by assumption) ?_
          try simp only [Act.put, List.setIfInBounds_toArray, List.set_cons_zero, List.set_cons_succ]
          refine wpAnyH_take (i := 19) (oi := { dst := some 172, op := Go.Op.move (Go.Operand.tmp 22), type := 3, pos := "law.go:606", after := #[{ on := 17, ground := Go.Ground.guard }], guard := some (17, true) }) (v := undef) rfl (by kernel_rfl) (by kernel_rfl) (by kernel_rfl) (fun _ _ _ h => h) (Or.inr ⟨by rfl, rfl⟩) (by assumption) ?_
          try simp only [Act.put, List.setIfInBounds_toArray, List.set_cons_zero, List.set_cons_succ]
          refine wpAnyH_take (i := 20) (oi := { dst := some 173, op := Go.Op.binOp Go.BinOp.eql 3 (Go.Operand.tmp 171) (Go.Operand.tmp 172) 3, type := 4, pos := "law.go:606", after := #[{ on := 18, ground := Go.Ground.data }, { on := 19, ground := Go.Ground.data }, { on := 17, ground := Go.Ground.guard }], guard := some (17, true) }) (v := undef) rfl (by kernel_rfl) (by kernel_rfl) (by kernel_rfl) (fun _ _ _ h => h) (Or.inr ⟨by rfl, rfl⟩) (by assumption) ?_
          try simp only [Act.put, List.setIfInBounds_toArray, List.set_cons_zero, List.set_cons_succ]
          refine' wpAnyH_take (i := 21) (oi := { dst := some 174, op := Go.Op.pick (Go.Operand.tmp 170) (Go.Operand.tmp 173) (Go.Operand.const (Go.Value.bool false)), type := 4, pos := "law.go:606", after := #[{ on := 17, ground := Go.Ground.data }, { on := 20, ground := Go.Ground.data }, { on := 13, ground := Go.Ground.guard }], guard := some (13, false) }) (v := _) rfl (by kernel_rfl) (by kernel_rfl) (by kernel_rfl) (fun _ _ _ h => h) (Or.inl ⟨by rfl, ?hyr1_21⟩) (by assumption) ?rer1_21
          case hyr1_21 => (intro W hSw; (try dsimp only at hSw); go_simp; try with_reducible rfl)
          try simp only [Act.put, List.setIfInBounds_toArray, List.set_cons_zero, List.set_cons_succ]
          refine' wpAnyH_take (i := 22) (oi := { dst := some 175, op := Go.Op.move (Go.Operand.tmp 174), type := 4, pos := "law.go:606", after := #[{ on := 21, ground := Go.Ground.data }, { on := 17, ground := Go.Ground.chain }, { on := 13, ground := Go.Ground.guard }], guard := some (13, false) }) (v := _) rfl (by kernel_rfl) (by kernel_rfl) (by kernel_rfl) (fun _ _ _ h => h) (Or.inl ⟨by rfl, ?hyr1_22⟩) (by assumption) ?rer1_22
          case hyr1_22 => (intro W hSw; (try dsimp only at hSw); go_simp; try with_reducible rfl)
          try simp only [Act.put, List.setIfInBounds_toArray, List.set_cons_zero, List.set_cons_succ]
          refine wpAnyH_take (i := 23) (oi := { dst := some 176, op := Go.Op.move (Go.Operand.tmp 17), type := 46, pos := "law.go:606", after := #[{ on := 22, ground := Go.Ground.guard }], guard := some (22, true) }) (v := undef) rfl (by kernel_rfl) (by kernel_rfl) (by kernel_rfl) (fun _ _ _ h => h) (Or.inr ⟨by rfl, rfl⟩) (by assumption) ?_
          try simp only [Act.put, List.setIfInBounds_toArray, List.set_cons_zero, List.set_cons_succ]
          refine wpAnyH_take (i := 24) (oi := { dst := some 177, op := Go.Op.move (Go.Operand.tmp 18), type := 3, pos := "law.go:606", after := #[{ on := 22, ground := Go.Ground.guard }], guard := some (22, true) }) (v := undef) rfl (by kernel_rfl) (by kernel_rfl) (by kernel_rfl) (fun _ _ _ h => h) (Or.inr ⟨by rfl, rfl⟩) (by assumption) ?_
          try simp only [Act.put, List.setIfInBounds_toArray, List.set_cons_zero, List.set_cons_succ]
          refine wpAnyH_take (i := 25) (oi := { dst := some 178, op := Go.Op.binOp Go.BinOp.sub 3 (Go.Operand.tmp 177) (Go.Operand.const (Go.Value.int Go.IntKind.i64 1)) 3, type := 3, pos := "law.go:606", after := #[{ on := 24, ground := Go.Ground.data }, { on := 22, ground := Go.Ground.guard }], guard := some (22, true) }) (v := undef) rfl (by kernel_rfl) (by kernel_rfl) (by kernel_rfl) (fun _ _ _ h => h) (Or.inr ⟨by rfl, rfl⟩) (by assumption) ?_
          try simp only [Act.put, List.setIfInBounds_toArray, List.set_cons_zero, List.set_cons_succ]
          refine wpAnyH_take (i := 26) (oi := { dst := some 179, op := Go.Op.indexAddr 46 (Go.Operand.tmp 176) (Go.Operand.tmp 178), type := 0, pos := "law.go:606", after := #[{ on := 23, ground := Go.Ground.data }, { on := 25, ground := Go.Ground.data }, { on := 22, ground := Go.Ground.guard }], guard := some (22, true) }) (v := undef) rfl (by kernel_rfl) (by kernel_rfl) (by kernel_rfl) (fun _ _ _ h => h) (Or.inr ⟨by rfl, rfl⟩) (by assumption) ?_
          try simp only [Act.put, List.setIfInBounds_toArray, List.set_cons_zero, List.set_cons_succ]
          refine wpAnyH_take (i := 27) (oi := { dst := some 180, op := Go.Op.fieldAddr 40 (Go.Operand.tmp 179) 2, type := 0, pos := "law.go:606", after := #[{ on := 26, ground := Go.Ground.data }, { on := 22, ground := Go.Ground.guard }], guard := some (22, true) }) (v := undef) rfl (by kernel_rfl) (by kernel_rfl) (by kernel_rfl) (fun _ _ _ h => h) (Or.inr ⟨by rfl, rfl⟩) (by assumption) ?_
          try simp only [Act.put, List.setIfInBounds_toArray, List.set_cons_zero, List.set_cons_succ]
          refine wpAnyH_take (i := 28) (oi := { dst := some 181, op := Go.Op.load 3 (Go.Operand.tmp 180), type := 3, pos := "law.go:606", after := #[{ on := 27, ground := Go.Ground.data }, { on := 22, ground := Go.Ground.guard }], guard := some (22, true) }) (v := undef) rfl (by kernel_rfl) (by kernel_rfl) (by kernel_rfl) (fun _ _ _ h => h) (Or.inr ⟨by rfl, rfl⟩) (by assumption) ?_
          try simp only [Act.put, List.setIfInBounds_toArray, List.set_cons_zero, List.set_cons_succ]
          refine wpAnyH_take (i := 29) (oi := { dst := some 182, op := Go.Op.move (Go.Operand.tmp 17), type := 46, pos := "law.go:606", after := #[{ on := 22, ground := Go.Ground.guard }], guard := some (22, true) }) (v := undef) rfl (by kernel_rfl) (by kernel_rfl) (by kernel_rfl) (fun _ _ _ h => h) (Or.inr ⟨by rfl, rfl⟩) (by assumption) ?_
          try simp only [Act.put, List.setIfInBounds_toArray, List.set_cons_zero, List.set_cons_succ]
          refine wpAnyH_take (i := 30) (oi := { dst := some 183, op := Go.Op.move (Go.Operand.tmp 18), type := 3, pos := "law.go:606", after := #[{ on := 22, ground := Go.Ground.guard }], guard := some (22, true) }) (v := undef) rfl (by kernel_rfl) (by kernel_rfl) (by kernel_rfl) (fun _ _ _ h => h) (Or.inr ⟨by rfl, rfl⟩) (by assumption) ?_
          try simp only [Act.put, List.setIfInBounds_toArray, List.set_cons_zero, List.set_cons_succ]
          refine wpAnyH_take (i := 31) (oi := { dst := some 184, op := Go.Op.indexAddr 46 (Go.Operand.tmp 182) (Go.Operand.tmp 183), type := 0, pos := "law.go:606", after := #[{ on := 29, ground := Go.Ground.data }, { on := 30, ground := Go.Ground.data }, { on := 22, ground := Go.Ground.guard }], guard := some (22, true) }) (v := undef) rfl (by kernel_rfl) (by kernel_rfl) (by kernel_rfl) (fun _ _ _ h => h) (Or.inr ⟨by rfl, rfl⟩) (by assumption) ?_
          try simp only [Act.put, List.setIfInBounds_toArray, List.set_cons_zero, List.set_cons_succ]
          refine wpAnyH_take (i := 32) (oi := { dst := some 185, op := Go.Op.fieldAddr 40 (Go.Operand.tmp 184) 2, type := 0, pos := "law.go:606", after := #[{ on := 31, ground := Go.Ground.data }, { on := 22, ground := Go.Ground.guard }], guard := some (22, true) }) (v := undef) rfl (by kernel_rfl) (by kernel_rfl) (by kernel_rfl) (fun _ _ _ h => h) (Or.inr ⟨by rfl, rfl⟩) (by assumption) ?_
          try simp only [Act.put, List.setIfInBounds_toArray, List.set_cons_zero, List.set_cons_succ]
          refine wpAnyH_take (i := 33) (oi := { dst := some 186, op := Go.Op.load 3 (Go.Operand.tmp 185), type := 3, pos := "law.go:606", after := #[{ on := 32, ground := Go.Ground.data }, { on := 22, ground := Go.Ground.guard }], guard := some (22, true) }) (v := undef) rfl (by kernel_rfl) (by kernel_rfl) (by kernel_rfl) (fun _ _ _ h => h) (Or.inr ⟨by rfl, rfl⟩) (by assumption) ?_
          try simp only [Act.put, List.setIfInBounds_toArray, List.set_cons_zero, List.set_cons_succ]
          refine wpAnyH_take (i := 34) (oi := { dst := some 187, op := Go.Op.binOp Go.BinOp.geq 3 (Go.Operand.tmp 181) (Go.Operand.tmp 186) 3, type := 4, pos := "law.go:606", after := #[{ on := 28, ground := Go.Ground.data }, { on := 33, ground := Go.Ground.data }, { on := 22, ground := Go.Ground.guard }], guard := some (22, true) }) (v := undef) rfl (by kernel_rfl) (by kernel_rfl) (by kernel_rfl) (fun _ _ _ h => h) (Or.inr ⟨by rfl, rfl⟩) (by assumption) ?_
          try simp only [Act.put, List.setIfInBounds_toArray, List.set_cons_zero, List.set_cons_succ]
          refine' wpAnyH_take (i := 35) (oi := { dst := some 188, op := Go.Op.pick (Go.Operand.tmp 175) (Go.Operand.tmp 187) (Go.Operand.const (Go.Value.bool false)), type := 4, pos := "law.go:606", after := #[{ on := 22, ground := Go.Ground.data }, { on := 34, ground := Go.Ground.data }, { on := 13, ground := Go.Ground.guard }], guard := some (13, false) }) (v := _) rfl (by kernel_rfl) (by kernel_rfl) (by kernel_rfl) (fun _ _ _ h => h) (Or.inl ⟨by rfl, ?hyr1_35⟩) (by assumption) ?rer1_35
          case hyr1_35 => (intro W hSw; (try dsimp only at hSw); go_simp; try with_reducible rfl)
          try simp only [Act.put, List.setIfInBounds_toArray, List.set_cons_zero, List.set_cons_succ]
          refine' wpAnyH_take (i := 36) (oi := { dst := some 189, op := Go.Op.pick (Go.Operand.tmp 166) (Go.Operand.const (Go.Value.bool true)) (Go.Operand.tmp 188), type := 4, pos := "law.go:606", after := #[{ on := 13, ground := Go.Ground.data }, { on := 35, ground := Go.Ground.data }], guard := none }) (v := _) rfl (by kernel_rfl) (by kernel_rfl) (by kernel_rfl) (fun _ _ _ h => h) (Or.inl ⟨by rfl, ?hyr1_36⟩) (by assumption) ?rer1_36
          case hyr1_36 => (intro W hSw; (try dsimp only at hSw); go_simp; try with_reducible rfl)
          try simp only [Act.put, List.setIfInBounds_toArray, List.set_cons_zero, List.set_cons_succ]
          refine wpAnyH_done (by kernel_rfl) ?_ _
          refine NoPanic.normal ?_
          rename_i hK9
          refine hK9 _ _ ?_
          clear s0 n1 n2
          go_wp2_with fail
          go_roundw
          case rel => exact ⟨i + 1, hlt, by go_num, HDR.out⟩
          case measure => simp [intOf]; omega
        · have n1 : ¬ (qb : Int) < (pb : Int) := by omega
          have n2 : ((pb : Int) == (qb : Int)) = false := by
            simp
            omega
          refine wp_region_noPanic ?_
          refine wp_region_held_drew (S := (fun V => V.cell? ⟨gl, j * 6 + 3, none⟩ = some (.int .i64 (p : Int)) ∧ V.cell? ⟨gl, i * 6 + 3, none⟩ = some (.int .i64 (q : Int)))) (by kernel_rfl) (s0) (fun hHeld => ?_)
          refine' wpAnyH_take (i := 0) (oi := { dst := some 153, op := Go.Op.move (Go.Operand.tmp 19), type := 3, pos := "law.go:606", after := #[], guard := none }) (v := _) rfl (by kernel_rfl) (by kernel_rfl) (by kernel_rfl) (fun _ _ _ h => h) (Or.inl ⟨by rfl, ?hyr2_0⟩) (by assumption) ?rer2_0
          case hyr2_0 => (intro W hSw; (try dsimp only at hSw); go_simp; try with_reducible rfl)
          try simp only [Act.put, List.setIfInBounds_toArray, List.set_cons_zero, List.set_cons_succ]
          refine' wpAnyH_take (i := 1) (oi := { dst := some 154, op := Go.Op.move (Go.Operand.tmp 21), type := 3, pos := "law.go:606", after := #[], guard := none }) (v := _) rfl (by kernel_rfl) (by kernel_rfl) (by kernel_rfl) (fun _ _ _ h => h) (Or.inl ⟨by rfl, ?hyr2_1⟩) (by assumption) ?rer2_1
          case hyr2_1 => (intro W hSw; (try dsimp only at hSw); go_simp; try with_reducible rfl)
          try simp only [Act.put, List.setIfInBounds_toArray, List.set_cons_zero, List.set_cons_succ]
          refine' wpAnyH_take (i := 2) (oi := { dst := some 155, op := Go.Op.binOp Go.BinOp.gtr 3 (Go.Operand.tmp 153) (Go.Operand.tmp 154) 3, type := 4, pos := "law.go:606", after := #[{ on := 0, ground := Go.Ground.data }, { on := 1, ground := Go.Ground.data }], guard := none }) (v := _) rfl (by kernel_rfl) (by kernel_rfl) (by kernel_rfl) (fun _ _ _ h => h) (Or.inl ⟨by rfl, ?hyr2_2⟩) (by assumption) ?rer2_2
          case hyr2_2 => (intro W hSw; (try dsimp only at hSw); go_simp; try with_reducible rfl)
          try simp only [Act.put, List.setIfInBounds_toArray, List.set_cons_zero, List.set_cons_succ]
          refine' wpAnyH_take (i := 3) (oi := { dst := some 156, op := Go.Op.move (Go.Operand.tmp 155), type := 4, pos := "law.go:606", after := #[{ on := 2, ground := Go.Ground.data }], guard := none }) (v := _) rfl (by kernel_rfl) (by kernel_rfl) (by kernel_rfl) (fun _ _ _ h => h) (Or.inl ⟨by rfl, ?hyr2_3⟩) (by assumption) ?rer2_3
          case hyr2_3 => (intro W hSw; (try dsimp only at hSw); go_simp; try with_reducible rfl)
          try simp only [Act.put, List.setIfInBounds_toArray, List.set_cons_zero, List.set_cons_succ]
          refine' wpAnyH_take (i := 4) (oi := { dst := some 157, op := Go.Op.move (Go.Operand.tmp 19), type := 3, pos := "law.go:606", after := #[{ on := 3, ground := Go.Ground.guard }], guard := some (3, false) }) (v := _) rfl (by kernel_rfl) (by kernel_rfl) (by kernel_rfl) (fun _ _ _ h => h) (Or.inl ⟨by rfl, ?hyr2_4⟩) (by assumption) ?rer2_4
          case hyr2_4 => (intro W hSw; (try dsimp only at hSw); go_simp; try with_reducible rfl)
          try simp only [Act.put, List.setIfInBounds_toArray, List.set_cons_zero, List.set_cons_succ]
          refine' wpAnyH_take (i := 5) (oi := { dst := some 158, op := Go.Op.move (Go.Operand.tmp 21), type := 3, pos := "law.go:606", after := #[{ on := 3, ground := Go.Ground.guard }], guard := some (3, false) }) (v := _) rfl (by kernel_rfl) (by kernel_rfl) (by kernel_rfl) (fun _ _ _ h => h) (Or.inl ⟨by rfl, ?hyr2_5⟩) (by assumption) ?rer2_5
          case hyr2_5 => (intro W hSw; (try dsimp only at hSw); go_simp; try with_reducible rfl)
          try simp only [Act.put, List.setIfInBounds_toArray, List.set_cons_zero, List.set_cons_succ]
          refine' wpAnyH_take (i := 6) (oi := { dst := some 159, op := Go.Op.binOp Go.BinOp.eql 3 (Go.Operand.tmp 157) (Go.Operand.tmp 158) 3, type := 4, pos := "law.go:606", after := #[{ on := 4, ground := Go.Ground.data }, { on := 5, ground := Go.Ground.data }, { on := 3, ground := Go.Ground.guard }], guard := some (3, false) }) (v := _) rfl (by kernel_rfl) (by kernel_rfl) (by kernel_rfl) (fun _ _ _ h => h) (Or.inl ⟨by rfl, ?hyr2_6⟩) (by assumption) ?rer2_6
          case hyr2_6 => (intro W hSw; (try dsimp only at hSw); go_simp; try with_reducible rfl)
          try simp only [Act.put, List.setIfInBounds_toArray, List.set_cons_zero, List.set_cons_succ]
          refine' wpAnyH_take (i := 7) (oi := { dst := some 160, op := Go.Op.move (Go.Operand.tmp 159), type := 4, pos := "law.go:606", after := #[{ on := 6, ground := Go.Ground.data }, { on := 3, ground := Go.Ground.chain }, { on := 3, ground := Go.Ground.guard }], guard := some (3, false) }) (v := _) rfl (by kernel_rfl) (by kernel_rfl) (by kernel_rfl) (fun _ _ _ h => h) (Or.inl ⟨by rfl, ?hyr2_7⟩) (by assumption) ?rer2_7
          case hyr2_7 => (intro W hSw; (try dsimp only at hSw); go_simp; try with_reducible rfl)
          try simp only [Act.put, List.setIfInBounds_toArray, List.set_cons_zero, List.set_cons_succ]
          refine' wpAnyH_take (i := 8) (oi := { dst := some 161, op := Go.Op.move (Go.Operand.tmp 20), type := 3, pos := "law.go:606", after := #[{ on := 7, ground := Go.Ground.guard }], guard := some (7, true) }) (v := _) rfl (by kernel_rfl) (by kernel_rfl) (by kernel_rfl) (fun _ _ _ h => h) (Or.inl ⟨by rfl, ?hyr2_8⟩) (by assumption) ?rer2_8
          case hyr2_8 => (intro W hSw; (try dsimp only at hSw); go_simp; try with_reducible rfl)
          try simp only [Act.put, List.setIfInBounds_toArray, List.set_cons_zero, List.set_cons_succ]
          refine' wpAnyH_take (i := 9) (oi := { dst := some 162, op := Go.Op.move (Go.Operand.tmp 22), type := 3, pos := "law.go:606", after := #[{ on := 7, ground := Go.Ground.guard }], guard := some (7, true) }) (v := _) rfl (by kernel_rfl) (by kernel_rfl) (by kernel_rfl) (fun _ _ _ h => h) (Or.inl ⟨by rfl, ?hyr2_9⟩) (by assumption) ?rer2_9
          case hyr2_9 => (intro W hSw; (try dsimp only at hSw); go_simp; try with_reducible rfl)
          try simp only [Act.put, List.setIfInBounds_toArray, List.set_cons_zero, List.set_cons_succ]
          refine' wpAnyH_take (i := 10) (oi := { dst := some 163, op := Go.Op.binOp Go.BinOp.gtr 3 (Go.Operand.tmp 161) (Go.Operand.tmp 162) 3, type := 4, pos := "law.go:606", after := #[{ on := 8, ground := Go.Ground.data }, { on := 9, ground := Go.Ground.data }, { on := 7, ground := Go.Ground.guard }], guard := some (7, true) }) (v := _) rfl (by kernel_rfl) (by kernel_rfl) (by kernel_rfl) (fun _ _ _ h => h) (Or.inl ⟨by rfl, ?hyr2_10⟩) (by assumption) ?rer2_10
          case hyr2_10 => (intro W hSw; (try dsimp only at hSw); go_simp; try with_reducible rfl)
          try simp only [Act.put, List.setIfInBounds_toArray, List.set_cons_zero, List.set_cons_succ]
          refine' wpAnyH_take (i := 11) (oi := { dst := some 164, op := Go.Op.pick (Go.Operand.tmp 160) (Go.Operand.tmp 163) (Go.Operand.const (Go.Value.bool false)), type := 4, pos := "law.go:606", after := #[{ on := 7, ground := Go.Ground.data }, { on := 10, ground := Go.Ground.data }, { on := 3, ground := Go.Ground.guard }], guard := some (3, false) }) (v := _) rfl (by kernel_rfl) (by kernel_rfl) (by kernel_rfl) (fun _ _ _ h => h) (Or.inl ⟨by rfl, ?hyr2_11⟩) (by assumption) ?rer2_11
          case hyr2_11 => (intro W hSw; (try dsimp only at hSw); go_simp; try with_reducible rfl)
          try simp only [Act.put, List.setIfInBounds_toArray, List.set_cons_zero, List.set_cons_succ]
          refine' wpAnyH_take (i := 12) (oi := { dst := some 165, op := Go.Op.pick (Go.Operand.tmp 156) (Go.Operand.const (Go.Value.bool true)) (Go.Operand.tmp 164), type := 4, pos := "law.go:606", after := #[{ on := 3, ground := Go.Ground.data }, { on := 11, ground := Go.Ground.data }], guard := none }) (v := _) rfl (by kernel_rfl) (by kernel_rfl) (by kernel_rfl) (fun _ _ _ h => h) (Or.inl ⟨by rfl, ?hyr2_12⟩) (by assumption) ?rer2_12
          case hyr2_12 => (intro W hSw; (try dsimp only at hSw); go_simp; try with_reducible rfl)
          try simp only [Act.put, List.setIfInBounds_toArray, List.set_cons_zero, List.set_cons_succ]
          refine' wpAnyH_take (i := 13) (oi := { dst := some 166, op := Go.Op.move (Go.Operand.tmp 165), type := 4, pos := "law.go:606", after := #[{ on := 12, ground := Go.Ground.data }, { on := 7, ground := Go.Ground.chain }], guard := none }) (v := _) rfl (by kernel_rfl) (by kernel_rfl) (by kernel_rfl) (fun _ _ _ h => h) (Or.inl ⟨by rfl, ?hyr2_13⟩) (by assumption) ?rer2_13
          case hyr2_13 => (intro W hSw; (try dsimp only at hSw); go_simp; try with_reducible rfl)
          try simp only [Act.put, List.setIfInBounds_toArray, List.set_cons_zero, List.set_cons_succ]
          refine' wpAnyH_take (i := 14) (oi := { dst := some 167, op := Go.Op.move (Go.Operand.tmp 19), type := 3, pos := "law.go:606", after := #[{ on := 13, ground := Go.Ground.guard }], guard := some (13, false) }) (v := _) rfl (by kernel_rfl) (by kernel_rfl) (by kernel_rfl) (fun _ _ _ h => h) (Or.inl ⟨by rfl, ?hyr2_14⟩) (by assumption) ?rer2_14
          case hyr2_14 => (intro W hSw; (try dsimp only at hSw); go_simp; try with_reducible rfl)
          try simp only [Act.put, List.setIfInBounds_toArray, List.set_cons_zero, List.set_cons_succ]
          refine' wpAnyH_take (i := 15) (oi := { dst := some 168, op := Go.Op.move (Go.Operand.tmp 21), type := 3, pos := "law.go:606", after := #[{ on := 13, ground := Go.Ground.guard }], guard := some (13, false) }) (v := _) rfl (by kernel_rfl) (by kernel_rfl) (by kernel_rfl) (fun _ _ _ h => h) (Or.inl ⟨by rfl, ?hyr2_15⟩) (by assumption) ?rer2_15
          case hyr2_15 => (intro W hSw; (try dsimp only at hSw); go_simp; try with_reducible rfl)
          try simp only [Act.put, List.setIfInBounds_toArray, List.set_cons_zero, List.set_cons_succ]
          refine' wpAnyH_take (i := 16) (oi := { dst := some 169, op := Go.Op.binOp Go.BinOp.eql 3 (Go.Operand.tmp 167) (Go.Operand.tmp 168) 3, type := 4, pos := "law.go:606", after := #[{ on := 14, ground := Go.Ground.data }, { on := 15, ground := Go.Ground.data }, { on := 13, ground := Go.Ground.guard }], guard := some (13, false) }) (v := _) rfl (by kernel_rfl) (by kernel_rfl) (by kernel_rfl) (fun _ _ _ h => h) (Or.inl ⟨by rfl, ?hyr2_16⟩) (by assumption) ?rer2_16
          case hyr2_16 => (intro W hSw; (try dsimp only at hSw); go_simp; try with_reducible rfl)
          try simp only [Act.put, List.setIfInBounds_toArray, List.set_cons_zero, List.set_cons_succ]
          refine' wpAnyH_take (i := 17) (oi := { dst := some 170, op := Go.Op.move (Go.Operand.tmp 169), type := 4, pos := "law.go:606", after := #[{ on := 16, ground := Go.Ground.data }, { on := 13, ground := Go.Ground.chain }, { on := 13, ground := Go.Ground.guard }], guard := some (13, false) }) (v := _) rfl (by kernel_rfl) (by kernel_rfl) (by kernel_rfl) (fun _ _ _ h => h) (Or.inl ⟨by rfl, ?hyr2_17⟩) (by assumption) ?rer2_17
          case hyr2_17 => (intro W hSw; (try dsimp only at hSw); go_simp; try with_reducible rfl)
          try simp only [Act.put, List.setIfInBounds_toArray, List.set_cons_zero, List.set_cons_succ]
          refine' wpAnyH_take (i := 18) (oi := { dst := some 171, op := Go.Op.move (Go.Operand.tmp 20), type := 3, pos := "law.go:606", after := #[{ on := 17, ground := Go.Ground.guard }], guard := some (17, true) }) (v := _) rfl (by kernel_rfl) (by kernel_rfl) (by kernel_rfl) (fun _ _ _ h => h) (Or.inl ⟨by rfl, ?hyr2_18⟩) (by assumption) ?rer2_18
          case hyr2_18 => (intro W hSw; (try dsimp only at hSw); go_simp; try with_reducible rfl)
          try simp only [Act.put, List.setIfInBounds_toArray, List.set_cons_zero, List.set_cons_succ]
          refine' wpAnyH_take (i := 19) (oi := { dst := some 172, op := Go.Op.move (Go.Operand.tmp 22), type := 3, pos := "law.go:606", after := #[{ on := 17, ground := Go.Ground.guard }], guard := some (17, true) }) (v := _) rfl (by kernel_rfl) (by kernel_rfl) (by kernel_rfl) (fun _ _ _ h => h) (Or.inl ⟨by rfl, ?hyr2_19⟩) (by assumption) ?rer2_19
          case hyr2_19 => (intro W hSw; (try dsimp only at hSw); go_simp; try with_reducible rfl)
          try simp only [Act.put, List.setIfInBounds_toArray, List.set_cons_zero, List.set_cons_succ]
          refine' wpAnyH_take (i := 20) (oi := { dst := some 173, op := Go.Op.binOp Go.BinOp.eql 3 (Go.Operand.tmp 171) (Go.Operand.tmp 172) 3, type := 4, pos := "law.go:606", after := #[{ on := 18, ground := Go.Ground.data }, { on := 19, ground := Go.Ground.data }, { on := 17, ground := Go.Ground.guard }], guard := some (17, true) }) (v := _) rfl (by kernel_rfl) (by kernel_rfl) (by kernel_rfl) (fun _ _ _ h => h) (Or.inl ⟨by rfl, ?hyr2_20⟩) (by assumption) ?rer2_20
          case hyr2_20 => (intro W hSw; (try dsimp only at hSw); go_simp; try with_reducible rfl)
          try simp only [Act.put, List.setIfInBounds_toArray, List.set_cons_zero, List.set_cons_succ]
          refine' wpAnyH_take (i := 21) (oi := { dst := some 174, op := Go.Op.pick (Go.Operand.tmp 170) (Go.Operand.tmp 173) (Go.Operand.const (Go.Value.bool false)), type := 4, pos := "law.go:606", after := #[{ on := 17, ground := Go.Ground.data }, { on := 20, ground := Go.Ground.data }, { on := 13, ground := Go.Ground.guard }], guard := some (13, false) }) (v := _) rfl (by kernel_rfl) (by kernel_rfl) (by kernel_rfl) (fun _ _ _ h => h) (Or.inl ⟨by rfl, ?hyr2_21⟩) (by assumption) ?rer2_21
          case hyr2_21 => (intro W hSw; (try dsimp only at hSw); go_simp; try with_reducible rfl)
          try simp only [Act.put, List.setIfInBounds_toArray, List.set_cons_zero, List.set_cons_succ]
          refine' wpAnyH_take (i := 22) (oi := { dst := some 175, op := Go.Op.move (Go.Operand.tmp 174), type := 4, pos := "law.go:606", after := #[{ on := 21, ground := Go.Ground.data }, { on := 17, ground := Go.Ground.chain }, { on := 13, ground := Go.Ground.guard }], guard := some (13, false) }) (v := _) rfl (by kernel_rfl) (by kernel_rfl) (by kernel_rfl) (fun _ _ _ h => h) (Or.inl ⟨by rfl, ?hyr2_22⟩) (by assumption) ?rer2_22
          case hyr2_22 => (intro W hSw; (try dsimp only at hSw); go_simp; try with_reducible rfl)
          try simp only [Act.put, List.setIfInBounds_toArray, List.set_cons_zero, List.set_cons_succ]
          refine wpAnyH_take (i := 23) (oi := { dst := some 176, op := Go.Op.move (Go.Operand.tmp 17), type := 46, pos := "law.go:606", after := #[{ on := 22, ground := Go.Ground.guard }], guard := some (22, true) }) (v := undef) rfl (by kernel_rfl) (by kernel_rfl) (by kernel_rfl) (fun _ _ _ h => h) (Or.inr ⟨by rfl, rfl⟩) (by assumption) ?_
          try simp only [Act.put, List.setIfInBounds_toArray, List.set_cons_zero, List.set_cons_succ]
          refine wpAnyH_take (i := 24) (oi := { dst := some 177, op := Go.Op.move (Go.Operand.tmp 18), type := 3, pos := "law.go:606", after := #[{ on := 22, ground := Go.Ground.guard }], guard := some (22, true) }) (v := undef) rfl (by kernel_rfl) (by kernel_rfl) (by kernel_rfl) (fun _ _ _ h => h) (Or.inr ⟨by rfl, rfl⟩) (by assumption) ?_
          try simp only [Act.put, List.setIfInBounds_toArray, List.set_cons_zero, List.set_cons_succ]
          refine wpAnyH_take (i := 25) (oi := { dst := some 178, op := Go.Op.binOp Go.BinOp.sub 3 (Go.Operand.tmp 177) (Go.Operand.const (Go.Value.int Go.IntKind.i64 1)) 3, type := 3, pos := "law.go:606", after := #[{ on := 24, ground := Go.Ground.data }, { on := 22, ground := Go.Ground.guard }], guard := some (22, true) }) (v := undef) rfl (by kernel_rfl) (by kernel_rfl) (by kernel_rfl) (fun _ _ _ h => h) (Or.inr ⟨by rfl, rfl⟩) (by assumption) ?_
          try simp only [Act.put, List.setIfInBounds_toArray, List.set_cons_zero, List.set_cons_succ]
          refine wpAnyH_take (i := 26) (oi := { dst := some 179, op := Go.Op.indexAddr 46 (Go.Operand.tmp 176) (Go.Operand.tmp 178), type := 0, pos := "law.go:606", after := #[{ on := 23, ground := Go.Ground.data }, { on := 25, ground := Go.Ground.data }, { on := 22, ground := Go.Ground.guard }], guard := some (22, true) }) (v := undef) rfl (by kernel_rfl) (by kernel_rfl) (by kernel_rfl) (fun _ _ _ h => h) (Or.inr ⟨by rfl, rfl⟩) (by assumption) ?_
          try simp only [Act.put, List.setIfInBounds_toArray, List.set_cons_zero, List.set_cons_succ]
          refine wpAnyH_take (i := 27) (oi := { dst := some 180, op := Go.Op.fieldAddr 40 (Go.Operand.tmp 179) 2, type := 0, pos := "law.go:606", after := #[{ on := 26, ground := Go.Ground.data }, { on := 22, ground := Go.Ground.guard }], guard := some (22, true) }) (v := undef) rfl (by kernel_rfl) (by kernel_rfl) (by kernel_rfl) (fun _ _ _ h => h) (Or.inr ⟨by rfl, rfl⟩) (by assumption) ?_
          try simp only [Act.put, List.setIfInBounds_toArray, List.set_cons_zero, List.set_cons_succ]
          refine wpAnyH_take (i := 28) (oi := { dst := some 181, op := Go.Op.load 3 (Go.Operand.tmp 180), type := 3, pos := "law.go:606", after := #[{ on := 27, ground := Go.Ground.data }, { on := 22, ground := Go.Ground.guard }], guard := some (22, true) }) (v := undef) rfl (by kernel_rfl) (by kernel_rfl) (by kernel_rfl) (fun _ _ _ h => h) (Or.inr ⟨by rfl, rfl⟩) (by assumption) ?_
          try simp only [Act.put, List.setIfInBounds_toArray, List.set_cons_zero, List.set_cons_succ]
          refine wpAnyH_take (i := 29) (oi := { dst := some 182, op := Go.Op.move (Go.Operand.tmp 17), type := 46, pos := "law.go:606", after := #[{ on := 22, ground := Go.Ground.guard }], guard := some (22, true) }) (v := undef) rfl (by kernel_rfl) (by kernel_rfl) (by kernel_rfl) (fun _ _ _ h => h) (Or.inr ⟨by rfl, rfl⟩) (by assumption) ?_
          try simp only [Act.put, List.setIfInBounds_toArray, List.set_cons_zero, List.set_cons_succ]
          refine wpAnyH_take (i := 30) (oi := { dst := some 183, op := Go.Op.move (Go.Operand.tmp 18), type := 3, pos := "law.go:606", after := #[{ on := 22, ground := Go.Ground.guard }], guard := some (22, true) }) (v := undef) rfl (by kernel_rfl) (by kernel_rfl) (by kernel_rfl) (fun _ _ _ h => h) (Or.inr ⟨by rfl, rfl⟩) (by assumption) ?_
          try simp only [Act.put, List.setIfInBounds_toArray, List.set_cons_zero, List.set_cons_succ]
          refine wpAnyH_take (i := 31) (oi := { dst := some 184, op := Go.Op.indexAddr 46 (Go.Operand.tmp 182) (Go.Operand.tmp 183), type := 0, pos := "law.go:606", after := #[{ on := 29, ground := Go.Ground.data }, { on := 30, ground := Go.Ground.data }, { on := 22, ground := Go.Ground.guard }], guard := some (22, true) }) (v := undef) rfl (by kernel_rfl) (by kernel_rfl) (by kernel_rfl) (fun _ _ _ h => h) (Or.inr ⟨by rfl, rfl⟩) (by assumption) ?_
          try simp only [Act.put, List.setIfInBounds_toArray, List.set_cons_zero, List.set_cons_succ]
          refine wpAnyH_take (i := 32) (oi := { dst := some 185, op := Go.Op.fieldAddr 40 (Go.Operand.tmp 184) 2, type := 0, pos := "law.go:606", after := #[{ on := 31, ground := Go.Ground.data }, { on := 22, ground := Go.Ground.guard }], guard := some (22, true) }) (v := undef) rfl (by kernel_rfl) (by kernel_rfl) (by kernel_rfl) (fun _ _ _ h => h) (Or.inr ⟨by rfl, rfl⟩) (by assumption) ?_
          try simp only [Act.put, List.setIfInBounds_toArray, List.set_cons_zero, List.set_cons_succ]
          refine wpAnyH_take (i := 33) (oi := { dst := some 186, op := Go.Op.load 3 (Go.Operand.tmp 185), type := 3, pos := "law.go:606", after := #[{ on := 32, ground := Go.Ground.data }, { on := 22, ground := Go.Ground.guard }], guard := some (22, true) }) (v := undef) rfl (by kernel_rfl) (by kernel_rfl) (by kernel_rfl) (fun _ _ _ h => h) (Or.inr ⟨by rfl, rfl⟩) (by assumption) ?_
          try simp only [Act.put, List.setIfInBounds_toArray, List.set_cons_zero, List.set_cons_succ]
          refine wpAnyH_take (i := 34) (oi := { dst := some 187, op := Go.Op.binOp Go.BinOp.geq 3 (Go.Operand.tmp 181) (Go.Operand.tmp 186) 3, type := 4, pos := "law.go:606", after := #[{ on := 28, ground := Go.Ground.data }, { on := 33, ground := Go.Ground.data }, { on := 22, ground := Go.Ground.guard }], guard := some (22, true) }) (v := undef) rfl (by kernel_rfl) (by kernel_rfl) (by kernel_rfl) (fun _ _ _ h => h) (Or.inr ⟨by rfl, rfl⟩) (by assumption) ?_
          try simp only [Act.put, List.setIfInBounds_toArray, List.set_cons_zero, List.set_cons_succ]
          refine' wpAnyH_take (i := 35) (oi := { dst := some 188, op := Go.Op.pick (Go.Operand.tmp 175) (Go.Operand.tmp 187) (Go.Operand.const (Go.Value.bool false)), type := 4, pos := "law.go:606", after := #[{ on := 22, ground := Go.Ground.data }, { on := 34, ground := Go.Ground.data }, { on := 13, ground := Go.Ground.guard }], guard := some (13, false) }) (v := _) rfl (by kernel_rfl) (by kernel_rfl) (by kernel_rfl) (fun _ _ _ h => h) (Or.inl ⟨by rfl, ?hyr2_35⟩) (by assumption) ?rer2_35
          case hyr2_35 => (intro W hSw; (try dsimp only at hSw); go_simp; try with_reducible rfl)
          try simp only [Act.put, List.setIfInBounds_toArray, List.set_cons_zero, List.set_cons_succ]
          refine' wpAnyH_take (i := 36) (oi := { dst := some 189, op := Go.Op.pick (Go.Operand.tmp 166) (Go.Operand.const (Go.Value.bool true)) (Go.Operand.tmp 188), type := 4, pos := "law.go:606", after := #[{ on := 13, ground := Go.Ground.data }, { on := 35, ground := Go.Ground.data }], guard := none }) (v := _) rfl (by kernel_rfl) (by kernel_rfl) (by kernel_rfl) (fun _ _ _ h => h) (Or.inl ⟨by rfl, ?hyr2_36⟩) (by assumption) ?rer2_36
          case hyr2_36 => (intro W hSw; (try dsimp only at hSw); go_simp; try with_reducible rfl)
          try simp only [Act.put, List.setIfInBounds_toArray, List.set_cons_zero, List.set_cons_succ]
          refine wpAnyH_done (by kernel_rfl) ?_ _
          refine NoPanic.normal ?_
          rename_i hK9
          refine hK9 _ _ ?_
          clear s0 n1 n2
          go_wp2_with fail
          go_roundw
          case rel => exact ⟨i + 1, hlt, by go_num, HDR.out⟩
          case measure => simp [intOf]; omega
        · have n3 : ¬ (q : Int) ≤ (p : Int) := by omega
          refine wp_region_noPanic ?_
          refine wp_region_held_drew (S := (fun V => V.cell? ⟨gl, j * 6 + 3, none⟩ = some (.int .i64 (p : Int)) ∧ V.cell? ⟨gl, i * 6 + 3, none⟩ = some (.int .i64 (q : Int)))) (by kernel_rfl) (s0) (fun hHeld => ?_)
          refine' wpAnyH_take (i := 0) (oi := { dst := some 153, op := Go.Op.move (Go.Operand.tmp 19), type := 3, pos := "law.go:606", after := #[], guard := none }) (v := _) rfl (by kernel_rfl) (by kernel_rfl) (by kernel_rfl) (fun _ _ _ h => h) (Or.inl ⟨by rfl, ?hyr3_0⟩) (by assumption) ?rer3_0
          case hyr3_0 => (intro W hSw; (try dsimp only at hSw); go_simp; try with_reducible rfl)
          try simp only [Act.put, List.setIfInBounds_toArray, List.set_cons_zero, List.set_cons_succ]
          refine' wpAnyH_take (i := 1) (oi := { dst := some 154, op := Go.Op.move (Go.Operand.tmp 21), type := 3, pos := "law.go:606", after := #[], guard := none }) (v := _) rfl (by kernel_rfl) (by kernel_rfl) (by kernel_rfl) (fun _ _ _ h => h) (Or.inl ⟨by rfl, ?hyr3_1⟩) (by assumption) ?rer3_1
          case hyr3_1 => (intro W hSw; (try dsimp only at hSw); go_simp; try with_reducible rfl)
          try simp only [Act.put, List.setIfInBounds_toArray, List.set_cons_zero, List.set_cons_succ]
          refine' wpAnyH_take (i := 2) (oi := { dst := some 155, op := Go.Op.binOp Go.BinOp.gtr 3 (Go.Operand.tmp 153) (Go.Operand.tmp 154) 3, type := 4, pos := "law.go:606", after := #[{ on := 0, ground := Go.Ground.data }, { on := 1, ground := Go.Ground.data }], guard := none }) (v := _) rfl (by kernel_rfl) (by kernel_rfl) (by kernel_rfl) (fun _ _ _ h => h) (Or.inl ⟨by rfl, ?hyr3_2⟩) (by assumption) ?rer3_2
          case hyr3_2 => (intro W hSw; (try dsimp only at hSw); go_simp; try with_reducible rfl)
          try simp only [Act.put, List.setIfInBounds_toArray, List.set_cons_zero, List.set_cons_succ]
          refine' wpAnyH_take (i := 3) (oi := { dst := some 156, op := Go.Op.move (Go.Operand.tmp 155), type := 4, pos := "law.go:606", after := #[{ on := 2, ground := Go.Ground.data }], guard := none }) (v := _) rfl (by kernel_rfl) (by kernel_rfl) (by kernel_rfl) (fun _ _ _ h => h) (Or.inl ⟨by rfl, ?hyr3_3⟩) (by assumption) ?rer3_3
          case hyr3_3 => (intro W hSw; (try dsimp only at hSw); go_simp; try with_reducible rfl)
          try simp only [Act.put, List.setIfInBounds_toArray, List.set_cons_zero, List.set_cons_succ]
          refine' wpAnyH_take (i := 4) (oi := { dst := some 157, op := Go.Op.move (Go.Operand.tmp 19), type := 3, pos := "law.go:606", after := #[{ on := 3, ground := Go.Ground.guard }], guard := some (3, false) }) (v := _) rfl (by kernel_rfl) (by kernel_rfl) (by kernel_rfl) (fun _ _ _ h => h) (Or.inl ⟨by rfl, ?hyr3_4⟩) (by assumption) ?rer3_4
          case hyr3_4 => (intro W hSw; (try dsimp only at hSw); go_simp; try with_reducible rfl)
          try simp only [Act.put, List.setIfInBounds_toArray, List.set_cons_zero, List.set_cons_succ]
          refine' wpAnyH_take (i := 5) (oi := { dst := some 158, op := Go.Op.move (Go.Operand.tmp 21), type := 3, pos := "law.go:606", after := #[{ on := 3, ground := Go.Ground.guard }], guard := some (3, false) }) (v := _) rfl (by kernel_rfl) (by kernel_rfl) (by kernel_rfl) (fun _ _ _ h => h) (Or.inl ⟨by rfl, ?hyr3_5⟩) (by assumption) ?rer3_5
          case hyr3_5 => (intro W hSw; (try dsimp only at hSw); go_simp; try with_reducible rfl)
          try simp only [Act.put, List.setIfInBounds_toArray, List.set_cons_zero, List.set_cons_succ]
          refine' wpAnyH_take (i := 6) (oi := { dst := some 159, op := Go.Op.binOp Go.BinOp.eql 3 (Go.Operand.tmp 157) (Go.Operand.tmp 158) 3, type := 4, pos := "law.go:606", after := #[{ on := 4, ground := Go.Ground.data }, { on := 5, ground := Go.Ground.data }, { on := 3, ground := Go.Ground.guard }], guard := some (3, false) }) (v := _) rfl (by kernel_rfl) (by kernel_rfl) (by kernel_rfl) (fun _ _ _ h => h) (Or.inl ⟨by rfl, ?hyr3_6⟩) (by assumption) ?rer3_6
          case hyr3_6 => (intro W hSw; (try dsimp only at hSw); go_simp; try with_reducible rfl)
          try simp only [Act.put, List.setIfInBounds_toArray, List.set_cons_zero, List.set_cons_succ]
          refine' wpAnyH_take (i := 7) (oi := { dst := some 160, op := Go.Op.move (Go.Operand.tmp 159), type := 4, pos := "law.go:606", after := #[{ on := 6, ground := Go.Ground.data }, { on := 3, ground := Go.Ground.chain }, { on := 3, ground := Go.Ground.guard }], guard := some (3, false) }) (v := _) rfl (by kernel_rfl) (by kernel_rfl) (by kernel_rfl) (fun _ _ _ h => h) (Or.inl ⟨by rfl, ?hyr3_7⟩) (by assumption) ?rer3_7
          case hyr3_7 => (intro W hSw; (try dsimp only at hSw); go_simp; try with_reducible rfl)
          try simp only [Act.put, List.setIfInBounds_toArray, List.set_cons_zero, List.set_cons_succ]
          refine' wpAnyH_take (i := 8) (oi := { dst := some 161, op := Go.Op.move (Go.Operand.tmp 20), type := 3, pos := "law.go:606", after := #[{ on := 7, ground := Go.Ground.guard }], guard := some (7, true) }) (v := _) rfl (by kernel_rfl) (by kernel_rfl) (by kernel_rfl) (fun _ _ _ h => h) (Or.inl ⟨by rfl, ?hyr3_8⟩) (by assumption) ?rer3_8
          case hyr3_8 => (intro W hSw; (try dsimp only at hSw); go_simp; try with_reducible rfl)
          try simp only [Act.put, List.setIfInBounds_toArray, List.set_cons_zero, List.set_cons_succ]
          refine' wpAnyH_take (i := 9) (oi := { dst := some 162, op := Go.Op.move (Go.Operand.tmp 22), type := 3, pos := "law.go:606", after := #[{ on := 7, ground := Go.Ground.guard }], guard := some (7, true) }) (v := _) rfl (by kernel_rfl) (by kernel_rfl) (by kernel_rfl) (fun _ _ _ h => h) (Or.inl ⟨by rfl, ?hyr3_9⟩) (by assumption) ?rer3_9
          case hyr3_9 => (intro W hSw; (try dsimp only at hSw); go_simp; try with_reducible rfl)
          try simp only [Act.put, List.setIfInBounds_toArray, List.set_cons_zero, List.set_cons_succ]
          refine' wpAnyH_take (i := 10) (oi := { dst := some 163, op := Go.Op.binOp Go.BinOp.gtr 3 (Go.Operand.tmp 161) (Go.Operand.tmp 162) 3, type := 4, pos := "law.go:606", after := #[{ on := 8, ground := Go.Ground.data }, { on := 9, ground := Go.Ground.data }, { on := 7, ground := Go.Ground.guard }], guard := some (7, true) }) (v := _) rfl (by kernel_rfl) (by kernel_rfl) (by kernel_rfl) (fun _ _ _ h => h) (Or.inl ⟨by rfl, ?hyr3_10⟩) (by assumption) ?rer3_10
          case hyr3_10 => (intro W hSw; (try dsimp only at hSw); go_simp; try with_reducible rfl)
          try simp only [Act.put, List.setIfInBounds_toArray, List.set_cons_zero, List.set_cons_succ]
          refine' wpAnyH_take (i := 11) (oi := { dst := some 164, op := Go.Op.pick (Go.Operand.tmp 160) (Go.Operand.tmp 163) (Go.Operand.const (Go.Value.bool false)), type := 4, pos := "law.go:606", after := #[{ on := 7, ground := Go.Ground.data }, { on := 10, ground := Go.Ground.data }, { on := 3, ground := Go.Ground.guard }], guard := some (3, false) }) (v := _) rfl (by kernel_rfl) (by kernel_rfl) (by kernel_rfl) (fun _ _ _ h => h) (Or.inl ⟨by rfl, ?hyr3_11⟩) (by assumption) ?rer3_11
          case hyr3_11 => (intro W hSw; (try dsimp only at hSw); go_simp; try with_reducible rfl)
          try simp only [Act.put, List.setIfInBounds_toArray, List.set_cons_zero, List.set_cons_succ]
          refine' wpAnyH_take (i := 12) (oi := { dst := some 165, op := Go.Op.pick (Go.Operand.tmp 156) (Go.Operand.const (Go.Value.bool true)) (Go.Operand.tmp 164), type := 4, pos := "law.go:606", after := #[{ on := 3, ground := Go.Ground.data }, { on := 11, ground := Go.Ground.data }], guard := none }) (v := _) rfl (by kernel_rfl) (by kernel_rfl) (by kernel_rfl) (fun _ _ _ h => h) (Or.inl ⟨by rfl, ?hyr3_12⟩) (by assumption) ?rer3_12
          case hyr3_12 => (intro W hSw; (try dsimp only at hSw); go_simp; try with_reducible rfl)
          try simp only [Act.put, List.setIfInBounds_toArray, List.set_cons_zero, List.set_cons_succ]
          refine' wpAnyH_take (i := 13) (oi := { dst := some 166, op := Go.Op.move (Go.Operand.tmp 165), type := 4, pos := "law.go:606", after := #[{ on := 12, ground := Go.Ground.data }, { on := 7, ground := Go.Ground.chain }], guard := none }) (v := _) rfl (by kernel_rfl) (by kernel_rfl) (by kernel_rfl) (fun _ _ _ h => h) (Or.inl ⟨by rfl, ?hyr3_13⟩) (by assumption) ?rer3_13
          case hyr3_13 => (intro W hSw; (try dsimp only at hSw); go_simp; try with_reducible rfl)
          try simp only [Act.put, List.setIfInBounds_toArray, List.set_cons_zero, List.set_cons_succ]
          refine' wpAnyH_take (i := 14) (oi := { dst := some 167, op := Go.Op.move (Go.Operand.tmp 19), type := 3, pos := "law.go:606", after := #[{ on := 13, ground := Go.Ground.guard }], guard := some (13, false) }) (v := _) rfl (by kernel_rfl) (by kernel_rfl) (by kernel_rfl) (fun _ _ _ h => h) (Or.inl ⟨by rfl, ?hyr3_14⟩) (by assumption) ?rer3_14
          case hyr3_14 => (intro W hSw; (try dsimp only at hSw); go_simp; try with_reducible rfl)
          try simp only [Act.put, List.setIfInBounds_toArray, List.set_cons_zero, List.set_cons_succ]
          refine' wpAnyH_take (i := 15) (oi := { dst := some 168, op := Go.Op.move (Go.Operand.tmp 21), type := 3, pos := "law.go:606", after := #[{ on := 13, ground := Go.Ground.guard }], guard := some (13, false) }) (v := _) rfl (by kernel_rfl) (by kernel_rfl) (by kernel_rfl) (fun _ _ _ h => h) (Or.inl ⟨by rfl, ?hyr3_15⟩) (by assumption) ?rer3_15
          case hyr3_15 => (intro W hSw; (try dsimp only at hSw); go_simp; try with_reducible rfl)
          try simp only [Act.put, List.setIfInBounds_toArray, List.set_cons_zero, List.set_cons_succ]
          refine' wpAnyH_take (i := 16) (oi := { dst := some 169, op := Go.Op.binOp Go.BinOp.eql 3 (Go.Operand.tmp 167) (Go.Operand.tmp 168) 3, type := 4, pos := "law.go:606", after := #[{ on := 14, ground := Go.Ground.data }, { on := 15, ground := Go.Ground.data }, { on := 13, ground := Go.Ground.guard }], guard := some (13, false) }) (v := _) rfl (by kernel_rfl) (by kernel_rfl) (by kernel_rfl) (fun _ _ _ h => h) (Or.inl ⟨by rfl, ?hyr3_16⟩) (by assumption) ?rer3_16
          case hyr3_16 => (intro W hSw; (try dsimp only at hSw); go_simp; try with_reducible rfl)
          try simp only [Act.put, List.setIfInBounds_toArray, List.set_cons_zero, List.set_cons_succ]
          refine' wpAnyH_take (i := 17) (oi := { dst := some 170, op := Go.Op.move (Go.Operand.tmp 169), type := 4, pos := "law.go:606", after := #[{ on := 16, ground := Go.Ground.data }, { on := 13, ground := Go.Ground.chain }, { on := 13, ground := Go.Ground.guard }], guard := some (13, false) }) (v := _) rfl (by kernel_rfl) (by kernel_rfl) (by kernel_rfl) (fun _ _ _ h => h) (Or.inl ⟨by rfl, ?hyr3_17⟩) (by assumption) ?rer3_17
          case hyr3_17 => (intro W hSw; (try dsimp only at hSw); go_simp; try with_reducible rfl)
          try simp only [Act.put, List.setIfInBounds_toArray, List.set_cons_zero, List.set_cons_succ]
          refine' wpAnyH_take (i := 18) (oi := { dst := some 171, op := Go.Op.move (Go.Operand.tmp 20), type := 3, pos := "law.go:606", after := #[{ on := 17, ground := Go.Ground.guard }], guard := some (17, true) }) (v := _) rfl (by kernel_rfl) (by kernel_rfl) (by kernel_rfl) (fun _ _ _ h => h) (Or.inl ⟨by rfl, ?hyr3_18⟩) (by assumption) ?rer3_18
          case hyr3_18 => (intro W hSw; (try dsimp only at hSw); go_simp; try with_reducible rfl)
          try simp only [Act.put, List.setIfInBounds_toArray, List.set_cons_zero, List.set_cons_succ]
          refine' wpAnyH_take (i := 19) (oi := { dst := some 172, op := Go.Op.move (Go.Operand.tmp 22), type := 3, pos := "law.go:606", after := #[{ on := 17, ground := Go.Ground.guard }], guard := some (17, true) }) (v := _) rfl (by kernel_rfl) (by kernel_rfl) (by kernel_rfl) (fun _ _ _ h => h) (Or.inl ⟨by rfl, ?hyr3_19⟩) (by assumption) ?rer3_19
          case hyr3_19 => (intro W hSw; (try dsimp only at hSw); go_simp; try with_reducible rfl)
          try simp only [Act.put, List.setIfInBounds_toArray, List.set_cons_zero, List.set_cons_succ]
          refine' wpAnyH_take (i := 20) (oi := { dst := some 173, op := Go.Op.binOp Go.BinOp.eql 3 (Go.Operand.tmp 171) (Go.Operand.tmp 172) 3, type := 4, pos := "law.go:606", after := #[{ on := 18, ground := Go.Ground.data }, { on := 19, ground := Go.Ground.data }, { on := 17, ground := Go.Ground.guard }], guard := some (17, true) }) (v := _) rfl (by kernel_rfl) (by kernel_rfl) (by kernel_rfl) (fun _ _ _ h => h) (Or.inl ⟨by rfl, ?hyr3_20⟩) (by assumption) ?rer3_20
          case hyr3_20 => (intro W hSw; (try dsimp only at hSw); go_simp; try with_reducible rfl)
          try simp only [Act.put, List.setIfInBounds_toArray, List.set_cons_zero, List.set_cons_succ]
          refine' wpAnyH_take (i := 21) (oi := { dst := some 174, op := Go.Op.pick (Go.Operand.tmp 170) (Go.Operand.tmp 173) (Go.Operand.const (Go.Value.bool false)), type := 4, pos := "law.go:606", after := #[{ on := 17, ground := Go.Ground.data }, { on := 20, ground := Go.Ground.data }, { on := 13, ground := Go.Ground.guard }], guard := some (13, false) }) (v := _) rfl (by kernel_rfl) (by kernel_rfl) (by kernel_rfl) (fun _ _ _ h => h) (Or.inl ⟨by rfl, ?hyr3_21⟩) (by assumption) ?rer3_21
          case hyr3_21 => (intro W hSw; (try dsimp only at hSw); go_simp; try with_reducible rfl)
          try simp only [Act.put, List.setIfInBounds_toArray, List.set_cons_zero, List.set_cons_succ]
          refine' wpAnyH_take (i := 22) (oi := { dst := some 175, op := Go.Op.move (Go.Operand.tmp 174), type := 4, pos := "law.go:606", after := #[{ on := 21, ground := Go.Ground.data }, { on := 17, ground := Go.Ground.chain }, { on := 13, ground := Go.Ground.guard }], guard := some (13, false) }) (v := _) rfl (by kernel_rfl) (by kernel_rfl) (by kernel_rfl) (fun _ _ _ h => h) (Or.inl ⟨by rfl, ?hyr3_22⟩) (by assumption) ?rer3_22
          case hyr3_22 => (intro W hSw; (try dsimp only at hSw); go_simp; try with_reducible rfl)
          try simp only [Act.put, List.setIfInBounds_toArray, List.set_cons_zero, List.set_cons_succ]
          refine' wpAnyH_take (i := 23) (oi := { dst := some 176, op := Go.Op.move (Go.Operand.tmp 17), type := 46, pos := "law.go:606", after := #[{ on := 22, ground := Go.Ground.guard }], guard := some (22, true) }) (v := _) rfl (by kernel_rfl) (by kernel_rfl) (by kernel_rfl) (fun _ _ _ h => h) (Or.inl ⟨by rfl, ?hyr3_23⟩) (by assumption) ?rer3_23
          case hyr3_23 => (intro W hSw; (try dsimp only at hSw); go_simp; try with_reducible rfl)
          try simp only [Act.put, List.setIfInBounds_toArray, List.set_cons_zero, List.set_cons_succ]
          refine' wpAnyH_take (i := 24) (oi := { dst := some 177, op := Go.Op.move (Go.Operand.tmp 18), type := 3, pos := "law.go:606", after := #[{ on := 22, ground := Go.Ground.guard }], guard := some (22, true) }) (v := _) rfl (by kernel_rfl) (by kernel_rfl) (by kernel_rfl) (fun _ _ _ h => h) (Or.inl ⟨by rfl, ?hyr3_24⟩) (by assumption) ?rer3_24
          case hyr3_24 => (intro W hSw; (try dsimp only at hSw); go_simp; try with_reducible rfl)
          try simp only [Act.put, List.setIfInBounds_toArray, List.set_cons_zero, List.set_cons_succ]
          refine' wpAnyH_take (i := 25) (oi := { dst := some 178, op := Go.Op.binOp Go.BinOp.sub 3 (Go.Operand.tmp 177) (Go.Operand.const (Go.Value.int Go.IntKind.i64 1)) 3, type := 3, pos := "law.go:606", after := #[{ on := 24, ground := Go.Ground.data }, { on := 22, ground := Go.Ground.guard }], guard := some (22, true) }) (v := _) rfl (by kernel_rfl) (by kernel_rfl) (by kernel_rfl) (fun _ _ _ h => h) (Or.inl ⟨by rfl, ?hyr3_25⟩) (by assumption) ?rer3_25
          case hyr3_25 => (intro W hSw; (try dsimp only at hSw); go_simp; try with_reducible rfl)
          try simp only [Act.put, List.setIfInBounds_toArray, List.set_cons_zero, List.set_cons_succ]
          refine' wpAnyH_take (i := 26) (oi := { dst := some 179, op := Go.Op.indexAddr 46 (Go.Operand.tmp 176) (Go.Operand.tmp 178), type := 0, pos := "law.go:606", after := #[{ on := 23, ground := Go.Ground.data }, { on := 25, ground := Go.Ground.data }, { on := 22, ground := Go.Ground.guard }], guard := some (22, true) }) (v := _) rfl (by kernel_rfl) (by kernel_rfl) (by kernel_rfl) (fun _ _ _ h => h) (Or.inl ⟨by rfl, ?hyr3_26⟩) (by assumption) ?rer3_26
          case hyr3_26 => (intro W hSw; (try dsimp only at hSw); go_simp; try with_reducible rfl)
          try simp only [Act.put, List.setIfInBounds_toArray, List.set_cons_zero, List.set_cons_succ]
          refine' wpAnyH_take (i := 27) (oi := { dst := some 180, op := Go.Op.fieldAddr 40 (Go.Operand.tmp 179) 2, type := 0, pos := "law.go:606", after := #[{ on := 26, ground := Go.Ground.data }, { on := 22, ground := Go.Ground.guard }], guard := some (22, true) }) (v := _) rfl (by kernel_rfl) (by kernel_rfl) (by kernel_rfl) (fun _ _ _ h => h) (Or.inl ⟨by rfl, ?hyr3_27⟩) (by assumption) ?rer3_27
          case hyr3_27 => (intro W hSw; (try dsimp only at hSw); go_simp; try with_reducible rfl)
          try simp only [Act.put, List.setIfInBounds_toArray, List.set_cons_zero, List.set_cons_succ]
          refine' wpAnyH_take (i := 28) (oi := { dst := some 181, op := Go.Op.load 3 (Go.Operand.tmp 180), type := 3, pos := "law.go:606", after := #[{ on := 27, ground := Go.Ground.data }, { on := 22, ground := Go.Ground.guard }], guard := some (22, true) }) (v := _) rfl (by kernel_rfl) (by kernel_rfl) (by kernel_rfl) (fun _ _ _ h => h) (Or.inl ⟨by rfl, ?hyr3_28⟩) (by assumption) ?rer3_28
          case hyr3_28 => (intro W hSw; (try dsimp only at hSw); go_simp; try with_reducible rfl)
          try simp only [Act.put, List.setIfInBounds_toArray, List.set_cons_zero, List.set_cons_succ]
          refine' wpAnyH_take (i := 29) (oi := { dst := some 182, op := Go.Op.move (Go.Operand.tmp 17), type := 46, pos := "law.go:606", after := #[{ on := 22, ground := Go.Ground.guard }], guard := some (22, true) }) (v := _) rfl (by kernel_rfl) (by kernel_rfl) (by kernel_rfl) (fun _ _ _ h => h) (Or.inl ⟨by rfl, ?hyr3_29⟩) (by assumption) ?rer3_29
          case hyr3_29 => (intro W hSw; (try dsimp only at hSw); go_simp; try with_reducible rfl)
          try simp only [Act.put, List.setIfInBounds_toArray, List.set_cons_zero, List.set_cons_succ]
          refine' wpAnyH_take (i := 30) (oi := { dst := some 183, op := Go.Op.move (Go.Operand.tmp 18), type := 3, pos := "law.go:606", after := #[{ on := 22, ground := Go.Ground.guard }], guard := some (22, true) }) (v := _) rfl (by kernel_rfl) (by kernel_rfl) (by kernel_rfl) (fun _ _ _ h => h) (Or.inl ⟨by rfl, ?hyr3_30⟩) (by assumption) ?rer3_30
          case hyr3_30 => (intro W hSw; (try dsimp only at hSw); go_simp; try with_reducible rfl)
          try simp only [Act.put, List.setIfInBounds_toArray, List.set_cons_zero, List.set_cons_succ]
          refine' wpAnyH_take (i := 31) (oi := { dst := some 184, op := Go.Op.indexAddr 46 (Go.Operand.tmp 182) (Go.Operand.tmp 183), type := 0, pos := "law.go:606", after := #[{ on := 29, ground := Go.Ground.data }, { on := 30, ground := Go.Ground.data }, { on := 22, ground := Go.Ground.guard }], guard := some (22, true) }) (v := _) rfl (by kernel_rfl) (by kernel_rfl) (by kernel_rfl) (fun _ _ _ h => h) (Or.inl ⟨by rfl, ?hyr3_31⟩) (by assumption) ?rer3_31
          case hyr3_31 => (intro W hSw; (try dsimp only at hSw); go_simp; try with_reducible rfl)
          try simp only [Act.put, List.setIfInBounds_toArray, List.set_cons_zero, List.set_cons_succ]
          refine' wpAnyH_take (i := 32) (oi := { dst := some 185, op := Go.Op.fieldAddr 40 (Go.Operand.tmp 184) 2, type := 0, pos := "law.go:606", after := #[{ on := 31, ground := Go.Ground.data }, { on := 22, ground := Go.Ground.guard }], guard := some (22, true) }) (v := _) rfl (by kernel_rfl) (by kernel_rfl) (by kernel_rfl) (fun _ _ _ h => h) (Or.inl ⟨by rfl, ?hyr3_32⟩) (by assumption) ?rer3_32
          case hyr3_32 => (intro W hSw; (try dsimp only at hSw); go_simp; try with_reducible rfl)
          try simp only [Act.put, List.setIfInBounds_toArray, List.set_cons_zero, List.set_cons_succ]
          refine' wpAnyH_take (i := 33) (oi := { dst := some 186, op := Go.Op.load 3 (Go.Operand.tmp 185), type := 3, pos := "law.go:606", after := #[{ on := 32, ground := Go.Ground.data }, { on := 22, ground := Go.Ground.guard }], guard := some (22, true) }) (v := _) rfl (by kernel_rfl) (by kernel_rfl) (by kernel_rfl) (fun _ _ _ h => h) (Or.inl ⟨by rfl, ?hyr3_33⟩) (by assumption) ?rer3_33
          case hyr3_33 => (intro W hSw; (try dsimp only at hSw); go_simp; try with_reducible rfl)
          try simp only [Act.put, List.setIfInBounds_toArray, List.set_cons_zero, List.set_cons_succ]
          refine' wpAnyH_take (i := 34) (oi := { dst := some 187, op := Go.Op.binOp Go.BinOp.geq 3 (Go.Operand.tmp 181) (Go.Operand.tmp 186) 3, type := 4, pos := "law.go:606", after := #[{ on := 28, ground := Go.Ground.data }, { on := 33, ground := Go.Ground.data }, { on := 22, ground := Go.Ground.guard }], guard := some (22, true) }) (v := _) rfl (by kernel_rfl) (by kernel_rfl) (by kernel_rfl) (fun _ _ _ h => h) (Or.inl ⟨by rfl, ?hyr3_34⟩) (by assumption) ?rer3_34
          case hyr3_34 => (intro W hSw; (try dsimp only at hSw); go_simp; try with_reducible rfl)
          try simp only [Act.put, List.setIfInBounds_toArray, List.set_cons_zero, List.set_cons_succ]
          refine' wpAnyH_take (i := 35) (oi := { dst := some 188, op := Go.Op.pick (Go.Operand.tmp 175) (Go.Operand.tmp 187) (Go.Operand.const (Go.Value.bool false)), type := 4, pos := "law.go:606", after := #[{ on := 22, ground := Go.Ground.data }, { on := 34, ground := Go.Ground.data }, { on := 13, ground := Go.Ground.guard }], guard := some (13, false) }) (v := _) rfl (by kernel_rfl) (by kernel_rfl) (by kernel_rfl) (fun _ _ _ h => h) (Or.inl ⟨by rfl, ?hyr3_35⟩) (by assumption) ?rer3_35
          case hyr3_35 => (intro W hSw; (try dsimp only at hSw); go_simp; try with_reducible rfl)
          try simp only [Act.put, List.setIfInBounds_toArray, List.set_cons_zero, List.set_cons_succ]
          refine' wpAnyH_take (i := 36) (oi := { dst := some 189, op := Go.Op.pick (Go.Operand.tmp 166) (Go.Operand.const (Go.Value.bool true)) (Go.Operand.tmp 188), type := 4, pos := "law.go:606", after := #[{ on := 13, ground := Go.Ground.data }, { on := 35, ground := Go.Ground.data }], guard := none }) (v := _) rfl (by kernel_rfl) (by kernel_rfl) (by kernel_rfl) (fun _ _ _ h => h) (Or.inl ⟨by rfl, ?hyr3_36⟩) (by assumption) ?rer3_36
          case hyr3_36 => (intro W hSw; (try dsimp only at hSw); go_simp; try with_reducible rfl)
          try simp only [Act.put, List.setIfInBounds_toArray, List.set_cons_zero, List.set_cons_succ]
          refine wpAnyH_done (by kernel_rfl) ?_ _
          refine NoPanic.normal ?_
          rename_i hK9
          refine hK9 _ _ ?_
          clear s0 n3
          go_wp2_with fail
          go_roundw
          case rel => exact ⟨i + 1, hlt, by go_num, HDR.out⟩
          case measure => simp [intOf]; omega
    · have t1 : ¬ (i : Int) < 100000 := by omega
      have hx : Hid (Below w.heap.size w wr) := (MW9.out.later HI.out).below (Nat.le_refl _) (fun _ h => h)
      clear HI
      go_wp2_with fail
      go_ret
      exact ⟨rfl, hx.out⟩
end Go.Proofs.YtiolaenkfhcajaaGreat
