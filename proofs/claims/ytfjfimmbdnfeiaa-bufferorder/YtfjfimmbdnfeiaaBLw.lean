/-
  Buffer: the law's walk.
-/
import Derived.Test.YtfjfimmbdnfeiaaBWr
import Derived.Deep.CutBlock
import Derived.Deep.DeepCutAuto
namespace Go.Proofs.Ytfjfimmbdnfeiaa
open Go.RowKit
set_option maxRecDepth 100000
set_option maxHeartbeats 8000000 in
theorem order_any (w : World) (aw az : Option Addr) (nw cw ns cs g o : Nat) (ws : List (Int × Int)) (zs : List Int) (hw : Wr w aw g o ws) (hnw : ws.length = nw) (hz : Wz w az zs) (hnz : zs.length = ns) : Calls Try.prog 3 #[.slice aw nw cw, .slice az ns cs] w fun e w' => e = .returned (.bool true) ∧ Below w.heap.size w w' := by
  have J1 := hide (shown_any w)
  have HW := hide hw
  have HNW := hide hnw
  have HZ := hide hz
  have HNZ := hide hnz
  clear hw hnw hz hnz
  go_enter Try.func3, Try.ntmps3
  go_wp2_with fail
  refine J1.out.mono ?_
  rintro e w1 ⟨rfl, b1⟩
  have J2 := hide (bnew_any w1)
  have B1 := hide b1
  clear b1 J1
  go_wp2_with fail
  refine J2.out.mono ?_
  rintro e w2 ⟨ga, gx, rfl, hA, hl, b2⟩
  have HA := hide hA
  have HLA := hide hl
  have B2 := hide b2
  have J3 := hide (bnew_any w2)
  clear hA hl b2 J2
  go_wp2_with fail
  refine J3.out.mono ?_
  rintro e w3 ⟨gb, gy, rfl, hB, hl, b3⟩
  have HB := hide hB
  have HLB := hide hl
  have B3 := hide b3
  clear hB hl b3 J3
  obtain ⟨n, hn⟩ : ∃ n, n = min nw 200 := ⟨_, rfl⟩
  have tm : min (nw : Int) 200 = (n : Int) := by omega
  have HN : Hid (n = min nw 200) := hn
  obtain ⟨ii, hii, hz0, hz1, hz2⟩ := info_parts infoI
  clear hn
  go_wp2_with (at_make; refine wpList_make_full _ rfl _ _ 23 rfl w3.heap.size 3 ii (.int .i64 0) 1 Try.underlying23 hii hz0 hz1 .i64 .i64 _ _ n rfl rfl ?c1 ?c2 ?c3 ?c4 ?c5 ?_)
  case c1 => rfl
  case c2 => rfl
  case c3 => have := HN.out; rw [hz2]; omega
  case c4 => have := HN.out; unfold maxLen; omega
  case c5 => omega
  intro w4 hown hgrow
  rw [toList_madeCells_one] at hown
  have B4 : Hid (Below w3.heap.size w3 w4) := (Below.refl _ w3).grown hgrow (Nat.le_refl _) (fun k e => by cases e)
  obtain ⟨gr, hgr⟩ : ∃ x, x = w3.heap.size := ⟨_, rfl⟩
  have HGR := hide hgr
  have k4 : w4.heap[gr]? = some (.cells (rowZ n 0).toArray 3 (0, 0)) := by
    rcases hown.2 with ⟨h', _⟩ | ⟨g', c', cur, h', hb, hg, h1, h2, h3, h4⟩
    · simp at h'
    · simp only [Value.slice.injEq, Option.some.injEq, Addr.mk.injEq, and_true, true_and] at h'
      obtain ⟨rfl, rfl⟩ := h'
      rw [hgr, hg]
      congr 2
      apply Array.toList_inj.1
      have hcl : cur.toList.length = n := by rw [Array.length_toList]; omega
      rw [List.take_of_length_le (by omega)] at h4
      rw [h4, rowZ_zero]
  have K4 := hide k4
  rw [← hgr]
  clear hown hgrow hgr k4
  have BW4 : Hid (Below w.heap.size w w4) := below_on (below_on (below_on B1.out B2.out) B3.out) B4.out
  have KA : Hid (Bk w4.heap.size w4 ga gx (keyW ws) []) := ⟨_, _, _, _, HA.out.later (below_on B3.out B4.out), fun k hk => by rcases hk with h | h; exact .inl h; exact .inr (.inl h), fun _ h => h.elim⟩
  have KB : Hid (Bg w4 (fun k => k = gb ∨ k = gy) (fun _ => False) gb gy 0 (fun _ => none) (fun _ => []) 0) := HB.out.later B4.out
  have hsep : Hid ((w.heap.size ≤ ga ∧ w.heap.size ≤ gx ∧ w.heap.size ≤ gb ∧ w.heap.size ≤ gy ∧ w.heap.size ≤ gr) ∧ (ga < gr ∧ gx < gr ∧ gb < gr ∧ gy < gr ∧ gr < w4.heap.size) ∧ ga < gb ∧ ga < gy ∧ gx < gb ∧ gx < gy) := by
    have s1 := B1.out.size
    have s2 := B2.out.size
    have s3 := B3.out.size
    have a1 := HLA.out
    have a2 := HLB.out
    have a3 := HA.out.bs ga HA.out.sb
    have a4 := HA.out.bs gx HA.out.sm
    have a5 := HB.out.bs gb HB.out.sb
    have a6 := HB.out.bs gy HB.out.sm
    have a7 := lt_of_block K4.out
    have a8 := HGR.out
    exact ⟨⟨by omega, by omega, by omega, by omega, by omega⟩, ⟨by omega, by omega, by omega, by omega, by omega⟩, by omega, by omega, by omega, by omega⟩
  clear HA HB HLA HLB B1 B2 B3 B4 HGR hz0 hz1 hz2 hii
  go_upto_block 0 with fail
  go_cut [] (fun W => Hid (W.heap[gr]? = some (.cells (rowZ n n).toArray 3 (0, 0)) ∧ Bk w4.heap.size W ga gx (keyW ws) (List.range n) ∧ Mv w4 W (fun j => j = ga ∨ j = gx ∨ j = gr ∨ w4.heap.size ≤ j)))
  case first =>
    go_wp2_with fail
    go_loopw [10] (fun v10 W => ∃ i : Nat, i ≤ n ∧ v10 = .int .i64 (i : Int) ∧ Hid (W.heap[gr]? = some (.cells (rowZ n i).toArray 3 (0, 0)) ∧ Bk w4.heap.size W ga gx (keyW ws) (List.range i) ∧ Mv w4 W (fun j => j = ga ∨ j = gx ∨ j = gr ∨ w4.heap.size ≤ j))) (fun v10 _ => n - (intOf v10).toNat)
    case atStart => exact ⟨0, Nat.zero_le _, rfl, K4.out, KA.out, Mv.refl _ _⟩
    case round =>
      obtain ⟨i, hi, rfl, HI⟩ := hrel
      by_cases hlt : i < n
      · have t1 : (i : Int) < (n : Int) := by omega
        have tw : IntKind.i64.wrap ((i : Int) + 1) = (i : Int) + 1 := by
          have := HN.out
          rw [IntKind.wrap_i64]
          omega
        have hinw : i < nw := by have := HN.out; omega
        have hil : i < ws.length := by have := HN.out; have := HNW.out; omega
        obtain ⟨rfl, hg⟩ := HW.out.1 (by omega)
        obtain ⟨ib, c0, c1⟩ := HW.out.2 i hil
        have ekey := keyW_at hil
        unfold InB at ib
        generalize ws[i].1 = x at c0 ib ekey
        generalize ws[i].2 = y at c1 ib ekey
        obtain ⟨px, hpx⟩ : ∃ p : Int, p = ((pickZ x 16 : Nat) : Int) := ⟨_, rfl⟩
        obtain ⟨py, hpy⟩ : ∃ p : Int, p = ((pickZ y 200 : Nat) : Int) := ⟨_, rfl⟩
        have hxb := pickZ_lt x 16 (by omega)
        have hyb := pickZ_lt y 200 (by omega)
        have JK1 : Hid (∀ W, Calls Try.prog 7 #[.int .i64 x, .int .i64 16] W fun e w' => e = .returned (.int .i64 px) ∧ w' = W) := fun W => by
          rw [hpx]
          exact bpick_any x ib.1 16 (by omega) (by omega) W
        have JK2 : Hid (∀ W, Calls Try.prog 7 #[.int .i64 y, .int .i64 200] W fun e w' => e = .returned (.int .i64 py) ∧ w' = W) := fun W => by
          rw [hpy]
          exact bpick_any y ib.2 200 (by omega) (by omega) W
        have hr := HI.out.1
        have z0 := frozen_of_row wr gr i _ 3 hr
        have z1 : wr.cell? ⟨gr, i, none⟩ = some (.int .i64 0) := by
          rw [cell_of_row wr _ _ _ 3 (0, 0) hr]
          simp [rowZ, hlt]
        obtain ⟨W5, hW5⟩ : ∃ X, X = wr.setCell ⟨gr, i, none⟩ (.int .i64 (i : Int)) := ⟨_, rfl⟩
        have r5 : W5.heap[gr]? = some (.cells (rowZ n (i + 1)).toArray 3 (0, 0)) := by
          rw [hW5, heap_setCell_same wr gr i _ 3 _ hr, ← rowZ_set]
          simp
        have m5 : Mv wr W5 (fun j => j = gr) := by rw [hW5]; exact (Mv.refl wr (fun j => j = gr)).set rfl i _
        have hs := hsep.out
        have s4 := HI.out.2.2.2.2.2.1
        have s44 := BW4.out.size
        have mw : Mv w W5 (fun j => w.heap.size ≤ j) := ((Mv.of_below BW4.out (fun j => w.heap.size ≤ j)).trans HI.out.2.2 (fun j _ hj => by rcases hj with rfl | rfl | rfl | h <;> omega)).trans m5 (fun j _ hj => by rw [hj]; omega)
        have HSV : Hid (∀ V, Mv w V (fun j => w.heap.size ≤ j) → V.cell? ⟨g, o + i * 2, none⟩ = some (.int .i64 x) ∧ V.cell? ⟨g, o + i * 2 + 1, none⟩ = some (.int .i64 y)) := fun V hV => ⟨hV.cell c0 (by show ¬ w.heap.size ≤ g; omega), hV.cell c1 (by show ¬ w.heap.size ≤ g; omega)⟩
        have md : Mv w W5.drew (fun j => w.heap.size ≤ j) := mw.later (below_drew W5)
        have k5 : Bk w4.heap.size W5.drew ga gx (keyW ws) (List.range i) := (HI.out.2.1.frame m5 (by show ¬ ga = gr; omega) (by show ¬ gx = gr; omega) (fun j h1 _ => by show ¬ j = gr; omega)).later (below_drew W5)
        have s5 := mw.2.2.2.1
        have JP : Hid (Calls Try.prog 6 #[.pointer (some ⟨ga, 0, none⟩), .int .i64 px, .agg #[.int .i64 py, .int .i64 1], .agg #[.int .i64 4, .int .i64 0, .int .i64 0, .int .i64 (i : Int), .slice none 0 0, .slice none 0 0]] W5.drew fun e w' => e = .returned (.int .i64 0) ∧ Bk w4.heap.size w' ga gx (keyW ws) (List.range (i + 1)) ∧ Mv W5.drew w' (fun j => j = ga ∨ j = gx ∨ w4.heap.size ≤ j)) := by
          unfold Hid
          rw [List.range_succ]
          refine bput_row k5 (by have := (below_drew W5).size; have := m5.2.2.2.1; omega) (by rw [List.length_range]; have := HN.out; omega) i px py 1 (by rw [ekey, hpx, hpy]) ?_
          rw [hpx, hpy]
          refine ⟨⟨?_, ?_⟩, ?_, ?_⟩ <;> simp only <;> omega
        have R5 := hide r5
        have M5 := hide m5
        have MW := hide mw
        have s0 := HSV.out _ md
        clear hr c0 c1 ib hg ekey hpx hpy hxb hyb r5 m5 hs s4 s44 mw md k5 s5
        go_upto_region 12 with fail
        rw [← hW5]
        clear hW5
        refine wp_region_noPanic ?_
        refine wp_region_held_drew (S := (fun V => V.cell? ⟨g, o + i * 2, none⟩ = some (.int .i64 x) ∧ V.cell? ⟨g, o + i * 2 + 1, none⟩ = some (.int .i64 y))) (by kernel_rfl) (s0) (fun hHeld => ?_)
        refine' wpAnyH_take (i := 0) (oi := { dst := some 53, op := Go.Op.move (Go.Operand.tmp 6), type := 25, pos := "law.go:469", after := #[], guard := none }) (v := _) rfl (by kernel_rfl) (by kernel_rfl) (by kernel_rfl) (fun _ _ _ h => h) (Or.inl ⟨by rfl, ?hyr1_0⟩) (by assumption) ?rer1_0
        case hyr1_0 => (intro W hSw; (try dsimp only at hSw); go_simp; try with_reducible rfl)
        try simp only [Act.put, List.setIfInBounds_toArray, List.set_cons_zero, List.set_cons_succ]
        refine' wpAnyH_take (i := 1) (oi := { dst := some 54, op := Go.Op.move (Go.Operand.tmp 0), type := 22, pos := "law.go:469", after := #[], guard := none }) (v := _) rfl (by kernel_rfl) (by kernel_rfl) (by kernel_rfl) (fun _ _ _ h => h) (Or.inl ⟨by rfl, ?hyr1_1⟩) (by assumption) ?rer1_1
        case hyr1_1 => (intro W hSw; (try dsimp only at hSw); go_simp; try with_reducible rfl)
        try simp only [Act.put, List.setIfInBounds_toArray, List.set_cons_zero, List.set_cons_succ]
        refine' wpAnyH_take (i := 2) (oi := { dst := some 55, op := Go.Op.move (Go.Operand.tmp 10), type := 3, pos := "law.go:469", after := #[], guard := none }) (v := _) rfl (by kernel_rfl) (by kernel_rfl) (by kernel_rfl) (fun _ _ _ h => h) (Or.inl ⟨by rfl, ?hyr1_2⟩) (by assumption) ?rer1_2
        case hyr1_2 => (intro W hSw; (try dsimp only at hSw); go_simp; try with_reducible rfl)
        try simp only [Act.put, List.setIfInBounds_toArray, List.set_cons_zero, List.set_cons_succ]
        refine' wpAnyH_take (i := 3) (oi := { dst := some 56, op := Go.Op.indexAddr 22 (Go.Operand.tmp 54) (Go.Operand.tmp 55), type := 0, pos := "law.go:469", after := #[{ on := 1, ground := Go.Ground.data }, { on := 2, ground := Go.Ground.data }], guard := none }) (v := _) rfl (by kernel_rfl) (by kernel_rfl) (by kernel_rfl) (fun _ _ _ h => h) (Or.inl ⟨by rfl, ?hyr1_3⟩) (by assumption) ?rer1_3
        case hyr1_3 => (intro W hSw; (try dsimp only at hSw); go_simp; try with_reducible rfl)
        try simp only [Act.put, List.setIfInBounds_toArray, List.set_cons_zero, List.set_cons_succ]
        refine' wpAnyH_take (i := 4) (oi := { dst := some 57, op := Go.Op.fieldAddr 31 (Go.Operand.tmp 56) 0, type := 0, pos := "law.go:469", after := #[{ on := 3, ground := Go.Ground.data }], guard := none }) (v := _) rfl (by kernel_rfl) (by kernel_rfl) (by kernel_rfl) (fun _ _ _ h => h) (Or.inl ⟨by rfl, ?hyr1_4⟩) (by assumption) ?rer1_4
        case hyr1_4 => (intro W hSw; (try dsimp only at hSw); go_simp; try with_reducible rfl)
        try simp only [Act.put, List.setIfInBounds_toArray, List.set_cons_zero, List.set_cons_succ]
        refine' wpAnyH_take (i := 5) (oi := { dst := some 58, op := Go.Op.load 3 (Go.Operand.tmp 57), type := 3, pos := "law.go:469", after := #[{ on := 4, ground := Go.Ground.data }], guard := none }) (v := _) rfl (by kernel_rfl) (by kernel_rfl) (by kernel_rfl) (fun _ _ _ h => h) (Or.inl ⟨by rfl, ?hyr1_5⟩) (by assumption) ?rer1_5
        case hyr1_5 => (intro W hSw; (try dsimp only at hSw); go_simp; try with_reducible rfl)
        try simp only [Act.put, List.setIfInBounds_toArray, List.set_cons_zero, List.set_cons_succ]
        refine' wpAnyH_take (i := 7) (oi := { dst := some 60, op := Go.Op.move (Go.Operand.tmp 0), type := 22, pos := "law.go:469", after := #[], guard := none }) (v := _) rfl (by kernel_rfl) (by kernel_rfl) (by kernel_rfl) (fun _ _ _ h => h) (Or.inl ⟨by rfl, ?hyr1_7⟩) (by assumption) ?rer1_7
        case hyr1_7 => (intro W hSw; (try dsimp only at hSw); go_simp; try with_reducible rfl)
        try simp only [Act.put, List.setIfInBounds_toArray, List.set_cons_zero, List.set_cons_succ]
        refine' wpAnyH_take (i := 8) (oi := { dst := some 61, op := Go.Op.move (Go.Operand.tmp 10), type := 3, pos := "law.go:469", after := #[], guard := none }) (v := _) rfl (by kernel_rfl) (by kernel_rfl) (by kernel_rfl) (fun _ _ _ h => h) (Or.inl ⟨by rfl, ?hyr1_8⟩) (by assumption) ?rer1_8
        case hyr1_8 => (intro W hSw; (try dsimp only at hSw); go_simp; try with_reducible rfl)
        try simp only [Act.put, List.setIfInBounds_toArray, List.set_cons_zero, List.set_cons_succ]
        refine' wpAnyH_take (i := 9) (oi := { dst := some 62, op := Go.Op.indexAddr 22 (Go.Operand.tmp 60) (Go.Operand.tmp 61), type := 0, pos := "law.go:469", after := #[{ on := 7, ground := Go.Ground.data }, { on := 8, ground := Go.Ground.data }], guard := none }) (v := _) rfl (by kernel_rfl) (by kernel_rfl) (by kernel_rfl) (fun _ _ _ h => h) (Or.inl ⟨by rfl, ?hyr1_9⟩) (by assumption) ?rer1_9
        case hyr1_9 => (intro W hSw; (try dsimp only at hSw); go_simp; try with_reducible rfl)
        try simp only [Act.put, List.setIfInBounds_toArray, List.set_cons_zero, List.set_cons_succ]
        refine' wpAnyH_take (i := 10) (oi := { dst := some 63, op := Go.Op.fieldAddr 31 (Go.Operand.tmp 62) 1, type := 0, pos := "law.go:469", after := #[{ on := 9, ground := Go.Ground.data }], guard := none }) (v := _) rfl (by kernel_rfl) (by kernel_rfl) (by kernel_rfl) (fun _ _ _ h => h) (Or.inl ⟨by rfl, ?hyr1_10⟩) (by assumption) ?rer1_10
        case hyr1_10 => (intro W hSw; (try dsimp only at hSw); go_simp; try with_reducible rfl)
        try simp only [Act.put, List.setIfInBounds_toArray, List.set_cons_zero, List.set_cons_succ]
        refine' wpAnyH_take (i := 11) (oi := { dst := some 64, op := Go.Op.load 3 (Go.Operand.tmp 63), type := 3, pos := "law.go:469", after := #[{ on := 10, ground := Go.Ground.data }], guard := none }) (v := _) rfl (by kernel_rfl) (by kernel_rfl) (by kernel_rfl) (fun _ _ _ h => h) (Or.inl ⟨by rfl, ?hyr1_11⟩) (by assumption) ?rer1_11
        case hyr1_11 => (intro W hSw; (try dsimp only at hSw); go_simp; try with_reducible rfl)
        try simp only [Act.put, List.setIfInBounds_toArray, List.set_cons_zero, List.set_cons_succ]
        refine' wpAnyH_take (i := 14) (oi := { dst := some 67, op := Go.Op.move (Go.Operand.tmp 10), type := 3, pos := "law.go:469", after := #[], guard := none }) (v := _) rfl (by kernel_rfl) (by kernel_rfl) (by kernel_rfl) (fun _ _ _ h => h) (Or.inl ⟨by rfl, ?hyr1_14⟩) (by assumption) ?rer1_14
        case hyr1_14 => (intro W hSw; (try dsimp only at hSw); go_simp; try with_reducible rfl)
        try simp only [Act.put, List.setIfInBounds_toArray, List.set_cons_zero, List.set_cons_succ]
        refine' wpAnyH_take (i := 15) (oi := { dst := some 68, op := Go.Op.build 37 #[(0, Go.Operand.const (Go.Value.int Go.IntKind.i64 4)), (2, Go.Operand.tmp 67)], type := 37, pos := "law.go:469", after := #[{ on := 14, ground := Go.Ground.data }], guard := none }) (v := _) rfl (by kernel_rfl) (by kernel_rfl) (by kernel_rfl) (fun _ _ _ h => h) (Or.inl ⟨by rfl, ?hyr1_15⟩) (by assumption) ?rer1_15
        case hyr1_15 => (intro W hSw; (try dsimp only at hSw); go_simp; try with_reducible rfl)
        try simp only [Act.put, List.setIfInBounds_toArray, List.set_cons_zero, List.set_cons_succ]
        refine wpAnyH_ready (rs := [6]) (by kernel_rfl) (by simp) ?_
        refine AllReadyH.cons (o := { dst := some 59, op := Go.Op.call { callee := Go.Callee.value (Go.Operand.func 7), args := #[Go.Operand.tmp 58, Go.Operand.const (Go.Value.int Go.IntKind.i64 16)], argTypes := #[3, 3] }, type := 3, pos := "law.go:469", after := #[{ on := 5, ground := Go.Ground.data }], guard := none }) rfl (fun K hK => ?_) AllReadyH.nil
        clear hHeld
        go_simp
        refine (JK1.out _).mono ?_
        rintro e w' ⟨rfl, rfl⟩
        refine hK.out _ _ (s0) (fun hHeld => ?_)
        clear hK K
        try simp only [Act.put, List.setIfInBounds_toArray, List.set_cons_zero, List.set_cons_succ]
        refine wpAnyH_ready (rs := [12]) (by kernel_rfl) (by simp) ?_
        refine AllReadyH.cons (o := { dst := some 65, op := Go.Op.call { callee := Go.Callee.value (Go.Operand.func 7), args := #[Go.Operand.tmp 64, Go.Operand.const (Go.Value.int Go.IntKind.i64 200)], argTypes := #[3, 3] }, type := 3, pos := "law.go:469", after := #[{ on := 11, ground := Go.Ground.data }, { on := 6, ground := Go.Ground.chain }], guard := none }) rfl (fun K hK => ?_) AllReadyH.nil
        clear hHeld
        go_simp
        refine (JK2.out _).mono ?_
        rintro e w' ⟨rfl, rfl⟩
        refine hK.out _ _ (s0) (fun hHeld => ?_)
        clear hK K
        try simp only [Act.put, List.setIfInBounds_toArray, List.set_cons_zero, List.set_cons_succ]
        refine' wpAnyH_take (i := 13) (oi := { dst := some 66, op := Go.Op.build 33 #[(0, Go.Operand.tmp 65), (1, Go.Operand.const (Go.Value.int Go.IntKind.i64 1))], type := 33, pos := "law.go:469", after := #[{ on := 12, ground := Go.Ground.data }], guard := none }) (v := _) rfl (by kernel_rfl) (by kernel_rfl) (by kernel_rfl) (fun _ _ _ h => h) (Or.inl ⟨by rfl, ?hyr1_13⟩) (by assumption) ?rer1_13
        case hyr1_13 => (intro W hSw; (try dsimp only at hSw); go_simp; try with_reducible rfl)
        try simp only [Act.put, List.setIfInBounds_toArray, List.set_cons_zero, List.set_cons_succ]
        refine wpAnyH_ready (rs := [16]) (by kernel_rfl) (by simp) ?_
        refine AllReadyH.cons (o := { dst := some 69, op := Go.Op.call { callee := Go.Callee.value (Go.Operand.func 6), args := #[Go.Operand.tmp 53, Go.Operand.tmp 59, Go.Operand.tmp 66, Go.Operand.tmp 68], argTypes := #[25, 3, 33, 37] }, type := 27, pos := "law.go:469", after := #[{ on := 0, ground := Go.Ground.data }, { on := 6, ground := Go.Ground.data }, { on := 13, ground := Go.Ground.data }, { on := 15, ground := Go.Ground.data }, { on := 12, ground := Go.Ground.chain }], guard := none }) rfl (fun K hK => ?_) AllReadyH.nil
        clear hHeld
        go_simp
        refine JP.out.mono ?_
        rintro e w9 ⟨rfl, k9, m9⟩
        have s1 := HSV.out _ ((MW.out.later (below_drew W5)).trans m9 (fun j _ hj => by have := hsep.out; have := BW4.out.size; rcases hj with rfl | rfl | h <;> omega))
        refine hK.out _ _ (s1) (fun hHeld => ?_)
        clear hK K
        try simp only [Act.put, List.setIfInBounds_toArray, List.set_cons_zero, List.set_cons_succ]
        refine' wpAnyH_take (i := 17) (oi := { dst := some 11, op := Go.Op.assign (Go.Operand.tmp 69), type := 27, pos := "law.go:469", after := #[{ on := 16, ground := Go.Ground.data }, { on := 16, ground := Go.Ground.chain }, { on := 0, ground := Go.Ground.phase }, { on := 1, ground := Go.Ground.phase }, { on := 2, ground := Go.Ground.phase }, { on := 3, ground := Go.Ground.phase }, { on := 4, ground := Go.Ground.phase }, { on := 5, ground := Go.Ground.phase }, { on := 6, ground := Go.Ground.phase }, { on := 7, ground := Go.Ground.phase }, { on := 8, ground := Go.Ground.phase }, { on := 9, ground := Go.Ground.phase }, { on := 10, ground := Go.Ground.phase }, { on := 11, ground := Go.Ground.phase }, { on := 12, ground := Go.Ground.phase }, { on := 13, ground := Go.Ground.phase }, { on := 14, ground := Go.Ground.phase }, { on := 15, ground := Go.Ground.phase }, { on := 16, ground := Go.Ground.phase }], guard := none }) (v := _) rfl (by kernel_rfl) (by kernel_rfl) (by kernel_rfl) (fun _ _ _ h => h) (Or.inl ⟨by rfl, ?hyr1_17⟩) (by assumption) ?rer1_17
        case hyr1_17 => (intro W hSw; (try dsimp only at hSw); go_simp; try with_reducible rfl)
        try simp only [Act.put, List.setIfInBounds_toArray, List.set_cons_zero, List.set_cons_succ]
        refine wpAnyH_done (by kernel_rfl) ?_ _
        refine NoPanic.normal ?_
        rename_i hK9
        refine hK9 _ _ ?_
        have HX : Hid (w9.heap[gr]? = some (.cells (rowZ n (i + 1)).toArray 3 (0, 0)) ∧ Bk w4.heap.size w9 ga gx (keyW ws) (List.range (i + 1)) ∧ Mv w4 w9 (fun j => j = ga ∨ j = gx ∨ j = gr ∨ w4.heap.size ≤ j)) := by
          refine ⟨m9.at ((Mv.of_below (below_drew W5) (fun _ => False)).at R5.out id) (fun hj => ?_), k9, ((HI.out.2.2.trans M5.out (fun j _ hj => .inr (.inr (.inl hj)))).later (below_drew W5)).trans m9 (fun j _ hj => ?_)⟩
          · have := hsep.out
            omega
          · rcases hj with h | h | h
            · exact .inl h
            · exact .inr (.inl h)
            · exact .inr (.inr (.inr h))
        clear k9 m9 s1 s0
        go_wp2_with fail
        go_roundw
        case rel => exact ⟨i + 1, by omega, by go_num, HX.out⟩
        case measure => simp [intOf]; omega
      · have t1 : ¬ (i : Int) < (n : Int) := by omega
        obtain rfl : i = n := by omega
        go_wp2_with fail
        go_meet
        exact HI
  obtain ⟨h61, h62, h63⟩ := hcut.out
  obtain ⟨w6, rfl⟩ : ∃ x, x = wc := ⟨_, rfl⟩
  have R6 : Hid (w6.heap[gr]? = some (.cells (rowL (List.range n)).toArray 3 (0, 0))) := by unfold Hid; rw [← rowZ_full]; exact h61
  have KA6 := hide h62
  have KB6 : Hid (Bg w6 (fun k => k = gb ∨ k = gy) (fun _ => False) gb gy 0 (fun _ => none) (fun _ => []) 0) := KB.out.frame h63 (fun j hj e => by have := hsep.out; rcases hj with rfl | rfl <;> omega) (fun _ h => h.elim)
  have MW6 : Hid (Mv w w6 (fun j => w.heap.size ≤ j)) := (Mv.of_below BW4.out _).trans h63 (fun j _ hj => by have := hsep.out; have := BW4.out.size; rcases hj with rfl | rfl | rfl | h <;> omega)
  have hs6 : Hid (w4.heap.size ≤ w6.heap.size) := h63.2.2.2.1
  clear hcut h61 h62 h63 KA KB K4
  go_upto_block 2 with fail
  go_cut [] (fun W => ∃ row, Hid (RowOk (keyW ws) n row ∧ W.heap[gr]? = some (.cells (rowL row).toArray 3 (0, 0)) ∧ Mv w6 W (fun j => j = gr ∨ w6.heap.size ≤ j)))
  case first =>
    go_wp2_with fail
    go_loopw [12] (fun v12 W => ∃ (i : Nat) (row : List Nat), v12 = .int .i64 (i : Int) ∧ i ≤ 1000 ∧ i ≤ ns ∧ Hid (RowOk (keyW ws) n row ∧ W.heap[gr]? = some (.cells (rowL row).toArray 3 (0, 0)) ∧ Mv w6 W (fun j => j = gr ∨ w6.heap.size ≤ j))) (fun v12 _ => 1000 - (intOf v12).toNat)
    case atStart => exact ⟨0, List.range n, rfl, by omega, by omega, RowOk.start _ _, R6.out, Mv.refl _ _⟩
    case round =>
      obtain ⟨i, row, rfl, hi, hin, HI⟩ := hrel
      by_cases hgo : i < ns ∧ i < 1000 ∧ 1 < n
      · obtain ⟨h1, h2, h3⟩ := hgo
        have t1 : (i : Int) < (ns : Int) := by omega
        have t2 : (i : Int) < 1000 := by omega
        have t3 : (1 : Int) < (n : Int) := by omega
        have tw : IntKind.i64.wrap ((i : Int) + 1) = (i : Int) + 1 := by
          rw [IntKind.wrap_i64]
          omega
        obtain ⟨m1, hm1⟩ : ∃ m, n = m + 1 := ⟨n - 1, by omega⟩
        have tn : IntKind.i64.wrap ((n : Int) - 1) = (m1 : Int) := by
          have := HN.out
          rw [IntKind.wrap_i64]
          omega
        have HM1 := hide hm1
        obtain ⟨ok, hr, hm⟩ := HI.out
        have hiz : i < zs.length := by have := HNZ.out; omega
        obtain ⟨iz, gz, oz, rfl, hgz, cz⟩ := HZ.out i hiz
        have cz1 : wr.cell? ⟨gz, oz + i, none⟩ = some (.int .i64 zs[i]) := (MW6.out.trans hm (fun j _ hj => by have := hsep.out; have := hs6.out; have := BW4.out.size; rcases hj with rfl | h <;> omega)).cell cz (by show ¬ w.heap.size ≤ gz; omega)
        obtain ⟨k, hk⟩ : ∃ k, k = pickZ zs[i] m1 := ⟨_, rfl⟩
        have hkl := (pickZ_lt zs[i] m1 (by omega)).1
        rw [← hk] at hkl
        have JK : Hid (∀ W, Calls Try.prog 7 #[.int .i64 zs[i], .int .i64 (m1 : Int)] W fun e w' => e = .returned (.int .i64 (k : Int)) ∧ w' = W) := fun W => by
          rw [hk]
          exact bpick_any zs[i] iz m1 (by omega) (by have := HN.out; omega) W
        clear hk iz cz hgz
        generalize zs[i] = z at cz1 JK
        have hl := ok.1
        have hk0 : k < row.length := by omega
        have hk1 : k + 1 < row.length := by omega
        have kw1 : IntKind.i64.wrap ((k : Int) + 1) = (k : Int) + 1 := by
          have := HN.out
          rw [IntKind.wrap_i64]
          omega
        have hp := ok.lt hk0
        have hq := ok.lt hk1
        obtain ⟨p, hpe⟩ : ∃ p, p = row[k] := ⟨_, rfl⟩
        obtain ⟨q, hqe⟩ : ∃ q, q = row[k + 1] := ⟨_, rfl⟩
        have HPE := hide hpe
        have HQE := hide hqe
        have r0 : wr.cell? ⟨gr, k, none⟩ = some (.int .i64 (p : Int)) := by
          rw [cell_of_row wr _ _ _ 3 (0, 0) hr, hpe]
          exact rowL_get hk0
        have r1 : wr.cell? ⟨gr, k + 1, none⟩ = some (.int .i64 (q : Int)) := by
          rw [cell_of_row wr _ _ _ 3 (0, 0) hr, hqe]
          exact rowL_get hk1
        rw [← hpe] at hp
        rw [← hqe] at hq
        have hpl : p < ws.length := by have := HN.out; have := HNW.out; omega
        have hql : q < ws.length := by have := HN.out; have := HNW.out; omega
        have tp : (p : Int) < (nw : Int) := by have := HN.out; omega
        have tq : (q : Int) < (nw : Int) := by have := HN.out; omega
        have tk : (k : Int) < (n : Int) := by omega
        have tk1 : (k : Int) + 1 < (n : Int) := by omega
        obtain ⟨rfl, hg⟩ := HW.out.1 (by omega)
        have ekp := keyW_at hpl
        have ekq := keyW_at hql
        have ibp := (HW.out.2 p hpl).1
        have ibq := (HW.out.2 q hql).1
        have mwr : Mv w wr (fun j => w.heap.size ≤ j) := MW6.out.trans hm (fun j _ hj => by have := hsep.out; have := hs6.out; have := BW4.out.size; rcases hj with rfl | h <;> omega)
        obtain ⟨p0, p1⟩ := HW.out.at mwr hpl
        obtain ⟨W1, hW1⟩ : ∃ X, X = wr.alloc (.cells #[.int .i64 ws[p].1, .int .i64 ws[p].2] 31) := ⟨_, rfl⟩
        obtain ⟨W2, hW2⟩ : ∃ X, X = W1.alloc (.cells #[.int .i64 ws[q].1, .int .i64 ws[q].2] 31) := ⟨_, rfl⟩
        have b1 : Below wr.heap.size wr W1 := hW1 ▸ below_alloc wr _
        have b2 : Below W1.heap.size W1 W2 := hW2 ▸ below_alloc W1 _
        obtain ⟨q0, q1⟩ := HW.out.at (mwr.later b1) hql
        have s1 : W1.cell? ⟨gr, k + 1, none⟩ = some (.int .i64 (q : Int)) := (Mv.of_below b1 (fun _ => False)).cell r1 id
        have x0 : W1.heap[wr.heap.size]? = some (.cells #[.int .i64 ws[p].1, .int .i64 ws[p].2] 31 (0, 0)) := by rw [hW1]; exact heap_alloc_new wr _
        have y0 : W2.heap[W1.heap.size]? = some (.cells #[.int .i64 ws[q].1, .int .i64 ws[q].2] 31 (0, 0)) := by rw [hW2]; exact heap_alloc_new W1 _
        have x1 := (Mv.of_below b2 (fun _ => False)).at x0 id
        have BW := hide (below_on b1 b2)
        have OK2 := hide ok
        have RW := hide hr
        have MR := hide hm
        have JP : Hid (∀ W, Calls Try.prog 7 #[.int .i64 ws[p].1, .int .i64 16] W fun e w' => e = .returned (.int .i64 (pickZ ws[p].1 16 : Int)) ∧ w' = W) := fun W => bpick_any ws[p].1 ibp.1 16 (by omega) (by omega) W
        have JP2 : Hid (∀ W, Calls Try.prog 7 #[.int .i64 ws[p].2, .int .i64 200] W fun e w' => e = .returned (.int .i64 (pickZ ws[p].2 200 : Int)) ∧ w' = W) := fun W => bpick_any ws[p].2 ibp.2 200 (by omega) (by omega) W
        have JQ : Hid (∀ W, Calls Try.prog 7 #[.int .i64 ws[q].1, .int .i64 16] W fun e w' => e = .returned (.int .i64 (pickZ ws[q].1 16 : Int)) ∧ w' = W) := fun W => bpick_any ws[q].1 ibq.1 16 (by omega) (by omega) W
        have JQ2 : Hid (∀ W, Calls Try.prog 7 #[.int .i64 ws[q].2, .int .i64 200] W fun e w' => e = .returned (.int .i64 (pickZ ws[q].2 200 : Int)) ∧ w' = W) := fun W => bpick_any ws[q].2 ibq.2 200 (by omega) (by omega) W
        clear ok hr hm ibp ibq mwr b1 b2 x0 hg hpe hqe
        have hn2 : 1 < n := h3
        clear hm1 h3
        generalize pickZ ws[p].1 16 = pa at ekp JP
        generalize pickZ ws[p].2 200 = pb at ekp JP2
        generalize pickZ ws[q].1 16 = qa at ekq JQ
        generalize pickZ ws[q].2 200 = qb at ekq JQ2
        generalize ws[p].1 = v1 at p0 hW1 x1 JP
        generalize ws[p].2 = v2 at p1 hW1 x1 JP2
        generalize ws[q].1 = u1 at q0 hW2 y0 JQ
        generalize ws[q].2 = u2 at q1 hW2 y0 JQ2
        have HEP := hide ekp
        have HEQ := hide ekq
        clear ekp ekq
        go_wp2_with fail
        refine (JK.out _).mono ?_
        rintro e w' ⟨rfl, hw'⟩
        obtain rfl : wr = w' := hw'.symm
        go_upto_region 20 with fail
        obtain ⟨kx, hkx⟩ : ∃ j, j = wr.heap.size := ⟨_, rfl⟩
        rw [← hW1]
        clear p0 p1 r0 r1 cz1 t1 t2 t3 JK hW1
        go_upto_region 21 with fail
        rw [← hW2]
        obtain ⟨ky, hky⟩ : ∃ j, j = W1.heap.size := ⟨_, rfl⟩
        rw [← hkx] at x1
        rw [← hkx]
        rw [← hky] at y0
        rw [← hky]
        clear hW2 q0 q1 s1
        have MW2 : Hid (Mv wr W2 (fun _ => False)) := Mv.of_below BW.out _
        have c0 : W2.cell? ⟨kx, 0, none⟩ = some (.int .i64 v1) := by rw [cell_of_row W2 _ _ _ 31 (0, 0) x1]; rfl
        have c1 : W2.cell? ⟨kx, 1, none⟩ = some (.int .i64 v2) := by rw [cell_of_row W2 _ _ _ 31 (0, 0) x1]; rfl
        have d0 : W2.cell? ⟨ky, 0, none⟩ = some (.int .i64 u1) := by rw [cell_of_row W2 _ _ _ 31 (0, 0) y0]; rfl
        have d1 : W2.cell? ⟨ky, 1, none⟩ = some (.int .i64 u2) := by rw [cell_of_row W2 _ _ _ 31 (0, 0) y0]; rfl
        have s0 : W2.drew.cell? ⟨kx, 0, none⟩ = some (.int .i64 v1) ∧ W2.drew.cell? ⟨kx, 1, none⟩ = some (.int .i64 v2) ∧ W2.drew.cell? ⟨ky, 0, none⟩ = some (.int .i64 u1) ∧ W2.drew.cell? ⟨ky, 1, none⟩ = some (.int .i64 u2) := ⟨c0, c1, d0, d1⟩
        clear x1 y0 hkx hky c0 c1 d0 d1 BW
        go_cut [123] (fun v W => v = .bool (decide (¬ (keyW ws p = keyW ws q))) ∧ W = W2.drew)
        case first =>
          by_cases he1 : pa = qa
          · have hne1 : ¬ (pa : Int) ≠ (qa : Int) := by omega
            by_cases he2 : pb = qb
            · have hne2 : ¬ (pb : Int) ≠ (qb : Int) := by omega
              have hd : decide (¬ (keyW ws p = keyW ws q)) = false := by
                rw [HEP.out, HEQ.out, he1, he2]
                simp
              refine wp_region_noPanic ?_
              refine wp_region_held_drew (S := (fun V => V.cell? ⟨kx, 0, none⟩ = some (.int .i64 v1) ∧ V.cell? ⟨kx, 1, none⟩ = some (.int .i64 v2) ∧ V.cell? ⟨ky, 0, none⟩ = some (.int .i64 u1) ∧ V.cell? ⟨ky, 1, none⟩ = some (.int .i64 u2))) (by kernel_rfl) (s0) (fun hHeld => ?_)
              refine' wpAnyH_take (i := 0) (oi := { dst := some 108, op := Go.Op.fieldAddr 31 (Go.Operand.tmp 14) 0, type := 0, pos := "law.go:478", after := #[], guard := none }) (v := _) rfl (by kernel_rfl) (by kernel_rfl) (by kernel_rfl) (fun _ _ _ h => h) (Or.inl ⟨by rfl, ?hyr2_0⟩) (by assumption) ?rer2_0
              case hyr2_0 => (intro W hSw; (try dsimp only at hSw); go_simp; try with_reducible rfl)
              try simp only [Act.put, List.setIfInBounds_toArray, List.set_cons_zero, List.set_cons_succ]
              refine' wpAnyH_take (i := 1) (oi := { dst := some 109, op := Go.Op.load 3 (Go.Operand.tmp 108), type := 3, pos := "law.go:478", after := #[{ on := 0, ground := Go.Ground.data }], guard := none }) (v := _) rfl (by kernel_rfl) (by kernel_rfl) (by kernel_rfl) (fun _ _ _ h => h) (Or.inl ⟨by rfl, ?hyr2_1⟩) (by assumption) ?rer2_1
              case hyr2_1 => (intro W hSw; (try dsimp only at hSw); go_simp; try with_reducible rfl)
              try simp only [Act.put, List.setIfInBounds_toArray, List.set_cons_zero, List.set_cons_succ]
              refine' wpAnyH_take (i := 3) (oi := { dst := some 111, op := Go.Op.fieldAddr 31 (Go.Operand.tmp 15) 0, type := 0, pos := "law.go:478", after := #[], guard := none }) (v := _) rfl (by kernel_rfl) (by kernel_rfl) (by kernel_rfl) (fun _ _ _ h => h) (Or.inl ⟨by rfl, ?hyr2_3⟩) (by assumption) ?rer2_3
              case hyr2_3 => (intro W hSw; (try dsimp only at hSw); go_simp; try with_reducible rfl)
              try simp only [Act.put, List.setIfInBounds_toArray, List.set_cons_zero, List.set_cons_succ]
              refine' wpAnyH_take (i := 4) (oi := { dst := some 112, op := Go.Op.load 3 (Go.Operand.tmp 111), type := 3, pos := "law.go:478", after := #[{ on := 3, ground := Go.Ground.data }], guard := none }) (v := _) rfl (by kernel_rfl) (by kernel_rfl) (by kernel_rfl) (fun _ _ _ h => h) (Or.inl ⟨by rfl, ?hyr2_4⟩) (by assumption) ?rer2_4
              case hyr2_4 => (intro W hSw; (try dsimp only at hSw); go_simp; try with_reducible rfl)
              try simp only [Act.put, List.setIfInBounds_toArray, List.set_cons_zero, List.set_cons_succ]
              refine wpAnyH_ready (rs := [2]) (by kernel_rfl) (by simp) ?_
              refine AllReadyH.cons (o := { dst := some 110, op := Go.Op.call { callee := Go.Callee.value (Go.Operand.func 7), args := #[Go.Operand.tmp 109, Go.Operand.const (Go.Value.int Go.IntKind.i64 16)], argTypes := #[3, 3] }, type := 3, pos := "law.go:478", after := #[{ on := 1, ground := Go.Ground.data }], guard := none }) rfl (fun K hK => ?_) AllReadyH.nil
              clear hHeld
              go_simp
              refine (JP.out _).mono ?_
              rintro e w' ⟨rfl, rfl⟩
              refine hK.out _ _ (s0) (fun hHeld => ?_)
              clear hK K
              try simp only [Act.put, List.setIfInBounds_toArray, List.set_cons_zero, List.set_cons_succ]
              refine wpAnyH_ready (rs := [5]) (by kernel_rfl) (by simp) ?_
              refine AllReadyH.cons (o := { dst := some 113, op := Go.Op.call { callee := Go.Callee.value (Go.Operand.func 7), args := #[Go.Operand.tmp 112, Go.Operand.const (Go.Value.int Go.IntKind.i64 16)], argTypes := #[3, 3] }, type := 3, pos := "law.go:478", after := #[{ on := 4, ground := Go.Ground.data }, { on := 2, ground := Go.Ground.chain }], guard := none }) rfl (fun K hK => ?_) AllReadyH.nil
              clear hHeld
              go_simp
              refine (JQ.out _).mono ?_
              rintro e w' ⟨rfl, rfl⟩
              refine hK.out _ _ (s0) (fun hHeld => ?_)
              clear hK K
              try simp only [Act.put, List.setIfInBounds_toArray, List.set_cons_zero, List.set_cons_succ]
              refine' wpAnyH_take (i := 6) (oi := { dst := some 114, op := Go.Op.binOp Go.BinOp.neq 3 (Go.Operand.tmp 110) (Go.Operand.tmp 113) 3, type := 4, pos := "law.go:478", after := #[{ on := 2, ground := Go.Ground.data }, { on := 5, ground := Go.Ground.data }], guard := none }) (v := _) rfl (by kernel_rfl) (by kernel_rfl) (by kernel_rfl) (fun _ _ _ h => h) (Or.inl ⟨by rfl, ?hyr2_6⟩) (by assumption) ?rer2_6
              case hyr2_6 => (intro W hSw; (try dsimp only at hSw); go_simp; try with_reducible rfl)
              try simp only [Act.put, List.setIfInBounds_toArray, List.set_cons_zero, List.set_cons_succ]
              refine' wpAnyH_take (i := 7) (oi := { dst := some 115, op := Go.Op.move (Go.Operand.tmp 114), type := 4, pos := "law.go:478", after := #[{ on := 6, ground := Go.Ground.data }, { on := 5, ground := Go.Ground.chain }], guard := none }) (v := _) rfl (by kernel_rfl) (by kernel_rfl) (by kernel_rfl) (fun _ _ _ h => h) (Or.inl ⟨by rfl, ?hyr2_7⟩) (by assumption) ?rer2_7
              case hyr2_7 => (intro W hSw; (try dsimp only at hSw); go_simp; try with_reducible rfl)
              try simp only [Act.put, List.setIfInBounds_toArray, List.set_cons_zero, List.set_cons_succ]
              refine' wpAnyH_take (i := 8) (oi := { dst := some 116, op := Go.Op.fieldAddr 31 (Go.Operand.tmp 14) 1, type := 0, pos := "law.go:478", after := #[{ on := 7, ground := Go.Ground.guard }], guard := some (7, false) }) (v := _) rfl (by kernel_rfl) (by kernel_rfl) (by kernel_rfl) (fun _ _ _ h => h) (Or.inl ⟨by rfl, ?hyr2_8⟩) (by assumption) ?rer2_8
              case hyr2_8 => (intro W hSw; (try dsimp only at hSw); go_simp; try with_reducible rfl)
              try simp only [Act.put, List.setIfInBounds_toArray, List.set_cons_zero, List.set_cons_succ]
              refine' wpAnyH_take (i := 9) (oi := { dst := some 117, op := Go.Op.load 3 (Go.Operand.tmp 116), type := 3, pos := "law.go:478", after := #[{ on := 8, ground := Go.Ground.data }, { on := 7, ground := Go.Ground.guard }], guard := some (7, false) }) (v := _) rfl (by kernel_rfl) (by kernel_rfl) (by kernel_rfl) (fun _ _ _ h => h) (Or.inl ⟨by rfl, ?hyr2_9⟩) (by assumption) ?rer2_9
              case hyr2_9 => (intro W hSw; (try dsimp only at hSw); go_simp; try with_reducible rfl)
              try simp only [Act.put, List.setIfInBounds_toArray, List.set_cons_zero, List.set_cons_succ]
              refine' wpAnyH_take (i := 11) (oi := { dst := some 119, op := Go.Op.fieldAddr 31 (Go.Operand.tmp 15) 1, type := 0, pos := "law.go:478", after := #[{ on := 7, ground := Go.Ground.guard }], guard := some (7, false) }) (v := _) rfl (by kernel_rfl) (by kernel_rfl) (by kernel_rfl) (fun _ _ _ h => h) (Or.inl ⟨by rfl, ?hyr2_11⟩) (by assumption) ?rer2_11
              case hyr2_11 => (intro W hSw; (try dsimp only at hSw); go_simp; try with_reducible rfl)
              try simp only [Act.put, List.setIfInBounds_toArray, List.set_cons_zero, List.set_cons_succ]
              refine' wpAnyH_take (i := 12) (oi := { dst := some 120, op := Go.Op.load 3 (Go.Operand.tmp 119), type := 3, pos := "law.go:478", after := #[{ on := 11, ground := Go.Ground.data }, { on := 7, ground := Go.Ground.guard }], guard := some (7, false) }) (v := _) rfl (by kernel_rfl) (by kernel_rfl) (by kernel_rfl) (fun _ _ _ h => h) (Or.inl ⟨by rfl, ?hyr2_12⟩) (by assumption) ?rer2_12
              case hyr2_12 => (intro W hSw; (try dsimp only at hSw); go_simp; try with_reducible rfl)
              try simp only [Act.put, List.setIfInBounds_toArray, List.set_cons_zero, List.set_cons_succ]
              refine wpAnyH_ready (rs := [10]) (by kernel_rfl) (by simp) ?_
              refine AllReadyH.cons (o := { dst := some 118, op := Go.Op.call { callee := Go.Callee.value (Go.Operand.func 7), args := #[Go.Operand.tmp 117, Go.Operand.const (Go.Value.int Go.IntKind.i64 200)], argTypes := #[3, 3] }, type := 3, pos := "law.go:478", after := #[{ on := 9, ground := Go.Ground.data }, { on := 7, ground := Go.Ground.chain }, { on := 7, ground := Go.Ground.guard }], guard := some (7, false) }) rfl (fun K hK => ?_) AllReadyH.nil
              clear hHeld
              go_simp
              refine (JP2.out _).mono ?_
              rintro e w' ⟨rfl, rfl⟩
              refine hK.out _ _ (s0) (fun hHeld => ?_)
              clear hK K
              try simp only [Act.put, List.setIfInBounds_toArray, List.set_cons_zero, List.set_cons_succ]
              refine wpAnyH_ready (rs := [13]) (by kernel_rfl) (by simp) ?_
              refine AllReadyH.cons (o := { dst := some 121, op := Go.Op.call { callee := Go.Callee.value (Go.Operand.func 7), args := #[Go.Operand.tmp 120, Go.Operand.const (Go.Value.int Go.IntKind.i64 200)], argTypes := #[3, 3] }, type := 3, pos := "law.go:478", after := #[{ on := 12, ground := Go.Ground.data }, { on := 10, ground := Go.Ground.chain }, { on := 7, ground := Go.Ground.guard }], guard := some (7, false) }) rfl (fun K hK => ?_) AllReadyH.nil
              clear hHeld
              go_simp
              refine (JQ2.out _).mono ?_
              rintro e w' ⟨rfl, rfl⟩
              refine hK.out _ _ (s0) (fun hHeld => ?_)
              clear hK K
              try simp only [Act.put, List.setIfInBounds_toArray, List.set_cons_zero, List.set_cons_succ]
              refine' wpAnyH_take (i := 14) (oi := { dst := some 122, op := Go.Op.binOp Go.BinOp.neq 3 (Go.Operand.tmp 118) (Go.Operand.tmp 121) 3, type := 4, pos := "law.go:478", after := #[{ on := 10, ground := Go.Ground.data }, { on := 13, ground := Go.Ground.data }, { on := 7, ground := Go.Ground.guard }], guard := some (7, false) }) (v := _) rfl (by kernel_rfl) (by kernel_rfl) (by kernel_rfl) (fun _ _ _ h => h) (Or.inl ⟨by rfl, ?hyr2_14⟩) (by assumption) ?rer2_14
              case hyr2_14 => (intro W hSw; (try dsimp only at hSw); go_simp; try with_reducible rfl)
              try simp only [Act.put, List.setIfInBounds_toArray, List.set_cons_zero, List.set_cons_succ]
              refine' wpAnyH_take (i := 15) (oi := { dst := some 123, op := Go.Op.pick (Go.Operand.tmp 115) (Go.Operand.const (Go.Value.bool true)) (Go.Operand.tmp 122), type := 4, pos := "law.go:478", after := #[{ on := 7, ground := Go.Ground.data }, { on := 14, ground := Go.Ground.data }], guard := none }) (v := _) rfl (by kernel_rfl) (by kernel_rfl) (by kernel_rfl) (fun _ _ _ h => h) (Or.inl ⟨by rfl, ?hyr2_15⟩) (by assumption) ?rer2_15
              case hyr2_15 => (intro W hSw; (try dsimp only at hSw); go_simp; try with_reducible rfl)
              try simp only [Act.put, List.setIfInBounds_toArray, List.set_cons_zero, List.set_cons_succ]
              refine wpAnyH_done (by kernel_rfl) ?_ _
              refine NoPanic.normal ?_
              rename_i hJ9 hK9
              refine hK9 _ _ (Met.intro (hJ9 _ _ ?_))
              repeat apply Exists.intro
              exact ⟨⟨by rw [hd], rfl⟩, rfl⟩
            · have hne2 : ((pb : Int) != (qb : Int)) = true := by
                simp
                omega
              have hd : decide (¬ (keyW ws p = keyW ws q)) = true := by
                rw [HEP.out, HEQ.out, he1]
                simp
                omega
              refine wp_region_noPanic ?_
              refine wp_region_held_drew (S := (fun V => V.cell? ⟨kx, 0, none⟩ = some (.int .i64 v1) ∧ V.cell? ⟨kx, 1, none⟩ = some (.int .i64 v2) ∧ V.cell? ⟨ky, 0, none⟩ = some (.int .i64 u1) ∧ V.cell? ⟨ky, 1, none⟩ = some (.int .i64 u2))) (by kernel_rfl) (s0) (fun hHeld => ?_)
              refine' wpAnyH_take (i := 0) (oi := { dst := some 108, op := Go.Op.fieldAddr 31 (Go.Operand.tmp 14) 0, type := 0, pos := "law.go:478", after := #[], guard := none }) (v := _) rfl (by kernel_rfl) (by kernel_rfl) (by kernel_rfl) (fun _ _ _ h => h) (Or.inl ⟨by rfl, ?hyr3_0⟩) (by assumption) ?rer3_0
              case hyr3_0 => (intro W hSw; (try dsimp only at hSw); go_simp; try with_reducible rfl)
              try simp only [Act.put, List.setIfInBounds_toArray, List.set_cons_zero, List.set_cons_succ]
              refine' wpAnyH_take (i := 1) (oi := { dst := some 109, op := Go.Op.load 3 (Go.Operand.tmp 108), type := 3, pos := "law.go:478", after := #[{ on := 0, ground := Go.Ground.data }], guard := none }) (v := _) rfl (by kernel_rfl) (by kernel_rfl) (by kernel_rfl) (fun _ _ _ h => h) (Or.inl ⟨by rfl, ?hyr3_1⟩) (by assumption) ?rer3_1
              case hyr3_1 => (intro W hSw; (try dsimp only at hSw); go_simp; try with_reducible rfl)
              try simp only [Act.put, List.setIfInBounds_toArray, List.set_cons_zero, List.set_cons_succ]
              refine' wpAnyH_take (i := 3) (oi := { dst := some 111, op := Go.Op.fieldAddr 31 (Go.Operand.tmp 15) 0, type := 0, pos := "law.go:478", after := #[], guard := none }) (v := _) rfl (by kernel_rfl) (by kernel_rfl) (by kernel_rfl) (fun _ _ _ h => h) (Or.inl ⟨by rfl, ?hyr3_3⟩) (by assumption) ?rer3_3
              case hyr3_3 => (intro W hSw; (try dsimp only at hSw); go_simp; try with_reducible rfl)
              try simp only [Act.put, List.setIfInBounds_toArray, List.set_cons_zero, List.set_cons_succ]
              refine' wpAnyH_take (i := 4) (oi := { dst := some 112, op := Go.Op.load 3 (Go.Operand.tmp 111), type := 3, pos := "law.go:478", after := #[{ on := 3, ground := Go.Ground.data }], guard := none }) (v := _) rfl (by kernel_rfl) (by kernel_rfl) (by kernel_rfl) (fun _ _ _ h => h) (Or.inl ⟨by rfl, ?hyr3_4⟩) (by assumption) ?rer3_4
              case hyr3_4 => (intro W hSw; (try dsimp only at hSw); go_simp; try with_reducible rfl)
              try simp only [Act.put, List.setIfInBounds_toArray, List.set_cons_zero, List.set_cons_succ]
              refine wpAnyH_ready (rs := [2]) (by kernel_rfl) (by simp) ?_
              refine AllReadyH.cons (o := { dst := some 110, op := Go.Op.call { callee := Go.Callee.value (Go.Operand.func 7), args := #[Go.Operand.tmp 109, Go.Operand.const (Go.Value.int Go.IntKind.i64 16)], argTypes := #[3, 3] }, type := 3, pos := "law.go:478", after := #[{ on := 1, ground := Go.Ground.data }], guard := none }) rfl (fun K hK => ?_) AllReadyH.nil
              clear hHeld
              go_simp
              refine (JP.out _).mono ?_
              rintro e w' ⟨rfl, rfl⟩
              refine hK.out _ _ (s0) (fun hHeld => ?_)
              clear hK K
              try simp only [Act.put, List.setIfInBounds_toArray, List.set_cons_zero, List.set_cons_succ]
              refine wpAnyH_ready (rs := [5]) (by kernel_rfl) (by simp) ?_
              refine AllReadyH.cons (o := { dst := some 113, op := Go.Op.call { callee := Go.Callee.value (Go.Operand.func 7), args := #[Go.Operand.tmp 112, Go.Operand.const (Go.Value.int Go.IntKind.i64 16)], argTypes := #[3, 3] }, type := 3, pos := "law.go:478", after := #[{ on := 4, ground := Go.Ground.data }, { on := 2, ground := Go.Ground.chain }], guard := none }) rfl (fun K hK => ?_) AllReadyH.nil
              clear hHeld
              go_simp
              refine (JQ.out _).mono ?_
              rintro e w' ⟨rfl, rfl⟩
              refine hK.out _ _ (s0) (fun hHeld => ?_)
              clear hK K
              try simp only [Act.put, List.setIfInBounds_toArray, List.set_cons_zero, List.set_cons_succ]
              refine' wpAnyH_take (i := 6) (oi := { dst := some 114, op := Go.Op.binOp Go.BinOp.neq 3 (Go.Operand.tmp 110) (Go.Operand.tmp 113) 3, type := 4, pos := "law.go:478", after := #[{ on := 2, ground := Go.Ground.data }, { on := 5, ground := Go.Ground.data }], guard := none }) (v := _) rfl (by kernel_rfl) (by kernel_rfl) (by kernel_rfl) (fun _ _ _ h => h) (Or.inl ⟨by rfl, ?hyr3_6⟩) (by assumption) ?rer3_6
              case hyr3_6 => (intro W hSw; (try dsimp only at hSw); go_simp; try with_reducible rfl)
              try simp only [Act.put, List.setIfInBounds_toArray, List.set_cons_zero, List.set_cons_succ]
              refine' wpAnyH_take (i := 7) (oi := { dst := some 115, op := Go.Op.move (Go.Operand.tmp 114), type := 4, pos := "law.go:478", after := #[{ on := 6, ground := Go.Ground.data }, { on := 5, ground := Go.Ground.chain }], guard := none }) (v := _) rfl (by kernel_rfl) (by kernel_rfl) (by kernel_rfl) (fun _ _ _ h => h) (Or.inl ⟨by rfl, ?hyr3_7⟩) (by assumption) ?rer3_7
              case hyr3_7 => (intro W hSw; (try dsimp only at hSw); go_simp; try with_reducible rfl)
              try simp only [Act.put, List.setIfInBounds_toArray, List.set_cons_zero, List.set_cons_succ]
              refine' wpAnyH_take (i := 8) (oi := { dst := some 116, op := Go.Op.fieldAddr 31 (Go.Operand.tmp 14) 1, type := 0, pos := "law.go:478", after := #[{ on := 7, ground := Go.Ground.guard }], guard := some (7, false) }) (v := _) rfl (by kernel_rfl) (by kernel_rfl) (by kernel_rfl) (fun _ _ _ h => h) (Or.inl ⟨by rfl, ?hyr3_8⟩) (by assumption) ?rer3_8
              case hyr3_8 => (intro W hSw; (try dsimp only at hSw); go_simp; try with_reducible rfl)
              try simp only [Act.put, List.setIfInBounds_toArray, List.set_cons_zero, List.set_cons_succ]
              refine' wpAnyH_take (i := 9) (oi := { dst := some 117, op := Go.Op.load 3 (Go.Operand.tmp 116), type := 3, pos := "law.go:478", after := #[{ on := 8, ground := Go.Ground.data }, { on := 7, ground := Go.Ground.guard }], guard := some (7, false) }) (v := _) rfl (by kernel_rfl) (by kernel_rfl) (by kernel_rfl) (fun _ _ _ h => h) (Or.inl ⟨by rfl, ?hyr3_9⟩) (by assumption) ?rer3_9
              case hyr3_9 => (intro W hSw; (try dsimp only at hSw); go_simp; try with_reducible rfl)
              try simp only [Act.put, List.setIfInBounds_toArray, List.set_cons_zero, List.set_cons_succ]
              refine' wpAnyH_take (i := 11) (oi := { dst := some 119, op := Go.Op.fieldAddr 31 (Go.Operand.tmp 15) 1, type := 0, pos := "law.go:478", after := #[{ on := 7, ground := Go.Ground.guard }], guard := some (7, false) }) (v := _) rfl (by kernel_rfl) (by kernel_rfl) (by kernel_rfl) (fun _ _ _ h => h) (Or.inl ⟨by rfl, ?hyr3_11⟩) (by assumption) ?rer3_11
              case hyr3_11 => (intro W hSw; (try dsimp only at hSw); go_simp; try with_reducible rfl)
              try simp only [Act.put, List.setIfInBounds_toArray, List.set_cons_zero, List.set_cons_succ]
              refine' wpAnyH_take (i := 12) (oi := { dst := some 120, op := Go.Op.load 3 (Go.Operand.tmp 119), type := 3, pos := "law.go:478", after := #[{ on := 11, ground := Go.Ground.data }, { on := 7, ground := Go.Ground.guard }], guard := some (7, false) }) (v := _) rfl (by kernel_rfl) (by kernel_rfl) (by kernel_rfl) (fun _ _ _ h => h) (Or.inl ⟨by rfl, ?hyr3_12⟩) (by assumption) ?rer3_12
              case hyr3_12 => (intro W hSw; (try dsimp only at hSw); go_simp; try with_reducible rfl)
              try simp only [Act.put, List.setIfInBounds_toArray, List.set_cons_zero, List.set_cons_succ]
              refine wpAnyH_ready (rs := [10]) (by kernel_rfl) (by simp) ?_
              refine AllReadyH.cons (o := { dst := some 118, op := Go.Op.call { callee := Go.Callee.value (Go.Operand.func 7), args := #[Go.Operand.tmp 117, Go.Operand.const (Go.Value.int Go.IntKind.i64 200)], argTypes := #[3, 3] }, type := 3, pos := "law.go:478", after := #[{ on := 9, ground := Go.Ground.data }, { on := 7, ground := Go.Ground.chain }, { on := 7, ground := Go.Ground.guard }], guard := some (7, false) }) rfl (fun K hK => ?_) AllReadyH.nil
              clear hHeld
              go_simp
              refine (JP2.out _).mono ?_
              rintro e w' ⟨rfl, rfl⟩
              refine hK.out _ _ (s0) (fun hHeld => ?_)
              clear hK K
              try simp only [Act.put, List.setIfInBounds_toArray, List.set_cons_zero, List.set_cons_succ]
              refine wpAnyH_ready (rs := [13]) (by kernel_rfl) (by simp) ?_
              refine AllReadyH.cons (o := { dst := some 121, op := Go.Op.call { callee := Go.Callee.value (Go.Operand.func 7), args := #[Go.Operand.tmp 120, Go.Operand.const (Go.Value.int Go.IntKind.i64 200)], argTypes := #[3, 3] }, type := 3, pos := "law.go:478", after := #[{ on := 12, ground := Go.Ground.data }, { on := 10, ground := Go.Ground.chain }, { on := 7, ground := Go.Ground.guard }], guard := some (7, false) }) rfl (fun K hK => ?_) AllReadyH.nil
              clear hHeld
              go_simp
              refine (JQ2.out _).mono ?_
              rintro e w' ⟨rfl, rfl⟩
              refine hK.out _ _ (s0) (fun hHeld => ?_)
              clear hK K
              try simp only [Act.put, List.setIfInBounds_toArray, List.set_cons_zero, List.set_cons_succ]
              refine' wpAnyH_take (i := 14) (oi := { dst := some 122, op := Go.Op.binOp Go.BinOp.neq 3 (Go.Operand.tmp 118) (Go.Operand.tmp 121) 3, type := 4, pos := "law.go:478", after := #[{ on := 10, ground := Go.Ground.data }, { on := 13, ground := Go.Ground.data }, { on := 7, ground := Go.Ground.guard }], guard := some (7, false) }) (v := _) rfl (by kernel_rfl) (by kernel_rfl) (by kernel_rfl) (fun _ _ _ h => h) (Or.inl ⟨by rfl, ?hyr3_14⟩) (by assumption) ?rer3_14
              case hyr3_14 => (intro W hSw; (try dsimp only at hSw); go_simp; try with_reducible rfl)
              try simp only [Act.put, List.setIfInBounds_toArray, List.set_cons_zero, List.set_cons_succ]
              refine' wpAnyH_take (i := 15) (oi := { dst := some 123, op := Go.Op.pick (Go.Operand.tmp 115) (Go.Operand.const (Go.Value.bool true)) (Go.Operand.tmp 122), type := 4, pos := "law.go:478", after := #[{ on := 7, ground := Go.Ground.data }, { on := 14, ground := Go.Ground.data }], guard := none }) (v := _) rfl (by kernel_rfl) (by kernel_rfl) (by kernel_rfl) (fun _ _ _ h => h) (Or.inl ⟨by rfl, ?hyr3_15⟩) (by assumption) ?rer3_15
              case hyr3_15 => (intro W hSw; (try dsimp only at hSw); go_simp; try with_reducible rfl)
              try simp only [Act.put, List.setIfInBounds_toArray, List.set_cons_zero, List.set_cons_succ]
              refine wpAnyH_done (by kernel_rfl) ?_ _
              refine NoPanic.normal ?_
              rename_i hJ9 hK9
              refine hK9 _ _ (Met.intro (hJ9 _ _ ?_))
              repeat apply Exists.intro
              exact ⟨⟨by rw [hd], rfl⟩, rfl⟩
          · have hne1 : ((pa : Int) != (qa : Int)) = true := by
              simp
              omega
            have hd : decide (¬ (keyW ws p = keyW ws q)) = true := by
              rw [HEP.out, HEQ.out]
              simp
              omega
            refine wp_region_noPanic ?_
            refine wp_region_held_drew (S := (fun V => V.cell? ⟨kx, 0, none⟩ = some (.int .i64 v1) ∧ V.cell? ⟨kx, 1, none⟩ = some (.int .i64 v2) ∧ V.cell? ⟨ky, 0, none⟩ = some (.int .i64 u1) ∧ V.cell? ⟨ky, 1, none⟩ = some (.int .i64 u2))) (by kernel_rfl) (s0) (fun hHeld => ?_)
            refine' wpAnyH_take (i := 0) (oi := { dst := some 108, op := Go.Op.fieldAddr 31 (Go.Operand.tmp 14) 0, type := 0, pos := "law.go:478", after := #[], guard := none }) (v := _) rfl (by kernel_rfl) (by kernel_rfl) (by kernel_rfl) (fun _ _ _ h => h) (Or.inl ⟨by rfl, ?hyr4_0⟩) (by assumption) ?rer4_0
            case hyr4_0 => (intro W hSw; (try dsimp only at hSw); go_simp; try with_reducible rfl)
            try simp only [Act.put, List.setIfInBounds_toArray, List.set_cons_zero, List.set_cons_succ]
            refine' wpAnyH_take (i := 1) (oi := { dst := some 109, op := Go.Op.load 3 (Go.Operand.tmp 108), type := 3, pos := "law.go:478", after := #[{ on := 0, ground := Go.Ground.data }], guard := none }) (v := _) rfl (by kernel_rfl) (by kernel_rfl) (by kernel_rfl) (fun _ _ _ h => h) (Or.inl ⟨by rfl, ?hyr4_1⟩) (by assumption) ?rer4_1
            case hyr4_1 => (intro W hSw; (try dsimp only at hSw); go_simp; try with_reducible rfl)
            try simp only [Act.put, List.setIfInBounds_toArray, List.set_cons_zero, List.set_cons_succ]
            refine' wpAnyH_take (i := 3) (oi := { dst := some 111, op := Go.Op.fieldAddr 31 (Go.Operand.tmp 15) 0, type := 0, pos := "law.go:478", after := #[], guard := none }) (v := _) rfl (by kernel_rfl) (by kernel_rfl) (by kernel_rfl) (fun _ _ _ h => h) (Or.inl ⟨by rfl, ?hyr4_3⟩) (by assumption) ?rer4_3
            case hyr4_3 => (intro W hSw; (try dsimp only at hSw); go_simp; try with_reducible rfl)
            try simp only [Act.put, List.setIfInBounds_toArray, List.set_cons_zero, List.set_cons_succ]
            refine' wpAnyH_take (i := 4) (oi := { dst := some 112, op := Go.Op.load 3 (Go.Operand.tmp 111), type := 3, pos := "law.go:478", after := #[{ on := 3, ground := Go.Ground.data }], guard := none }) (v := _) rfl (by kernel_rfl) (by kernel_rfl) (by kernel_rfl) (fun _ _ _ h => h) (Or.inl ⟨by rfl, ?hyr4_4⟩) (by assumption) ?rer4_4
            case hyr4_4 => (intro W hSw; (try dsimp only at hSw); go_simp; try with_reducible rfl)
            try simp only [Act.put, List.setIfInBounds_toArray, List.set_cons_zero, List.set_cons_succ]
            refine wpAnyH_ready (rs := [2]) (by kernel_rfl) (by simp) ?_
            refine AllReadyH.cons (o := { dst := some 110, op := Go.Op.call { callee := Go.Callee.value (Go.Operand.func 7), args := #[Go.Operand.tmp 109, Go.Operand.const (Go.Value.int Go.IntKind.i64 16)], argTypes := #[3, 3] }, type := 3, pos := "law.go:478", after := #[{ on := 1, ground := Go.Ground.data }], guard := none }) rfl (fun K hK => ?_) AllReadyH.nil
            clear hHeld
            go_simp
            refine (JP.out _).mono ?_
            rintro e w' ⟨rfl, rfl⟩
            refine hK.out _ _ (s0) (fun hHeld => ?_)
            clear hK K
            try simp only [Act.put, List.setIfInBounds_toArray, List.set_cons_zero, List.set_cons_succ]
            refine wpAnyH_ready (rs := [5]) (by kernel_rfl) (by simp) ?_
            refine AllReadyH.cons (o := { dst := some 113, op := Go.Op.call { callee := Go.Callee.value (Go.Operand.func 7), args := #[Go.Operand.tmp 112, Go.Operand.const (Go.Value.int Go.IntKind.i64 16)], argTypes := #[3, 3] }, type := 3, pos := "law.go:478", after := #[{ on := 4, ground := Go.Ground.data }, { on := 2, ground := Go.Ground.chain }], guard := none }) rfl (fun K hK => ?_) AllReadyH.nil
            clear hHeld
            go_simp
            refine (JQ.out _).mono ?_
            rintro e w' ⟨rfl, rfl⟩
            refine hK.out _ _ (s0) (fun hHeld => ?_)
            clear hK K
            try simp only [Act.put, List.setIfInBounds_toArray, List.set_cons_zero, List.set_cons_succ]
            refine' wpAnyH_take (i := 6) (oi := { dst := some 114, op := Go.Op.binOp Go.BinOp.neq 3 (Go.Operand.tmp 110) (Go.Operand.tmp 113) 3, type := 4, pos := "law.go:478", after := #[{ on := 2, ground := Go.Ground.data }, { on := 5, ground := Go.Ground.data }], guard := none }) (v := _) rfl (by kernel_rfl) (by kernel_rfl) (by kernel_rfl) (fun _ _ _ h => h) (Or.inl ⟨by rfl, ?hyr4_6⟩) (by assumption) ?rer4_6
            case hyr4_6 => (intro W hSw; (try dsimp only at hSw); go_simp; try with_reducible rfl)
            try simp only [Act.put, List.setIfInBounds_toArray, List.set_cons_zero, List.set_cons_succ]
            refine' wpAnyH_take (i := 7) (oi := { dst := some 115, op := Go.Op.move (Go.Operand.tmp 114), type := 4, pos := "law.go:478", after := #[{ on := 6, ground := Go.Ground.data }, { on := 5, ground := Go.Ground.chain }], guard := none }) (v := _) rfl (by kernel_rfl) (by kernel_rfl) (by kernel_rfl) (fun _ _ _ h => h) (Or.inl ⟨by rfl, ?hyr4_7⟩) (by assumption) ?rer4_7
            case hyr4_7 => (intro W hSw; (try dsimp only at hSw); go_simp; try with_reducible rfl)
            try simp only [Act.put, List.setIfInBounds_toArray, List.set_cons_zero, List.set_cons_succ]
            refine wpAnyH_take (i := 8) (oi := { dst := some 116, op := Go.Op.fieldAddr 31 (Go.Operand.tmp 14) 1, type := 0, pos := "law.go:478", after := #[{ on := 7, ground := Go.Ground.guard }], guard := some (7, false) }) (v := undef) rfl (by kernel_rfl) (by kernel_rfl) (by kernel_rfl) (fun _ _ _ h => h) (Or.inr ⟨by rfl, rfl⟩) (by assumption) ?_
            try simp only [Act.put, List.setIfInBounds_toArray, List.set_cons_zero, List.set_cons_succ]
            refine wpAnyH_take (i := 9) (oi := { dst := some 117, op := Go.Op.load 3 (Go.Operand.tmp 116), type := 3, pos := "law.go:478", after := #[{ on := 8, ground := Go.Ground.data }, { on := 7, ground := Go.Ground.guard }], guard := some (7, false) }) (v := undef) rfl (by kernel_rfl) (by kernel_rfl) (by kernel_rfl) (fun _ _ _ h => h) (Or.inr ⟨by rfl, rfl⟩) (by assumption) ?_
            try simp only [Act.put, List.setIfInBounds_toArray, List.set_cons_zero, List.set_cons_succ]
            refine wpAnyH_take (i := 10) (oi := { dst := some 118, op := Go.Op.call { callee := Go.Callee.value (Go.Operand.func 7), args := #[Go.Operand.tmp 117, Go.Operand.const (Go.Value.int Go.IntKind.i64 200)], argTypes := #[3, 3] }, type := 3, pos := "law.go:478", after := #[{ on := 9, ground := Go.Ground.data }, { on := 7, ground := Go.Ground.chain }, { on := 7, ground := Go.Ground.guard }], guard := some (7, false) }) (v := undef) rfl (by kernel_rfl) (by kernel_rfl) (by kernel_rfl) (fun _ _ _ h => h) (Or.inr ⟨by rfl, rfl⟩) (by assumption) ?_
            try simp only [Act.put, List.setIfInBounds_toArray, List.set_cons_zero, List.set_cons_succ]
            refine wpAnyH_take (i := 11) (oi := { dst := some 119, op := Go.Op.fieldAddr 31 (Go.Operand.tmp 15) 1, type := 0, pos := "law.go:478", after := #[{ on := 7, ground := Go.Ground.guard }], guard := some (7, false) }) (v := undef) rfl (by kernel_rfl) (by kernel_rfl) (by kernel_rfl) (fun _ _ _ h => h) (Or.inr ⟨by rfl, rfl⟩) (by assumption) ?_
            try simp only [Act.put, List.setIfInBounds_toArray, List.set_cons_zero, List.set_cons_succ]
            refine wpAnyH_take (i := 12) (oi := { dst := some 120, op := Go.Op.load 3 (Go.Operand.tmp 119), type := 3, pos := "law.go:478", after := #[{ on := 11, ground := Go.Ground.data }, { on := 7, ground := Go.Ground.guard }], guard := some (7, false) }) (v := undef) rfl (by kernel_rfl) (by kernel_rfl) (by kernel_rfl) (fun _ _ _ h => h) (Or.inr ⟨by rfl, rfl⟩) (by assumption) ?_
            try simp only [Act.put, List.setIfInBounds_toArray, List.set_cons_zero, List.set_cons_succ]
            refine wpAnyH_take (i := 13) (oi := { dst := some 121, op := Go.Op.call { callee := Go.Callee.value (Go.Operand.func 7), args := #[Go.Operand.tmp 120, Go.Operand.const (Go.Value.int Go.IntKind.i64 200)], argTypes := #[3, 3] }, type := 3, pos := "law.go:478", after := #[{ on := 12, ground := Go.Ground.data }, { on := 10, ground := Go.Ground.chain }, { on := 7, ground := Go.Ground.guard }], guard := some (7, false) }) (v := undef) rfl (by kernel_rfl) (by kernel_rfl) (by kernel_rfl) (fun _ _ _ h => h) (Or.inr ⟨by rfl, rfl⟩) (by assumption) ?_
            try simp only [Act.put, List.setIfInBounds_toArray, List.set_cons_zero, List.set_cons_succ]
            refine wpAnyH_take (i := 14) (oi := { dst := some 122, op := Go.Op.binOp Go.BinOp.neq 3 (Go.Operand.tmp 118) (Go.Operand.tmp 121) 3, type := 4, pos := "law.go:478", after := #[{ on := 10, ground := Go.Ground.data }, { on := 13, ground := Go.Ground.data }, { on := 7, ground := Go.Ground.guard }], guard := some (7, false) }) (v := undef) rfl (by kernel_rfl) (by kernel_rfl) (by kernel_rfl) (fun _ _ _ h => h) (Or.inr ⟨by rfl, rfl⟩) (by assumption) ?_
            try simp only [Act.put, List.setIfInBounds_toArray, List.set_cons_zero, List.set_cons_succ]
            refine' wpAnyH_take (i := 15) (oi := { dst := some 123, op := Go.Op.pick (Go.Operand.tmp 115) (Go.Operand.const (Go.Value.bool true)) (Go.Operand.tmp 122), type := 4, pos := "law.go:478", after := #[{ on := 7, ground := Go.Ground.data }, { on := 14, ground := Go.Ground.data }], guard := none }) (v := _) rfl (by kernel_rfl) (by kernel_rfl) (by kernel_rfl) (fun _ _ _ h => h) (Or.inl ⟨by rfl, ?hyr4_15⟩) (by assumption) ?rer4_15
            case hyr4_15 => (intro W hSw; (try dsimp only at hSw); go_simp; try with_reducible rfl)
            try simp only [Act.put, List.setIfInBounds_toArray, List.set_cons_zero, List.set_cons_succ]
            refine wpAnyH_done (by kernel_rfl) ?_ _
            refine NoPanic.normal ?_
            rename_i hJ9 hK9
            refine hK9 _ _ (Met.intro (hJ9 _ _ ?_))
            repeat apply Exists.intro
            exact ⟨⟨by rw [hd], rfl⟩, rfl⟩
        obtain ⟨rfl, rfl⟩ := hcut
        clear s0 JP JP2 JQ JQ2 HEP HEQ
        have MW3 : Hid (Mv wr W2.drew (fun _ => False)) := MW2.out.later (below_drew W2)
        have R3 : Hid (W2.drew.heap[gr]? = some (.cells (rowL row).toArray 3 (0, 0))) := MW3.out.at RW.out id
        obtain ⟨W3, hW3⟩ : ∃ X, X = W2.drew := ⟨_, rfl⟩
        rw [← hW3] at MW3 R3 ⊢
        clear hW3 MW2
        by_cases hne : keyW ws p = keyW ws q
        · have hd : decide (¬ (keyW ws p = keyW ws q)) = false := by simp [hne]
          rw [hd]
          have HX : Hid (RowOk (keyW ws) n row ∧ W3.heap[gr]? = some (.cells (rowL row).toArray 3 (0, 0)) ∧ Mv w6 W3 (fun j => j = gr ∨ w6.heap.size ≤ j)) := ⟨OK2.out, R3.out, MR.out.trans MW3.out (fun _ _ h => h.elim)⟩
          clear MW3 R3 RW MR OK2 HPE HQE hne hd
          go_wp2_with fail
          go_roundw
          case rel => exact ⟨i + 1, row, by go_num, by omega, by omega, HX.out⟩
          case measure => simp [intOf]; omega
        · have hd : decide (¬ (keyW ws p = keyW ws q)) = true := by simp [hne]
          rw [hd]
          have hr3 := R3.out
          have r0 : W3.cell? ⟨gr, k, none⟩ = some (.int .i64 (p : Int)) := by
            rw [cell_of_row W3 _ _ _ 3 (0, 0) hr3, HPE.out]
            exact rowL_get hk0
          have r1 : W3.cell? ⟨gr, k + 1, none⟩ = some (.int .i64 (q : Int)) := by
            rw [cell_of_row W3 _ _ _ 3 (0, 0) hr3, HQE.out]
            exact rowL_get hk1
          have z0 := frozen_of_row W3 gr k _ 3 hr3
          have z1 := frozen_of_row W3 gr (k + 1) _ 3 hr3
          have HX : Hid (RowOk (keyW ws) n ((row.set k q).set (k + 1) p) ∧ ((W3.setCell ⟨gr, k, none⟩ (.int .i64 (q : Int))).setCell ⟨gr, k + 1, none⟩ (.int .i64 (p : Int))).heap[gr]? = some (.cells (rowL ((row.set k q).set (k + 1) p)).toArray 3 (0, 0)) ∧ Mv w6 ((W3.setCell ⟨gr, k, none⟩ (.int .i64 (q : Int))).setCell ⟨gr, k + 1, none⟩ (.int .i64 (p : Int))) (fun j => j = gr ∨ w6.heap.size ≤ j)) := by
            refine ⟨?_, ?_, ((MR.out.trans MW3.out (fun _ _ h => h.elim)).set (.inl rfl) k _).set (.inl rfl) (k + 1) _⟩
            · rw [HPE.out, HQE.out]
              exact OK2.out.swap hk1 (by rw [← HPE.out, ← HQE.out]; exact hne)
            · have g1 := heap_setCell_same W3 gr k _ 3 (.int .i64 (q : Int)) hr3
              rw [rowL_set] at g1
              rw [heap_setCell_same _ gr (k + 1) _ 3 _ g1, rowL_set]
          obtain ⟨W4, hW4⟩ : ∃ X, X = (W3.setCell ⟨gr, k, none⟩ (.int .i64 (q : Int))).setCell ⟨gr, k + 1, none⟩ (.int .i64 (p : Int)) := ⟨_, rfl⟩
          rw [← hW4] at HX
          clear MW3 R3 RW MR OK2 HPE HQE hne hd hr3
          go_wp2_with fail
          rw [← hW4]
          clear hW4
          go_roundw
          case rel => exact ⟨i + 1, _, by go_num, by omega, by omega, HX.out⟩
          case measure => simp [intOf]; omega
      · have hx : Hid (RowOk (keyW ws) n row ∧ wr.heap[gr]? = some (.cells (rowL row).toArray 3 (0, 0)) ∧ Mv w6 wr (fun j => j = gr ∨ w6.heap.size ≤ j)) := HI
        clear HI
        by_cases h1 : i < ns
        · have t1 : (i : Int) < (ns : Int) := by omega
          by_cases h2 : i < 1000
          · have t2 : (i : Int) < 1000 := by omega
            have t3 : ¬ (1 : Int) < (n : Int) := by omega
            go_wp2_with fail
            go_meet
            exact ⟨row, hx⟩
          · have t2 : ¬ (i : Int) < 1000 := by omega
            go_wp2_with fail
            go_meet
            exact ⟨row, hx⟩
        · have t1 : ¬ (i : Int) < (ns : Int) := by omega
          go_wp2_with fail
          go_meet
          exact ⟨row, hx⟩
  obtain ⟨row, hrow⟩ := hcut
  obtain ⟨ok, h71, h72⟩ := hrow.out
  obtain ⟨w7, rfl⟩ : ∃ x, x = wc := ⟨_, rfl⟩
  have OK7 := hide ok
  have R7 := hide h71
  have KA7 : Hid (Bk w4.heap.size w7 ga gx (keyW ws) (List.range n)) := KA6.out.frame h72 (fun h => by have := hsep.out; have := hs6.out; omega) (fun h => by have := hsep.out; have := hs6.out; omega) (fun j h1 h2 h => by have := hsep.out; have := hs6.out; omega)
  have KB7 := KB6.out.frame h72 (fun j hj h => by have := hsep.out; have := hs6.out; rcases hj with rfl | rfl <;> omega) (fun _ h => h.elim)
  have KB8 : Hid (Bk w7.heap.size w7 gb gy (keyW ws) []) := ⟨_, _, _, _, KB7, fun k hk => by rcases hk with h | h; exact .inl h; exact .inr (.inl h), fun _ h => h.elim⟩
  have MW7 : Hid (Mv w w7 (fun j => w.heap.size ≤ j)) := MW6.out.trans h72 (fun j _ hj => by have := hsep.out; have := hs6.out; have := BW4.out.size; rcases hj with rfl | h <;> omega)
  have hs7 : Hid (w6.heap.size ≤ w7.heap.size) := h72.2.2.2.1
  clear hrow ok h71 h72 KA6 KB6 KB7 R6
  go_upto_block 4 with fail
  go_cut [] (fun W => Hid (Bk w7.heap.size W gb gy (keyW ws) row ∧ Mv w7 W (fun j => j = gb ∨ j = gy ∨ w7.heap.size ≤ j)))
  case first =>
    go_wp2_with fail
    go_loopw [17] (fun v17 W => ∃ i : Nat, i ≤ n ∧ v17 = .int .i64 (i : Int) ∧ Hid (Bk w7.heap.size W gb gy (keyW ws) (row.take i) ∧ Mv w7 W (fun j => j = gb ∨ j = gy ∨ w7.heap.size ≤ j))) (fun v17 _ => n - (intOf v17).toNat)
    case atStart => exact ⟨0, Nat.zero_le _, rfl, KB8.out, Mv.refl _ _⟩
    case round =>
      obtain ⟨i, hi, rfl, HI⟩ := hrel
      by_cases hlt : i < n
      · have t1 : (i : Int) < (n : Int) := by omega
        have tw : IntKind.i64.wrap ((i : Int) + 1) = (i : Int) + 1 := by
          have := HN.out
          rw [IntKind.wrap_i64]
          omega
        obtain ⟨hb, hm⟩ := HI.out
        have hl := OK7.out.1
        have hil : i < row.length := by omega
        obtain ⟨p, hpe⟩ : ∃ p, p = row[i] := ⟨_, rfl⟩
        have hp : p < n := by rw [hpe]; exact OK7.out.lt hil
        have hpl : p < ws.length := by have := HN.out; have := HNW.out; omega
        have tp : (p : Int) < (nw : Int) := by have := HN.out; omega
        have htk : row.take (i + 1) = row.take i ++ [p] := by rw [hpe, List.take_succ_eq_append_getElem hil]
        have HTK := hide htk
        have hr : wr.heap[gr]? = some (.cells (rowL row).toArray 3 (0, 0)) := hm.at R7.out (fun h => by have := hsep.out; have := hs6.out; have := hs7.out; omega)
        have r0 : wr.cell? ⟨gr, i, none⟩ = some (.int .i64 (p : Int)) := by
          rw [cell_of_row wr _ _ _ 3 (0, 0) hr, hpe]
          exact rowL_get hil
        obtain ⟨rfl, hg⟩ := HW.out.1 (by omega)
        have ekp := keyW_at hpl
        have ibp := (HW.out.2 p hpl).1
        have mwr : Mv w wr (fun j => w.heap.size ≤ j) := MW7.out.trans hm (fun j _ hj => by have := hsep.out; have := hs6.out; have := hs7.out; have := BW4.out.size; rcases hj with rfl | rfl | h <;> omega)
        obtain ⟨p0, p1⟩ := HW.out.at mwr hpl
        obtain ⟨W1, hW1⟩ : ∃ X, X = wr.alloc (.cells #[.int .i64 ws[p].1, .int .i64 ws[p].2] 31) := ⟨_, rfl⟩
        have b1 : Below wr.heap.size wr W1 := hW1 ▸ below_alloc wr _
        have x0 : W1.heap[wr.heap.size]? = some (.cells #[.int .i64 ws[p].1, .int .i64 ws[p].2] 31 (0, 0)) := by rw [hW1]; exact heap_alloc_new wr _
        have r1 : W1.cell? ⟨gr, i, none⟩ = some (.int .i64 (p : Int)) := (Mv.of_below b1 (fun _ => False)).cell r0 id
        have JP1 : Hid (∀ W, Calls Try.prog 7 #[.int .i64 ws[p].1, .int .i64 16] W fun e w' => e = .returned (.int .i64 (pickZ ws[p].1 16 : Int)) ∧ w' = W) := fun W => bpick_any ws[p].1 ibp.1 16 (by omega) (by omega) W
        have JP2 : Hid (∀ W, Calls Try.prog 7 #[.int .i64 ws[p].2, .int .i64 200] W fun e w' => e = .returned (.int .i64 (pickZ ws[p].2 200 : Int)) ∧ w' = W) := fun W => bpick_any ws[p].2 ibp.2 200 (by omega) (by omega) W
        have hxb := (pickZ_lt ws[p].1 16 (by omega)).1
        have hyb := (pickZ_lt ws[p].2 200 (by omega)).1
        generalize pickZ ws[p].1 16 = pa at ekp JP1 hxb
        generalize pickZ ws[p].2 200 = pb at ekp JP2 hyb
        generalize ws[p].1 = v1 at p0 hW1 x0 JP1
        generalize ws[p].2 = v2 at p1 hW1 x0 JP2
        have JP : Hid (Calls Try.prog 6 #[.pointer (some ⟨gb, 0, none⟩), .int .i64 (pa : Int), .agg #[.int .i64 (pb : Int), .int .i64 2], .agg #[.int .i64 4, .int .i64 0, .int .i64 0, .int .i64 (p : Int), .slice none 0 0, .slice none 0 0]] W1.drew fun e w' => e = .returned (.int .i64 0) ∧ Bk w7.heap.size w' gb gy (keyW ws) (row.take i ++ [p]) ∧ Mv W1.drew w' (fun j => (j = gb ∨ j = gy ∨ w7.heap.size ≤ j) ∧ j < wr.heap.size)) := by
          refine bput_row2 hb (below_on b1 (below_drew W1)) (by have := hm.2.2.2.1; have := b1.size; have := (below_drew W1).size; omega) (by rw [List.length_take]; have := HN.out; omega) p pa pb 2 (by rw [ekp]) ?_
          refine ⟨⟨?_, ?_⟩, ?_, ?_⟩ <;> simp only <;> omega
        have HG : Hid (gr < wr.heap.size ∧ gr ≠ gb ∧ gr ≠ gy ∧ gr < w7.heap.size) := by
          have := hsep.out
          have := hs6.out
          have := hs7.out
          have := hm.2.2.2.1
          refine ⟨?_, ?_, ?_, ?_⟩ <;> omega
        have MR := hide hm
        have B1 := hide b1
        clear ibp mwr hb hm ekp hxb hyb hpe hr hg hp b1
        go_upto_region 29 with fail
        rw [← hW1]
        obtain ⟨kx, hkx⟩ : ∃ j, j = wr.heap.size := ⟨_, rfl⟩
        have HKX := hide hkx
        rw [← hkx] at x0
        rw [← hkx]
        have s0 : W1.drew.cell? ⟨kx, 0, none⟩ = some (.int .i64 v1) ∧ W1.drew.cell? ⟨kx, 1, none⟩ = some (.int .i64 v2) ∧ W1.drew.cell? ⟨gr, i, none⟩ = some (.int .i64 (p : Int)) := by
          have y0 := (Mv.of_below (below_drew W1) (fun _ => False)).at x0 id
          refine ⟨?_, ?_, (Mv.of_below (below_drew W1) (fun _ => False)).cell r1 id⟩
          · rw [cell_of_row _ _ _ _ 31 (0, 0) y0]; rfl
          · rw [cell_of_row _ _ _ _ 31 (0, 0) y0]; rfl
        clear hW1 hkx x0 r0 r1 p0 p1
        refine wp_region_noPanic ?_
        refine wp_region_held_drew (S := (fun V => V.cell? ⟨kx, 0, none⟩ = some (.int .i64 v1) ∧ V.cell? ⟨kx, 1, none⟩ = some (.int .i64 v2) ∧ V.cell? ⟨gr, i, none⟩ = some (.int .i64 (p : Int)))) (by kernel_rfl) (s0) (fun hHeld => ?_)
        refine' wpAnyH_take (i := 0) (oi := { dst := some 153, op := Go.Op.move (Go.Operand.tmp 7), type := 25, pos := "law.go:486", after := #[], guard := none }) (v := _) rfl (by kernel_rfl) (by kernel_rfl) (by kernel_rfl) (fun _ _ _ h => h) (Or.inl ⟨by rfl, ?hyr5_0⟩) (by assumption) ?rer5_0
        case hyr5_0 => (intro W hSw; (try dsimp only at hSw); go_simp; try with_reducible rfl)
        try simp only [Act.put, List.setIfInBounds_toArray, List.set_cons_zero, List.set_cons_succ]
        refine' wpAnyH_take (i := 1) (oi := { dst := some 154, op := Go.Op.fieldAddr 31 (Go.Operand.tmp 18) 0, type := 0, pos := "law.go:486", after := #[], guard := none }) (v := _) rfl (by kernel_rfl) (by kernel_rfl) (by kernel_rfl) (fun _ _ _ h => h) (Or.inl ⟨by rfl, ?hyr5_1⟩) (by assumption) ?rer5_1
        case hyr5_1 => (intro W hSw; (try dsimp only at hSw); go_simp; try with_reducible rfl)
        try simp only [Act.put, List.setIfInBounds_toArray, List.set_cons_zero, List.set_cons_succ]
        refine' wpAnyH_take (i := 2) (oi := { dst := some 155, op := Go.Op.load 3 (Go.Operand.tmp 154), type := 3, pos := "law.go:486", after := #[{ on := 1, ground := Go.Ground.data }], guard := none }) (v := _) rfl (by kernel_rfl) (by kernel_rfl) (by kernel_rfl) (fun _ _ _ h => h) (Or.inl ⟨by rfl, ?hyr5_2⟩) (by assumption) ?rer5_2
        case hyr5_2 => (intro W hSw; (try dsimp only at hSw); go_simp; try with_reducible rfl)
        try simp only [Act.put, List.setIfInBounds_toArray, List.set_cons_zero, List.set_cons_succ]
        refine' wpAnyH_take (i := 4) (oi := { dst := some 157, op := Go.Op.fieldAddr 31 (Go.Operand.tmp 18) 1, type := 0, pos := "law.go:486", after := #[], guard := none }) (v := _) rfl (by kernel_rfl) (by kernel_rfl) (by kernel_rfl) (fun _ _ _ h => h) (Or.inl ⟨by rfl, ?hyr5_4⟩) (by assumption) ?rer5_4
        case hyr5_4 => (intro W hSw; (try dsimp only at hSw); go_simp; try with_reducible rfl)
        try simp only [Act.put, List.setIfInBounds_toArray, List.set_cons_zero, List.set_cons_succ]
        refine' wpAnyH_take (i := 5) (oi := { dst := some 158, op := Go.Op.load 3 (Go.Operand.tmp 157), type := 3, pos := "law.go:486", after := #[{ on := 4, ground := Go.Ground.data }], guard := none }) (v := _) rfl (by kernel_rfl) (by kernel_rfl) (by kernel_rfl) (fun _ _ _ h => h) (Or.inl ⟨by rfl, ?hyr5_5⟩) (by assumption) ?rer5_5
        case hyr5_5 => (intro W hSw; (try dsimp only at hSw); go_simp; try with_reducible rfl)
        try simp only [Act.put, List.setIfInBounds_toArray, List.set_cons_zero, List.set_cons_succ]
        refine' wpAnyH_take (i := 8) (oi := { dst := some 161, op := Go.Op.move (Go.Operand.tmp 9), type := 23, pos := "law.go:486", after := #[], guard := none }) (v := _) rfl (by kernel_rfl) (by kernel_rfl) (by kernel_rfl) (fun _ _ _ h => h) (Or.inl ⟨by rfl, ?hyr5_8⟩) (by assumption) ?rer5_8
        case hyr5_8 => (intro W hSw; (try dsimp only at hSw); go_simp; try with_reducible rfl)
        try simp only [Act.put, List.setIfInBounds_toArray, List.set_cons_zero, List.set_cons_succ]
        refine' wpAnyH_take (i := 9) (oi := { dst := some 162, op := Go.Op.move (Go.Operand.tmp 17), type := 3, pos := "law.go:486", after := #[], guard := none }) (v := _) rfl (by kernel_rfl) (by kernel_rfl) (by kernel_rfl) (fun _ _ _ h => h) (Or.inl ⟨by rfl, ?hyr5_9⟩) (by assumption) ?rer5_9
        case hyr5_9 => (intro W hSw; (try dsimp only at hSw); go_simp; try with_reducible rfl)
        try simp only [Act.put, List.setIfInBounds_toArray, List.set_cons_zero, List.set_cons_succ]
        refine' wpAnyH_take (i := 10) (oi := { dst := some 163, op := Go.Op.indexAddr 23 (Go.Operand.tmp 161) (Go.Operand.tmp 162), type := 0, pos := "law.go:486", after := #[{ on := 8, ground := Go.Ground.data }, { on := 9, ground := Go.Ground.data }], guard := none }) (v := _) rfl (by kernel_rfl) (by kernel_rfl) (by kernel_rfl) (fun _ _ _ h => h) (Or.inl ⟨by rfl, ?hyr5_10⟩) (by assumption) ?rer5_10
        case hyr5_10 => (intro W hSw; (try dsimp only at hSw); go_simp; try with_reducible rfl)
        try simp only [Act.put, List.setIfInBounds_toArray, List.set_cons_zero, List.set_cons_succ]
        refine' wpAnyH_take (i := 11) (oi := { dst := some 164, op := Go.Op.load 3 (Go.Operand.tmp 163), type := 3, pos := "law.go:486", after := #[{ on := 10, ground := Go.Ground.data }], guard := none }) (v := _) rfl (by kernel_rfl) (by kernel_rfl) (by kernel_rfl) (fun _ _ _ h => h) (Or.inl ⟨by rfl, ?hyr5_11⟩) (by assumption) ?rer5_11
        case hyr5_11 => (intro W hSw; (try dsimp only at hSw); go_simp; try with_reducible rfl)
        try simp only [Act.put, List.setIfInBounds_toArray, List.set_cons_zero, List.set_cons_succ]
        refine' wpAnyH_take (i := 12) (oi := { dst := some 165, op := Go.Op.build 37 #[(0, Go.Operand.const (Go.Value.int Go.IntKind.i64 4)), (2, Go.Operand.tmp 164)], type := 37, pos := "law.go:486", after := #[{ on := 11, ground := Go.Ground.data }], guard := none }) (v := _) rfl (by kernel_rfl) (by kernel_rfl) (by kernel_rfl) (fun _ _ _ h => h) (Or.inl ⟨by rfl, ?hyr5_12⟩) (by assumption) ?rer5_12
        case hyr5_12 => (intro W hSw; (try dsimp only at hSw); go_simp; try with_reducible rfl)
        try simp only [Act.put, List.setIfInBounds_toArray, List.set_cons_zero, List.set_cons_succ]
        refine wpAnyH_ready (rs := [3]) (by kernel_rfl) (by simp) ?_
        refine AllReadyH.cons (o := { dst := some 156, op := Go.Op.call { callee := Go.Callee.value (Go.Operand.func 7), args := #[Go.Operand.tmp 155, Go.Operand.const (Go.Value.int Go.IntKind.i64 16)], argTypes := #[3, 3] }, type := 3, pos := "law.go:486", after := #[{ on := 2, ground := Go.Ground.data }], guard := none }) rfl (fun K hK => ?_) AllReadyH.nil
        clear hHeld
        go_simp
        refine (JP1.out _).mono ?_
        rintro e w' ⟨rfl, rfl⟩
        refine hK.out _ _ (s0) (fun hHeld => ?_)
        clear hK K
        try simp only [Act.put, List.setIfInBounds_toArray, List.set_cons_zero, List.set_cons_succ]
        refine wpAnyH_ready (rs := [6]) (by kernel_rfl) (by simp) ?_
        refine AllReadyH.cons (o := { dst := some 159, op := Go.Op.call { callee := Go.Callee.value (Go.Operand.func 7), args := #[Go.Operand.tmp 158, Go.Operand.const (Go.Value.int Go.IntKind.i64 200)], argTypes := #[3, 3] }, type := 3, pos := "law.go:486", after := #[{ on := 5, ground := Go.Ground.data }, { on := 3, ground := Go.Ground.chain }], guard := none }) rfl (fun K hK => ?_) AllReadyH.nil
        clear hHeld
        go_simp
        refine (JP2.out _).mono ?_
        rintro e w' ⟨rfl, rfl⟩
        refine hK.out _ _ (s0) (fun hHeld => ?_)
        clear hK K
        try simp only [Act.put, List.setIfInBounds_toArray, List.set_cons_zero, List.set_cons_succ]
        refine' wpAnyH_take (i := 7) (oi := { dst := some 160, op := Go.Op.build 33 #[(0, Go.Operand.tmp 159), (1, Go.Operand.const (Go.Value.int Go.IntKind.i64 2))], type := 33, pos := "law.go:486", after := #[{ on := 6, ground := Go.Ground.data }], guard := none }) (v := _) rfl (by kernel_rfl) (by kernel_rfl) (by kernel_rfl) (fun _ _ _ h => h) (Or.inl ⟨by rfl, ?hyr5_7⟩) (by assumption) ?rer5_7
        case hyr5_7 => (intro W hSw; (try dsimp only at hSw); go_simp; try with_reducible rfl)
        try simp only [Act.put, List.setIfInBounds_toArray, List.set_cons_zero, List.set_cons_succ]
        refine wpAnyH_ready (rs := [13]) (by kernel_rfl) (by simp) ?_
        refine AllReadyH.cons (o := { dst := some 166, op := Go.Op.call { callee := Go.Callee.value (Go.Operand.func 6), args := #[Go.Operand.tmp 153, Go.Operand.tmp 156, Go.Operand.tmp 160, Go.Operand.tmp 165], argTypes := #[25, 3, 33, 37] }, type := 27, pos := "law.go:486", after := #[{ on := 0, ground := Go.Ground.data }, { on := 3, ground := Go.Ground.data }, { on := 7, ground := Go.Ground.data }, { on := 12, ground := Go.Ground.data }, { on := 6, ground := Go.Ground.chain }], guard := none }) rfl (fun K hK => ?_) AllReadyH.nil
        clear hHeld
        go_simp
        refine JP.out.mono ?_
        rintro e w9 ⟨rfl, k9, m9⟩
        have s1 : w9.cell? ⟨kx, 0, none⟩ = some (.int .i64 v1) ∧ w9.cell? ⟨kx, 1, none⟩ = some (.int .i64 v2) ∧ w9.cell? ⟨gr, i, none⟩ = some (.int .i64 (p : Int)) := ⟨m9.cell s0.1 (fun h => by have := HKX.out; have := h.2; simp only at this; omega), m9.cell s0.2.1 (fun h => by have := HKX.out; have := h.2; simp only at this; omega), m9.cell s0.2.2 (fun h => by have := HG.out; have := h.1; simp only at this; omega)⟩
        refine hK.out _ _ (s1) (fun hHeld => ?_)
        clear hK K
        try simp only [Act.put, List.setIfInBounds_toArray, List.set_cons_zero, List.set_cons_succ]
        refine wpAnyH_done (by kernel_rfl) ?_ _
        refine NoPanic.normal ?_
        rename_i hK9
        refine hK9 _ _ ?_
        have HX : Hid (Bk w7.heap.size w9 gb gy (keyW ws) (row.take (i + 1)) ∧ Mv w7 w9 (fun j => j = gb ∨ j = gy ∨ w7.heap.size ≤ j)) := by
          unfold Hid
          rw [HTK.out]
          exact ⟨k9, ((MR.out.later B1.out).later (below_drew W1)).trans m9 (fun j _ hj => hj.1)⟩
        clear k9 m9 s1 s0 HTK htk
        go_wp2_with fail
        go_roundw
        case rel => exact ⟨i + 1, by omega, by go_num, HX.out⟩
        case measure => simp [intOf]; omega
      · have t1 : ¬ (i : Int) < (n : Int) := by omega
        have hx : Hid (Bk w7.heap.size wr gb gy (keyW ws) row ∧ Mv w7 wr (fun j => j = gb ∨ j = gy ∨ w7.heap.size ≤ j)) := by
          have h := HI.out
          rw [List.take_of_length_le (by have := OK7.out.1; omega)] at h
          exact h
        clear HI
        go_wp2_with fail
        go_meet
        exact hx
  obtain ⟨h81, h82⟩ := hcut.out
  obtain ⟨w8, rfl⟩ : ∃ x, x = wc := ⟨_, rfl⟩
  have ka8 : Bk w4.heap.size w8 ga gx (keyW ws) (List.range n) := KA7.out.frame h82 (fun h => by have := hsep.out; have := hs6.out; have := hs7.out; omega) (fun h => by have := hsep.out; have := hs6.out; have := hs7.out; omega) (fun j h1 h2 h => by have := hsep.out; have := hs6.out; have := hs7.out; omega)
  have MW8 : Hid (Mv w w8 (fun j => w.heap.size ≤ j)) := MW7.out.trans h82 (fun j _ hj => by have := hsep.out; have := hs6.out; have := hs7.out; have := BW4.out.size; rcases hj with rfl | rfl | h <;> omega)
  have KB9 := hide h81
  have JA : Hid (Calls Try.prog 8 #[.pointer (some ⟨ga, 0, none⟩)] w8 fun e w' => ∃ a c ss, e = .returned (.slice a n c) ∧ (∀ x, x ∈ ss ↔ LK (keyW ws) (List.range n) x ≠ []) ∧ ss.Pairwise ltT ∧ (∀ t : List Nat, allL (LK (keyW ws) (List.range n)) ss = t.map cmR → ∀ j (hj : j < t.length), ∃ gl, a = some ⟨gl, 0, none⟩ ∧ w'.cell? ⟨gl, j * 6 + 3, none⟩ = some (.int .i64 (t[j] : Int))) ∧ Below w8.heap.size w8 w') := by
    have h := ball_row ka8 (by rw [List.length_range]; have := HN.out; omega) (fun x => by rw [List.length_range])
    rw [List.length_range] at h
    exact h
  clear hcut h81 h82 KA7 KB8 ka8
  go_wp2_with fail
  refine JA.out.mono ?_
  rintro e w9 ⟨la, lc, ss, rfl, q1, q2, q3, b9⟩
  have JB : Hid (Calls Try.prog 8 #[.pointer (some ⟨gb, 0, none⟩)] w9 fun e w' => ∃ a c ss, e = .returned (.slice a n c) ∧ (∀ x, x ∈ ss ↔ LK (keyW ws) (List.range n) x ≠ []) ∧ ss.Pairwise ltT ∧ (∀ t : List Nat, allL (LK (keyW ws) (List.range n)) ss = t.map cmR → ∀ j (hj : j < t.length), ∃ gl, a = some ⟨gl, 0, none⟩ ∧ w'.cell? ⟨gl, j * 6 + 3, none⟩ = some (.int .i64 (t[j] : Int))) ∧ Below w9.heap.size w9 w') := by
    have hrl : row.length = n := OK7.out.1
    have h := ball_row (KB9.out.later b9) (by have := HN.out; omega) (by rw [hrl]; exact OK7.out.2.2)
    rw [hrl] at h
    exact h
  have B9 := hide b9
  have Q1 := hide q1
  have Q2 := hide q2
  have Q3 := hide q3
  clear b9 q1 q2 q3 KB9 JA
  go_wp2_with fail
  refine JB.out.mono ?_
  rintro e w10 ⟨mb, mc, ss', rfl, z1, z2, z3, b10⟩
  obtain rfl : ss' = ss := sorted_one z2 Q2.out (fun x => (z1 x).trans (Q1.out x).symm)
  obtain ⟨t, ht, htl, htb, hts⟩ := all_told z1 z2
  have HT : Hid (t.length = n ∧ (∀ p ∈ t, p < n) ∧ t.Pairwise (fun p q => ltT (keyW ws p) (keyW ws q) ∨ keyW ws p = keyW ws q ∧ p < q)) := ⟨htl, htb, hts⟩
  have HL : Hid (∀ V, Below w10.heap.size w10 V → ∀ j (hj : j < t.length), (∃ gl, la = some ⟨gl, 0, none⟩ ∧ V.cell? ⟨gl, j * 6 + 3, none⟩ = some (.int .i64 (t[j] : Int))) ∧ ∃ gm, mb = some ⟨gm, 0, none⟩ ∧ V.cell? ⟨gm, j * 6 + 3, none⟩ = some (.int .i64 (t[j] : Int))) := fun V hV j hj => by
    obtain ⟨gl, e1, c1⟩ := Q3.out t ht j hj
    obtain ⟨gm, e2, c2⟩ := z3 t ht j hj
    exact ⟨⟨gl, e1, (Mv.of_below (below_on b10 hV) (fun _ => False)).cell c1 id⟩, gm, e2, (Mv.of_below hV (fun _ => False)).cell c2 id⟩
  have MW10 : Hid (Mv w w10 (fun j => w.heap.size ≤ j)) := (MW8.out.later B9.out).later b10
  clear Q1 Q2 Q3 z1 z2 z3 b10 ht htl htb hts B9 JB MW8 OK7 R7
  go_wp2_with fail
  go_loopw [21] (fun v21 W => ∃ i : Nat, i ≤ n ∧ v21 = .int .i64 (i : Int) ∧ Hid (Below w10.heap.size w10 W)) (fun v21 _ => n - (intOf v21).toNat)
  case atStart => exact ⟨0, Nat.zero_le _, rfl, Below.refl _ _⟩
  case round =>
    obtain ⟨i, hi, rfl, HI⟩ := hrel
    by_cases hlt : i < n
    · have t1 : (i : Int) < (n : Int) := by omega
      have tw : IntKind.i64.wrap ((i : Int) + 1) = (i : Int) + 1 := by
        have := HN.out
        rw [IntKind.wrap_i64]
        omega
      have hit : i < t.length := by have := HT.out.1; omega
      obtain ⟨⟨gl, rfl, -⟩, gm, rfl, -⟩ := HL.out _ HI.out i hit
      obtain ⟨q, hqe⟩ : ∃ q, q = t[i] := ⟨_, rfl⟩
      have HSL : Hid (∀ V, Below w10.heap.size w10 V → V.cell? ⟨gl, i * 6 + 3, none⟩ = some (.int .i64 (q : Int)) ∧ V.cell? ⟨gm, i * 6 + 3, none⟩ = some (.int .i64 (q : Int))) := fun V hV => by
        obtain ⟨⟨g1, e1, c1⟩, g2, e2, c2⟩ := HL.out V hV i hit
        simp only [Option.some.injEq, Addr.mk.injEq, and_true] at e1 e2
        obtain rfl := e1
        obtain rfl := e2
        rw [hqe]
        exact ⟨c1, c2⟩
      have HQE := hide hqe
      have hqn : q < n := by rw [hqe]; exact HT.out.2.1 _ (List.getElem_mem hit)
      have a1 : ¬ (q : Int) < 0 := by omega
      have a2 : ¬ (n : Int) ≤ (q : Int) := by omega
      have hbd := below_on HI.out (below_drew wr)
      have HBD := hide hbd
      have s0 := HSL.out _ hbd
      clear hqe hbd HI
      go_upto_region 37 with fail
      refine wp_region_noPanic ?_
      refine wp_region_held_drew (S := (fun V => V.cell? ⟨gl, i * 6 + 3, none⟩ = some (.int .i64 (q : Int)) ∧ V.cell? ⟨gm, i * 6 + 3, none⟩ = some (.int .i64 (q : Int)))) (by kernel_rfl) (s0) (fun hHeld => ?_)
      refine' wpAnyH_take (i := 0) (oi := { dst := some 186, op := Go.Op.move (Go.Operand.tmp 19), type := 38, pos := "law.go:494", after := #[], guard := none }) (v := _) rfl (by kernel_rfl) (by kernel_rfl) (by kernel_rfl) (fun _ _ _ h => h) (Or.inl ⟨by rfl, ?hyr6_0⟩) (by assumption) ?rer6_0
      case hyr6_0 => (intro W hSw; (try dsimp only at hSw); go_simp; try with_reducible rfl)
      try simp only [Act.put, List.setIfInBounds_toArray, List.set_cons_zero, List.set_cons_succ]
      refine' wpAnyH_take (i := 1) (oi := { dst := some 187, op := Go.Op.move (Go.Operand.tmp 21), type := 3, pos := "law.go:494", after := #[], guard := none }) (v := _) rfl (by kernel_rfl) (by kernel_rfl) (by kernel_rfl) (fun _ _ _ h => h) (Or.inl ⟨by rfl, ?hyr6_1⟩) (by assumption) ?rer6_1
      case hyr6_1 => (intro W hSw; (try dsimp only at hSw); go_simp; try with_reducible rfl)
      try simp only [Act.put, List.setIfInBounds_toArray, List.set_cons_zero, List.set_cons_succ]
      refine' wpAnyH_take (i := 2) (oi := { dst := some 188, op := Go.Op.indexAddr 38 (Go.Operand.tmp 186) (Go.Operand.tmp 187), type := 0, pos := "law.go:494", after := #[{ on := 0, ground := Go.Ground.data }, { on := 1, ground := Go.Ground.data }], guard := none }) (v := _) rfl (by kernel_rfl) (by kernel_rfl) (by kernel_rfl) (fun _ _ _ h => h) (Or.inl ⟨by rfl, ?hyr6_2⟩) (by assumption) ?rer6_2
      case hyr6_2 => (intro W hSw; (try dsimp only at hSw); go_simp; try with_reducible rfl)
      try simp only [Act.put, List.setIfInBounds_toArray, List.set_cons_zero, List.set_cons_succ]
      refine' wpAnyH_take (i := 3) (oi := { dst := some 189, op := Go.Op.fieldAddr 37 (Go.Operand.tmp 188) 2, type := 0, pos := "law.go:494", after := #[{ on := 2, ground := Go.Ground.data }], guard := none }) (v := _) rfl (by kernel_rfl) (by kernel_rfl) (by kernel_rfl) (fun _ _ _ h => h) (Or.inl ⟨by rfl, ?hyr6_3⟩) (by assumption) ?rer6_3
      case hyr6_3 => (intro W hSw; (try dsimp only at hSw); go_simp; try with_reducible rfl)
      try simp only [Act.put, List.setIfInBounds_toArray, List.set_cons_zero, List.set_cons_succ]
      refine' wpAnyH_take (i := 4) (oi := { dst := some 190, op := Go.Op.load 3 (Go.Operand.tmp 189), type := 3, pos := "law.go:494", after := #[{ on := 3, ground := Go.Ground.data }], guard := none }) (v := _) rfl (by kernel_rfl) (by kernel_rfl) (by kernel_rfl) (fun _ _ _ h => h) (Or.inl ⟨by rfl, ?hyr6_4⟩) (by assumption) ?rer6_4
      case hyr6_4 => (intro W hSw; (try dsimp only at hSw); go_simp; try with_reducible rfl)
      try simp only [Act.put, List.setIfInBounds_toArray, List.set_cons_zero, List.set_cons_succ]
      refine' wpAnyH_take (i := 5) (oi := { dst := some 191, op := Go.Op.move (Go.Operand.tmp 20), type := 38, pos := "law.go:494", after := #[], guard := none }) (v := _) rfl (by kernel_rfl) (by kernel_rfl) (by kernel_rfl) (fun _ _ _ h => h) (Or.inl ⟨by rfl, ?hyr6_5⟩) (by assumption) ?rer6_5
      case hyr6_5 => (intro W hSw; (try dsimp only at hSw); go_simp; try with_reducible rfl)
      try simp only [Act.put, List.setIfInBounds_toArray, List.set_cons_zero, List.set_cons_succ]
      refine' wpAnyH_take (i := 6) (oi := { dst := some 192, op := Go.Op.move (Go.Operand.tmp 21), type := 3, pos := "law.go:494", after := #[], guard := none }) (v := _) rfl (by kernel_rfl) (by kernel_rfl) (by kernel_rfl) (fun _ _ _ h => h) (Or.inl ⟨by rfl, ?hyr6_6⟩) (by assumption) ?rer6_6
      case hyr6_6 => (intro W hSw; (try dsimp only at hSw); go_simp; try with_reducible rfl)
      try simp only [Act.put, List.setIfInBounds_toArray, List.set_cons_zero, List.set_cons_succ]
      refine' wpAnyH_take (i := 7) (oi := { dst := some 193, op := Go.Op.indexAddr 38 (Go.Operand.tmp 191) (Go.Operand.tmp 192), type := 0, pos := "law.go:494", after := #[{ on := 5, ground := Go.Ground.data }, { on := 6, ground := Go.Ground.data }], guard := none }) (v := _) rfl (by kernel_rfl) (by kernel_rfl) (by kernel_rfl) (fun _ _ _ h => h) (Or.inl ⟨by rfl, ?hyr6_7⟩) (by assumption) ?rer6_7
      case hyr6_7 => (intro W hSw; (try dsimp only at hSw); go_simp; try with_reducible rfl)
      try simp only [Act.put, List.setIfInBounds_toArray, List.set_cons_zero, List.set_cons_succ]
      refine' wpAnyH_take (i := 8) (oi := { dst := some 194, op := Go.Op.fieldAddr 37 (Go.Operand.tmp 193) 2, type := 0, pos := "law.go:494", after := #[{ on := 7, ground := Go.Ground.data }], guard := none }) (v := _) rfl (by kernel_rfl) (by kernel_rfl) (by kernel_rfl) (fun _ _ _ h => h) (Or.inl ⟨by rfl, ?hyr6_8⟩) (by assumption) ?rer6_8
      case hyr6_8 => (intro W hSw; (try dsimp only at hSw); go_simp; try with_reducible rfl)
      try simp only [Act.put, List.setIfInBounds_toArray, List.set_cons_zero, List.set_cons_succ]
      refine' wpAnyH_take (i := 9) (oi := { dst := some 195, op := Go.Op.load 3 (Go.Operand.tmp 194), type := 3, pos := "law.go:494", after := #[{ on := 8, ground := Go.Ground.data }], guard := none }) (v := _) rfl (by kernel_rfl) (by kernel_rfl) (by kernel_rfl) (fun _ _ _ h => h) (Or.inl ⟨by rfl, ?hyr6_9⟩) (by assumption) ?rer6_9
      case hyr6_9 => (intro W hSw; (try dsimp only at hSw); go_simp; try with_reducible rfl)
      try simp only [Act.put, List.setIfInBounds_toArray, List.set_cons_zero, List.set_cons_succ]
      refine' wpAnyH_take (i := 10) (oi := { dst := some 196, op := Go.Op.binOp Go.BinOp.neq 3 (Go.Operand.tmp 190) (Go.Operand.tmp 195) 3, type := 4, pos := "law.go:494", after := #[{ on := 4, ground := Go.Ground.data }, { on := 9, ground := Go.Ground.data }], guard := none }) (v := _) rfl (by kernel_rfl) (by kernel_rfl) (by kernel_rfl) (fun _ _ _ h => h) (Or.inl ⟨by rfl, ?hyr6_10⟩) (by assumption) ?rer6_10
      case hyr6_10 => (intro W hSw; (try dsimp only at hSw); go_simp; try with_reducible rfl)
      try simp only [Act.put, List.setIfInBounds_toArray, List.set_cons_zero, List.set_cons_succ]
      refine' wpAnyH_take (i := 11) (oi := { dst := some 197, op := Go.Op.move (Go.Operand.tmp 196), type := 4, pos := "law.go:494", after := #[{ on := 10, ground := Go.Ground.data }], guard := none }) (v := _) rfl (by kernel_rfl) (by kernel_rfl) (by kernel_rfl) (fun _ _ _ h => h) (Or.inl ⟨by rfl, ?hyr6_11⟩) (by assumption) ?rer6_11
      case hyr6_11 => (intro W hSw; (try dsimp only at hSw); go_simp; try with_reducible rfl)
      try simp only [Act.put, List.setIfInBounds_toArray, List.set_cons_zero, List.set_cons_succ]
      refine' wpAnyH_take (i := 12) (oi := { dst := some 198, op := Go.Op.move (Go.Operand.tmp 19), type := 38, pos := "law.go:494", after := #[{ on := 11, ground := Go.Ground.guard }], guard := some (11, false) }) (v := _) rfl (by kernel_rfl) (by kernel_rfl) (by kernel_rfl) (fun _ _ _ h => h) (Or.inl ⟨by rfl, ?hyr6_12⟩) (by assumption) ?rer6_12
      case hyr6_12 => (intro W hSw; (try dsimp only at hSw); go_simp; try with_reducible rfl)
      try simp only [Act.put, List.setIfInBounds_toArray, List.set_cons_zero, List.set_cons_succ]
      refine' wpAnyH_take (i := 13) (oi := { dst := some 199, op := Go.Op.move (Go.Operand.tmp 21), type := 3, pos := "law.go:494", after := #[{ on := 11, ground := Go.Ground.guard }], guard := some (11, false) }) (v := _) rfl (by kernel_rfl) (by kernel_rfl) (by kernel_rfl) (fun _ _ _ h => h) (Or.inl ⟨by rfl, ?hyr6_13⟩) (by assumption) ?rer6_13
      case hyr6_13 => (intro W hSw; (try dsimp only at hSw); go_simp; try with_reducible rfl)
      try simp only [Act.put, List.setIfInBounds_toArray, List.set_cons_zero, List.set_cons_succ]
      refine' wpAnyH_take (i := 14) (oi := { dst := some 200, op := Go.Op.indexAddr 38 (Go.Operand.tmp 198) (Go.Operand.tmp 199), type := 0, pos := "law.go:494", after := #[{ on := 12, ground := Go.Ground.data }, { on := 13, ground := Go.Ground.data }, { on := 11, ground := Go.Ground.guard }], guard := some (11, false) }) (v := _) rfl (by kernel_rfl) (by kernel_rfl) (by kernel_rfl) (fun _ _ _ h => h) (Or.inl ⟨by rfl, ?hyr6_14⟩) (by assumption) ?rer6_14
      case hyr6_14 => (intro W hSw; (try dsimp only at hSw); go_simp; try with_reducible rfl)
      try simp only [Act.put, List.setIfInBounds_toArray, List.set_cons_zero, List.set_cons_succ]
      refine' wpAnyH_take (i := 15) (oi := { dst := some 201, op := Go.Op.fieldAddr 37 (Go.Operand.tmp 200) 2, type := 0, pos := "law.go:494", after := #[{ on := 14, ground := Go.Ground.data }, { on := 11, ground := Go.Ground.guard }], guard := some (11, false) }) (v := _) rfl (by kernel_rfl) (by kernel_rfl) (by kernel_rfl) (fun _ _ _ h => h) (Or.inl ⟨by rfl, ?hyr6_15⟩) (by assumption) ?rer6_15
      case hyr6_15 => (intro W hSw; (try dsimp only at hSw); go_simp; try with_reducible rfl)
      try simp only [Act.put, List.setIfInBounds_toArray, List.set_cons_zero, List.set_cons_succ]
      refine' wpAnyH_take (i := 16) (oi := { dst := some 202, op := Go.Op.load 3 (Go.Operand.tmp 201), type := 3, pos := "law.go:494", after := #[{ on := 15, ground := Go.Ground.data }, { on := 11, ground := Go.Ground.guard }], guard := some (11, false) }) (v := _) rfl (by kernel_rfl) (by kernel_rfl) (by kernel_rfl) (fun _ _ _ h => h) (Or.inl ⟨by rfl, ?hyr6_16⟩) (by assumption) ?rer6_16
      case hyr6_16 => (intro W hSw; (try dsimp only at hSw); go_simp; try with_reducible rfl)
      try simp only [Act.put, List.setIfInBounds_toArray, List.set_cons_zero, List.set_cons_succ]
      refine' wpAnyH_take (i := 17) (oi := { dst := some 203, op := Go.Op.binOp Go.BinOp.lss 3 (Go.Operand.tmp 202) (Go.Operand.const (Go.Value.int Go.IntKind.i64 0)) 3, type := 4, pos := "law.go:494", after := #[{ on := 16, ground := Go.Ground.data }, { on := 11, ground := Go.Ground.guard }], guard := some (11, false) }) (v := _) rfl (by kernel_rfl) (by kernel_rfl) (by kernel_rfl) (fun _ _ _ h => h) (Or.inl ⟨by rfl, ?hyr6_17⟩) (by assumption) ?rer6_17
      case hyr6_17 => (intro W hSw; (try dsimp only at hSw); go_simp; try with_reducible rfl)
      try simp only [Act.put, List.setIfInBounds_toArray, List.set_cons_zero, List.set_cons_succ]
      refine' wpAnyH_take (i := 18) (oi := { dst := some 204, op := Go.Op.pick (Go.Operand.tmp 197) (Go.Operand.const (Go.Value.bool true)) (Go.Operand.tmp 203), type := 4, pos := "law.go:494", after := #[{ on := 11, ground := Go.Ground.data }, { on := 17, ground := Go.Ground.data }], guard := none }) (v := _) rfl (by kernel_rfl) (by kernel_rfl) (by kernel_rfl) (fun _ _ _ h => h) (Or.inl ⟨by rfl, ?hyr6_18⟩) (by assumption) ?rer6_18
      case hyr6_18 => (intro W hSw; (try dsimp only at hSw); go_simp; try with_reducible rfl)
      try simp only [Act.put, List.setIfInBounds_toArray, List.set_cons_zero, List.set_cons_succ]
      refine' wpAnyH_take (i := 19) (oi := { dst := some 205, op := Go.Op.move (Go.Operand.tmp 204), type := 4, pos := "law.go:494", after := #[{ on := 18, ground := Go.Ground.data }, { on := 11, ground := Go.Ground.chain }], guard := none }) (v := _) rfl (by kernel_rfl) (by kernel_rfl) (by kernel_rfl) (fun _ _ _ h => h) (Or.inl ⟨by rfl, ?hyr6_19⟩) (by assumption) ?rer6_19
      case hyr6_19 => (intro W hSw; (try dsimp only at hSw); go_simp; try with_reducible rfl)
      try simp only [Act.put, List.setIfInBounds_toArray, List.set_cons_zero, List.set_cons_succ]
      refine' wpAnyH_take (i := 20) (oi := { dst := some 206, op := Go.Op.move (Go.Operand.tmp 19), type := 38, pos := "law.go:494", after := #[{ on := 19, ground := Go.Ground.guard }], guard := some (19, false) }) (v := _) rfl (by kernel_rfl) (by kernel_rfl) (by kernel_rfl) (fun _ _ _ h => h) (Or.inl ⟨by rfl, ?hyr6_20⟩) (by assumption) ?rer6_20
      case hyr6_20 => (intro W hSw; (try dsimp only at hSw); go_simp; try with_reducible rfl)
      try simp only [Act.put, List.setIfInBounds_toArray, List.set_cons_zero, List.set_cons_succ]
      refine' wpAnyH_take (i := 21) (oi := { dst := some 207, op := Go.Op.move (Go.Operand.tmp 21), type := 3, pos := "law.go:494", after := #[{ on := 19, ground := Go.Ground.guard }], guard := some (19, false) }) (v := _) rfl (by kernel_rfl) (by kernel_rfl) (by kernel_rfl) (fun _ _ _ h => h) (Or.inl ⟨by rfl, ?hyr6_21⟩) (by assumption) ?rer6_21
      case hyr6_21 => (intro W hSw; (try dsimp only at hSw); go_simp; try with_reducible rfl)
      try simp only [Act.put, List.setIfInBounds_toArray, List.set_cons_zero, List.set_cons_succ]
      refine' wpAnyH_take (i := 22) (oi := { dst := some 208, op := Go.Op.indexAddr 38 (Go.Operand.tmp 206) (Go.Operand.tmp 207), type := 0, pos := "law.go:494", after := #[{ on := 20, ground := Go.Ground.data }, { on := 21, ground := Go.Ground.data }, { on := 19, ground := Go.Ground.guard }], guard := some (19, false) }) (v := _) rfl (by kernel_rfl) (by kernel_rfl) (by kernel_rfl) (fun _ _ _ h => h) (Or.inl ⟨by rfl, ?hyr6_22⟩) (by assumption) ?rer6_22
      case hyr6_22 => (intro W hSw; (try dsimp only at hSw); go_simp; try with_reducible rfl)
      try simp only [Act.put, List.setIfInBounds_toArray, List.set_cons_zero, List.set_cons_succ]
      refine' wpAnyH_take (i := 23) (oi := { dst := some 209, op := Go.Op.fieldAddr 37 (Go.Operand.tmp 208) 2, type := 0, pos := "law.go:494", after := #[{ on := 22, ground := Go.Ground.data }, { on := 19, ground := Go.Ground.guard }], guard := some (19, false) }) (v := _) rfl (by kernel_rfl) (by kernel_rfl) (by kernel_rfl) (fun _ _ _ h => h) (Or.inl ⟨by rfl, ?hyr6_23⟩) (by assumption) ?rer6_23
      case hyr6_23 => (intro W hSw; (try dsimp only at hSw); go_simp; try with_reducible rfl)
      try simp only [Act.put, List.setIfInBounds_toArray, List.set_cons_zero, List.set_cons_succ]
      refine' wpAnyH_take (i := 24) (oi := { dst := some 210, op := Go.Op.load 3 (Go.Operand.tmp 209), type := 3, pos := "law.go:494", after := #[{ on := 23, ground := Go.Ground.data }, { on := 19, ground := Go.Ground.guard }], guard := some (19, false) }) (v := _) rfl (by kernel_rfl) (by kernel_rfl) (by kernel_rfl) (fun _ _ _ h => h) (Or.inl ⟨by rfl, ?hyr6_24⟩) (by assumption) ?rer6_24
      case hyr6_24 => (intro W hSw; (try dsimp only at hSw); go_simp; try with_reducible rfl)
      try simp only [Act.put, List.setIfInBounds_toArray, List.set_cons_zero, List.set_cons_succ]
      refine' wpAnyH_take (i := 25) (oi := { dst := some 211, op := Go.Op.move (Go.Operand.tmp 8), type := 3, pos := "law.go:494", after := #[{ on := 19, ground := Go.Ground.guard }], guard := some (19, false) }) (v := _) rfl (by kernel_rfl) (by kernel_rfl) (by kernel_rfl) (fun _ _ _ h => h) (Or.inl ⟨by rfl, ?hyr6_25⟩) (by assumption) ?rer6_25
      case hyr6_25 => (intro W hSw; (try dsimp only at hSw); go_simp; try with_reducible rfl)
      try simp only [Act.put, List.setIfInBounds_toArray, List.set_cons_zero, List.set_cons_succ]
      refine' wpAnyH_take (i := 26) (oi := { dst := some 212, op := Go.Op.binOp Go.BinOp.geq 3 (Go.Operand.tmp 210) (Go.Operand.tmp 211) 3, type := 4, pos := "law.go:494", after := #[{ on := 24, ground := Go.Ground.data }, { on := 25, ground := Go.Ground.data }, { on := 19, ground := Go.Ground.guard }], guard := some (19, false) }) (v := _) rfl (by kernel_rfl) (by kernel_rfl) (by kernel_rfl) (fun _ _ _ h => h) (Or.inl ⟨by rfl, ?hyr6_26⟩) (by assumption) ?rer6_26
      case hyr6_26 => (intro W hSw; (try dsimp only at hSw); go_simp; try with_reducible rfl)
      try simp only [Act.put, List.setIfInBounds_toArray, List.set_cons_zero, List.set_cons_succ]
      refine' wpAnyH_take (i := 27) (oi := { dst := some 213, op := Go.Op.pick (Go.Operand.tmp 205) (Go.Operand.const (Go.Value.bool true)) (Go.Operand.tmp 212), type := 4, pos := "law.go:494", after := #[{ on := 19, ground := Go.Ground.data }, { on := 26, ground := Go.Ground.data }], guard := none }) (v := _) rfl (by kernel_rfl) (by kernel_rfl) (by kernel_rfl) (fun _ _ _ h => h) (Or.inl ⟨by rfl, ?hyr6_27⟩) (by assumption) ?rer6_27
      case hyr6_27 => (intro W hSw; (try dsimp only at hSw); go_simp; try with_reducible rfl)
      try simp only [Act.put, List.setIfInBounds_toArray, List.set_cons_zero, List.set_cons_succ]
      refine wpAnyH_done (by kernel_rfl) ?_ _
      refine NoPanic.normal ?_
      rename_i hK9
      refine hK9 _ _ ?_
      clear s0
      obtain ⟨W0, hW0⟩ : ∃ X, X = wr.drew := ⟨_, rfl⟩
      rw [← hW0] at HBD ⊢
      clear hW0
      by_cases h0 : i = 0
      · have hz : ((i : Int) == 0) = true := by simp [h0]
        have hi1 : i + 1 ≤ n := hlt
        clear h0
        go_wp2_with fail
        go_roundw
        case rel => exact ⟨i + 1, hi1, by go_num, HBD.out⟩
        case measure => simp [intOf]; omega
      · have hz : ((i : Int) == 0) = false := by simp [h0]
        obtain ⟨j, hj⟩ : ∃ j, i = j + 1 := ⟨i - 1, by omega⟩
        have tj : IntKind.i64.wrap ((i : Int) - 1) = (j : Int) := by
          have := HN.out
          rw [IntKind.wrap_i64]
          omega
        have hjt : j < t.length := by omega
        have hjn : j < n := by omega
        have tj1 : (j : Int) < (n : Int) := by omega
        obtain ⟨p, hpe⟩ : ∃ p, p = t[j] := ⟨_, rfl⟩
        have hpn : p < n := by rw [hpe]; exact HT.out.2.1 _ (List.getElem_mem hjt)
        have hpq := List.pairwise_iff_getElem.1 HT.out.2.2 j i hjt hit (by omega)
        rw [← hpe, ← HQE.out] at hpq
        have HSJ : Hid (∀ V, Below w10.heap.size w10 V → V.cell? ⟨gl, j * 6 + 3, none⟩ = some (.int .i64 (p : Int))) := fun V hV => by
          obtain ⟨⟨g1, e1, c1⟩, -⟩ := HL.out V hV j hjt
          simp only [Option.some.injEq, Addr.mk.injEq, and_true] at e1
          obtain rfl := e1
          rw [hpe]
          exact c1
        have hpl : p < ws.length := by have := HN.out; have := HNW.out; omega
        have hql : q < ws.length := by have := HN.out; have := HNW.out; omega
        have hpw : p < nw := by have := HN.out; omega
        have hqw : q < nw := by have := HN.out; omega
        have tp : (p : Int) < (nw : Int) := by omega
        have tq : (q : Int) < (nw : Int) := by omega
        obtain ⟨rfl, hg⟩ := HW.out.1 (by omega)
        have ibp := (HW.out.2 p hpl).1
        have ibq := (HW.out.2 q hql).1
        have mw0 : Mv w W0 (fun j => w.heap.size ≤ j) := MW10.out.later HBD.out
        obtain ⟨p0, p1⟩ := HW.out.at mw0 hpl
        obtain ⟨W1, hW1⟩ : ∃ X, X = W0.alloc (.cells #[.int .i64 ws[p].1, .int .i64 ws[p].2] 31) := ⟨_, rfl⟩
        obtain ⟨W2, hW2⟩ : ∃ X, X = W1.alloc (.cells #[.int .i64 ws[q].1, .int .i64 ws[q].2] 31) := ⟨_, rfl⟩
        have b1 : Below W0.heap.size W0 W1 := hW1 ▸ below_alloc W0 _
        have b2 : Below W1.heap.size W1 W2 := hW2 ▸ below_alloc W1 _
        obtain ⟨q0, q1⟩ := HW.out.at (mw0.later b1) hql
        have s0 := HSJ.out _ HBD.out
        have s1 := (HSL.out _ (below_on HBD.out b1)).1
        have x0 : W1.heap[W0.heap.size]? = some (.cells #[.int .i64 ws[p].1, .int .i64 ws[p].2] 31 (0, 0)) := by rw [hW1]; exact heap_alloc_new W0 _
        have y0 : W2.heap[W1.heap.size]? = some (.cells #[.int .i64 ws[q].1, .int .i64 ws[q].2] 31 (0, 0)) := by rw [hW2]; exact heap_alloc_new W1 _
        have x1 := (Mv.of_below b2 (fun _ => False)).at x0 id
        have JP : Hid (∀ W, Calls Try.prog 7 #[.int .i64 ws[p].1, .int .i64 16] W fun e w' => e = .returned (.int .i64 (pickZ ws[p].1 16 : Int)) ∧ w' = W) := fun W => bpick_any ws[p].1 ibp.1 16 (by omega) (by omega) W
        have JP2 : Hid (∀ W, Calls Try.prog 7 #[.int .i64 ws[p].2, .int .i64 200] W fun e w' => e = .returned (.int .i64 (pickZ ws[p].2 200 : Int)) ∧ w' = W) := fun W => bpick_any ws[p].2 ibp.2 200 (by omega) (by omega) W
        have JQ : Hid (∀ W, Calls Try.prog 7 #[.int .i64 ws[q].1, .int .i64 16] W fun e w' => e = .returned (.int .i64 (pickZ ws[q].1 16 : Int)) ∧ w' = W) := fun W => bpick_any ws[q].1 ibq.1 16 (by omega) (by omega) W
        have JQ2 : Hid (∀ W, Calls Try.prog 7 #[.int .i64 ws[q].2, .int .i64 200] W fun e w' => e = .returned (.int .i64 (pickZ ws[q].2 200 : Int)) ∧ w' = W) := fun W => bpick_any ws[q].2 ibq.2 200 (by omega) (by omega) W
        have y1 := (pickZ_lt ws[p].1 16 (by omega)).1
        have y2 := (pickZ_lt ws[p].2 200 (by omega)).1
        have y3 := (pickZ_lt ws[q].1 16 (by omega)).1
        have y4 := (pickZ_lt ws[q].2 200 (by omega)).1
        have hlt2 := one_lt (keyW_at hpl) (keyW_at hql) y2 y4 hpq
        have B2 : Hid (Below w10.heap.size w10 W2) := below_on HBD.out (below_on b1 b2)
        clear ibp ibq mw0 b1 b2 x0 hpq hpe hg hj HBD
        generalize pickZ ws[p].1 16 = pa at hlt2 JP y1
        generalize pickZ ws[p].2 200 = pb at hlt2 JP2 y2
        generalize pickZ ws[q].1 16 = qa at hlt2 JQ y3
        generalize pickZ ws[q].2 200 = qb at hlt2 JQ2 y4
        generalize ws[p].1 = v1 at p0 hW1 x1 JP
        generalize ws[p].2 = v2 at p1 hW1 x1 JP2
        generalize ws[q].1 = u1 at q0 hW2 y0 JQ
        generalize ws[q].2 = u2 at q1 hW2 y0 JQ2
        go_upto_region 41 with fail
        obtain ⟨kx, hkx⟩ : ∃ j, j = W0.heap.size := ⟨_, rfl⟩
        rw [← hkx] at x1
        rw [← hW1]
        rw [← hkx]
        clear hW1 hkx p0 p1 s0
        go_upto_region 42 with fail
        obtain ⟨ky, hky⟩ : ∃ j, j = W1.heap.size := ⟨_, rfl⟩
        rw [← hky] at y0
        rw [← hW2]
        rw [← hky]
        clear hW2 hky q0 q1 s1
        obtain ⟨one, hone⟩ : ∃ x, x = pa * 1000 + pb := ⟨_, rfl⟩
        obtain ⟨two, htwo⟩ : ∃ x, x = qa * 1000 + qb := ⟨_, rfl⟩
        rw [← hone, ← htwo] at hlt2
        have n1 : IntKind.i64.wrap ((pa : Int) * 1000) = (pa : Int) * 1000 := by rw [IntKind.wrap_i64]; omega
        have n2 : IntKind.i64.wrap ((pa : Int) * 1000 + (pb : Int)) = (one : Int) := by rw [IntKind.wrap_i64]; omega
        have n3 : IntKind.i64.wrap ((qa : Int) * 1000) = (qa : Int) * 1000 := by rw [IntKind.wrap_i64]; omega
        have n4 : IntKind.i64.wrap ((qa : Int) * 1000 + (qb : Int)) = (two : Int) := by rw [IntKind.wrap_i64]; omega
        clear hone htwo y1 y2 y3 y4
        have HY : Hid (∀ V, Below W2.heap.size W2 V → (V.cell? ⟨kx, 0, none⟩ = some (.int .i64 v1) ∧ V.cell? ⟨kx, 1, none⟩ = some (.int .i64 v2)) ∧ V.cell? ⟨ky, 0, none⟩ = some (.int .i64 u1) ∧ V.cell? ⟨ky, 1, none⟩ = some (.int .i64 u2)) := fun V hV => by
          have k1 := (Mv.of_below hV (fun _ => False)).at x1 id
          have k2 := (Mv.of_below hV (fun _ => False)).at y0 id
          refine ⟨⟨?_, ?_⟩, ?_, ?_⟩
          · rw [cell_of_row _ _ _ _ 31 (0, 0) k1]; rfl
          · rw [cell_of_row _ _ _ _ 31 (0, 0) k1]; rfl
          · rw [cell_of_row _ _ _ _ 31 (0, 0) k2]; rfl
          · rw [cell_of_row _ _ _ _ 31 (0, 0) k2]; rfl
        have s0 := (HY.out _ (below_drew W2)).1
        clear x1 y0
        refine wp_region_noPanic ?_
        refine wp_region_held_drew (S := (fun V => V.cell? ⟨kx, 0, none⟩ = some (.int .i64 v1) ∧ V.cell? ⟨kx, 1, none⟩ = some (.int .i64 v2))) (by kernel_rfl) (s0) (fun hHeld => ?_)
        refine' wpAnyH_take (i := 0) (oi := { dst := some 233, op := Go.Op.fieldAddr 31 (Go.Operand.tmp 22) 0, type := 0, pos := "law.go:502", after := #[], guard := none }) (v := _) rfl (by kernel_rfl) (by kernel_rfl) (by kernel_rfl) (fun _ _ _ h => h) (Or.inl ⟨by rfl, ?hyr7_0⟩) (by assumption) ?rer7_0
        case hyr7_0 => (intro W hSw; (try dsimp only at hSw); go_simp; try with_reducible rfl)
        try simp only [Act.put, List.setIfInBounds_toArray, List.set_cons_zero, List.set_cons_succ]
        refine' wpAnyH_take (i := 1) (oi := { dst := some 234, op := Go.Op.load 3 (Go.Operand.tmp 233), type := 3, pos := "law.go:502", after := #[{ on := 0, ground := Go.Ground.data }], guard := none }) (v := _) rfl (by kernel_rfl) (by kernel_rfl) (by kernel_rfl) (fun _ _ _ h => h) (Or.inl ⟨by rfl, ?hyr7_1⟩) (by assumption) ?rer7_1
        case hyr7_1 => (intro W hSw; (try dsimp only at hSw); go_simp; try with_reducible rfl)
        try simp only [Act.put, List.setIfInBounds_toArray, List.set_cons_zero, List.set_cons_succ]
        refine' wpAnyH_take (i := 4) (oi := { dst := some 237, op := Go.Op.fieldAddr 31 (Go.Operand.tmp 22) 1, type := 0, pos := "law.go:502", after := #[], guard := none }) (v := _) rfl (by kernel_rfl) (by kernel_rfl) (by kernel_rfl) (fun _ _ _ h => h) (Or.inl ⟨by rfl, ?hyr7_4⟩) (by assumption) ?rer7_4
        case hyr7_4 => (intro W hSw; (try dsimp only at hSw); go_simp; try with_reducible rfl)
        try simp only [Act.put, List.setIfInBounds_toArray, List.set_cons_zero, List.set_cons_succ]
        refine' wpAnyH_take (i := 5) (oi := { dst := some 238, op := Go.Op.load 3 (Go.Operand.tmp 237), type := 3, pos := "law.go:502", after := #[{ on := 4, ground := Go.Ground.data }], guard := none }) (v := _) rfl (by kernel_rfl) (by kernel_rfl) (by kernel_rfl) (fun _ _ _ h => h) (Or.inl ⟨by rfl, ?hyr7_5⟩) (by assumption) ?rer7_5
        case hyr7_5 => (intro W hSw; (try dsimp only at hSw); go_simp; try with_reducible rfl)
        try simp only [Act.put, List.setIfInBounds_toArray, List.set_cons_zero, List.set_cons_succ]
        refine wpAnyH_ready (rs := [2]) (by kernel_rfl) (by simp) ?_
        refine AllReadyH.cons (o := { dst := some 235, op := Go.Op.call { callee := Go.Callee.value (Go.Operand.func 7), args := #[Go.Operand.tmp 234, Go.Operand.const (Go.Value.int Go.IntKind.i64 16)], argTypes := #[3, 3] }, type := 3, pos := "law.go:502", after := #[{ on := 1, ground := Go.Ground.data }], guard := none }) rfl (fun K hK => ?_) AllReadyH.nil
        clear hHeld
        go_simp
        refine (JP.out _).mono ?_
        rintro e w' ⟨rfl, rfl⟩
        refine hK.out _ _ (s0) (fun hHeld => ?_)
        clear hK K
        try simp only [Act.put, List.setIfInBounds_toArray, List.set_cons_zero, List.set_cons_succ]
        refine' wpAnyH_take (i := 3) (oi := { dst := some 236, op := Go.Op.binOp Go.BinOp.mul 3 (Go.Operand.tmp 235) (Go.Operand.const (Go.Value.int Go.IntKind.i64 1000)) 3, type := 3, pos := "law.go:502", after := #[{ on := 2, ground := Go.Ground.data }], guard := none }) (v := _) rfl (by kernel_rfl) (by kernel_rfl) (by kernel_rfl) (fun _ _ _ h => h) (Or.inl ⟨by rfl, ?hyr7_3⟩) (by assumption) ?rer7_3
        case hyr7_3 => (intro W hSw; (try dsimp only at hSw); go_simp; try with_reducible rfl)
        try simp only [Act.put, List.setIfInBounds_toArray, List.set_cons_zero, List.set_cons_succ]
        refine wpAnyH_ready (rs := [6]) (by kernel_rfl) (by simp) ?_
        refine AllReadyH.cons (o := { dst := some 239, op := Go.Op.call { callee := Go.Callee.value (Go.Operand.func 7), args := #[Go.Operand.tmp 238, Go.Operand.const (Go.Value.int Go.IntKind.i64 200)], argTypes := #[3, 3] }, type := 3, pos := "law.go:502", after := #[{ on := 5, ground := Go.Ground.data }, { on := 2, ground := Go.Ground.chain }], guard := none }) rfl (fun K hK => ?_) AllReadyH.nil
        clear hHeld
        go_simp
        refine (JP2.out _).mono ?_
        rintro e w' ⟨rfl, rfl⟩
        refine hK.out _ _ (s0) (fun hHeld => ?_)
        clear hK K
        try simp only [Act.put, List.setIfInBounds_toArray, List.set_cons_zero, List.set_cons_succ]
        refine' wpAnyH_take (i := 7) (oi := { dst := some 240, op := Go.Op.binOp Go.BinOp.add 3 (Go.Operand.tmp 236) (Go.Operand.tmp 239) 3, type := 3, pos := "law.go:502", after := #[{ on := 3, ground := Go.Ground.data }, { on := 6, ground := Go.Ground.data }], guard := none }) (v := _) rfl (by kernel_rfl) (by kernel_rfl) (by kernel_rfl) (fun _ _ _ h => h) (Or.inl ⟨by rfl, ?hyr7_7⟩) (by assumption) ?rer7_7
        case hyr7_7 => (intro W hSw; (try dsimp only at hSw); go_simp; try with_reducible rfl)
        try simp only [Act.put, List.setIfInBounds_toArray, List.set_cons_zero, List.set_cons_succ]
        refine' wpAnyH_take (i := 8) (oi := { dst := some 24, op := Go.Op.assign (Go.Operand.tmp 240), type := 3, pos := "law.go:502", after := #[{ on := 7, ground := Go.Ground.data }, { on := 6, ground := Go.Ground.chain }, { on := 0, ground := Go.Ground.phase }, { on := 1, ground := Go.Ground.phase }, { on := 2, ground := Go.Ground.phase }, { on := 3, ground := Go.Ground.phase }, { on := 4, ground := Go.Ground.phase }, { on := 5, ground := Go.Ground.phase }, { on := 6, ground := Go.Ground.phase }, { on := 7, ground := Go.Ground.phase }], guard := none }) (v := _) rfl (by kernel_rfl) (by kernel_rfl) (by kernel_rfl) (fun _ _ _ h => h) (Or.inl ⟨by rfl, ?hyr7_8⟩) (by assumption) ?rer7_8
        case hyr7_8 => (intro W hSw; (try dsimp only at hSw); go_simp; try with_reducible rfl)
        try simp only [Act.put, List.setIfInBounds_toArray, List.set_cons_zero, List.set_cons_succ]
        refine wpAnyH_done (by kernel_rfl) ?_ _
        refine NoPanic.normal ?_
        rename_i hK9
        refine hK9 _ _ ?_
        clear hK9 s0 JP JP2
        have s0 := (HY.out _ (below_on (below_drew W2) (below_drew W2.drew))).2
        go_upto_region 43 with fail
        refine wp_region_noPanic ?_
        refine wp_region_held_drew (S := (fun V => V.cell? ⟨ky, 0, none⟩ = some (.int .i64 u1) ∧ V.cell? ⟨ky, 1, none⟩ = some (.int .i64 u2))) (by kernel_rfl) (s0) (fun hHeld => ?_)
        refine' wpAnyH_take (i := 0) (oi := { dst := some 241, op := Go.Op.fieldAddr 31 (Go.Operand.tmp 23) 0, type := 0, pos := "law.go:503", after := #[], guard := none }) (v := _) rfl (by kernel_rfl) (by kernel_rfl) (by kernel_rfl) (fun _ _ _ h => h) (Or.inl ⟨by rfl, ?hyr8_0⟩) (by assumption) ?rer8_0
        case hyr8_0 => (intro W hSw; (try dsimp only at hSw); go_simp; try with_reducible rfl)
        try simp only [Act.put, List.setIfInBounds_toArray, List.set_cons_zero, List.set_cons_succ]
        refine' wpAnyH_take (i := 1) (oi := { dst := some 242, op := Go.Op.load 3 (Go.Operand.tmp 241), type := 3, pos := "law.go:503", after := #[{ on := 0, ground := Go.Ground.data }], guard := none }) (v := _) rfl (by kernel_rfl) (by kernel_rfl) (by kernel_rfl) (fun _ _ _ h => h) (Or.inl ⟨by rfl, ?hyr8_1⟩) (by assumption) ?rer8_1
        case hyr8_1 => (intro W hSw; (try dsimp only at hSw); go_simp; try with_reducible rfl)
        try simp only [Act.put, List.setIfInBounds_toArray, List.set_cons_zero, List.set_cons_succ]
        refine' wpAnyH_take (i := 4) (oi := { dst := some 245, op := Go.Op.fieldAddr 31 (Go.Operand.tmp 23) 1, type := 0, pos := "law.go:503", after := #[], guard := none }) (v := _) rfl (by kernel_rfl) (by kernel_rfl) (by kernel_rfl) (fun _ _ _ h => h) (Or.inl ⟨by rfl, ?hyr8_4⟩) (by assumption) ?rer8_4
        case hyr8_4 => (intro W hSw; (try dsimp only at hSw); go_simp; try with_reducible rfl)
        try simp only [Act.put, List.setIfInBounds_toArray, List.set_cons_zero, List.set_cons_succ]
        refine' wpAnyH_take (i := 5) (oi := { dst := some 246, op := Go.Op.load 3 (Go.Operand.tmp 245), type := 3, pos := "law.go:503", after := #[{ on := 4, ground := Go.Ground.data }], guard := none }) (v := _) rfl (by kernel_rfl) (by kernel_rfl) (by kernel_rfl) (fun _ _ _ h => h) (Or.inl ⟨by rfl, ?hyr8_5⟩) (by assumption) ?rer8_5
        case hyr8_5 => (intro W hSw; (try dsimp only at hSw); go_simp; try with_reducible rfl)
        try simp only [Act.put, List.setIfInBounds_toArray, List.set_cons_zero, List.set_cons_succ]
        refine wpAnyH_ready (rs := [2]) (by kernel_rfl) (by simp) ?_
        refine AllReadyH.cons (o := { dst := some 243, op := Go.Op.call { callee := Go.Callee.value (Go.Operand.func 7), args := #[Go.Operand.tmp 242, Go.Operand.const (Go.Value.int Go.IntKind.i64 16)], argTypes := #[3, 3] }, type := 3, pos := "law.go:503", after := #[{ on := 1, ground := Go.Ground.data }], guard := none }) rfl (fun K hK => ?_) AllReadyH.nil
        clear hHeld
        go_simp
        refine (JQ.out _).mono ?_
        rintro e w' ⟨rfl, rfl⟩
        refine hK.out _ _ (s0) (fun hHeld => ?_)
        clear hK K
        try simp only [Act.put, List.setIfInBounds_toArray, List.set_cons_zero, List.set_cons_succ]
        refine' wpAnyH_take (i := 3) (oi := { dst := some 244, op := Go.Op.binOp Go.BinOp.mul 3 (Go.Operand.tmp 243) (Go.Operand.const (Go.Value.int Go.IntKind.i64 1000)) 3, type := 3, pos := "law.go:503", after := #[{ on := 2, ground := Go.Ground.data }], guard := none }) (v := _) rfl (by kernel_rfl) (by kernel_rfl) (by kernel_rfl) (fun _ _ _ h => h) (Or.inl ⟨by rfl, ?hyr8_3⟩) (by assumption) ?rer8_3
        case hyr8_3 => (intro W hSw; (try dsimp only at hSw); go_simp; try with_reducible rfl)
        try simp only [Act.put, List.setIfInBounds_toArray, List.set_cons_zero, List.set_cons_succ]
        refine wpAnyH_ready (rs := [6]) (by kernel_rfl) (by simp) ?_
        refine AllReadyH.cons (o := { dst := some 247, op := Go.Op.call { callee := Go.Callee.value (Go.Operand.func 7), args := #[Go.Operand.tmp 246, Go.Operand.const (Go.Value.int Go.IntKind.i64 200)], argTypes := #[3, 3] }, type := 3, pos := "law.go:503", after := #[{ on := 5, ground := Go.Ground.data }, { on := 2, ground := Go.Ground.chain }], guard := none }) rfl (fun K hK => ?_) AllReadyH.nil
        clear hHeld
        go_simp
        refine (JQ2.out _).mono ?_
        rintro e w' ⟨rfl, rfl⟩
        refine hK.out _ _ (s0) (fun hHeld => ?_)
        clear hK K
        try simp only [Act.put, List.setIfInBounds_toArray, List.set_cons_zero, List.set_cons_succ]
        refine' wpAnyH_take (i := 7) (oi := { dst := some 248, op := Go.Op.binOp Go.BinOp.add 3 (Go.Operand.tmp 244) (Go.Operand.tmp 247) 3, type := 3, pos := "law.go:503", after := #[{ on := 3, ground := Go.Ground.data }, { on := 6, ground := Go.Ground.data }], guard := none }) (v := _) rfl (by kernel_rfl) (by kernel_rfl) (by kernel_rfl) (fun _ _ _ h => h) (Or.inl ⟨by rfl, ?hyr8_7⟩) (by assumption) ?rer8_7
        case hyr8_7 => (intro W hSw; (try dsimp only at hSw); go_simp; try with_reducible rfl)
        try simp only [Act.put, List.setIfInBounds_toArray, List.set_cons_zero, List.set_cons_succ]
        refine' wpAnyH_take (i := 8) (oi := { dst := some 25, op := Go.Op.assign (Go.Operand.tmp 248), type := 3, pos := "law.go:503", after := #[{ on := 7, ground := Go.Ground.data }, { on := 6, ground := Go.Ground.chain }, { on := 0, ground := Go.Ground.phase }, { on := 1, ground := Go.Ground.phase }, { on := 2, ground := Go.Ground.phase }, { on := 3, ground := Go.Ground.phase }, { on := 4, ground := Go.Ground.phase }, { on := 5, ground := Go.Ground.phase }, { on := 6, ground := Go.Ground.phase }, { on := 7, ground := Go.Ground.phase }], guard := none }) (v := _) rfl (by kernel_rfl) (by kernel_rfl) (by kernel_rfl) (fun _ _ _ h => h) (Or.inl ⟨by rfl, ?hyr8_8⟩) (by assumption) ?rer8_8
        case hyr8_8 => (intro W hSw; (try dsimp only at hSw); go_simp; try with_reducible rfl)
        try simp only [Act.put, List.setIfInBounds_toArray, List.set_cons_zero, List.set_cons_succ]
        refine wpAnyH_done (by kernel_rfl) ?_ _
        refine NoPanic.normal ?_
        rename_i hK9
        refine hK9 _ _ ?_
        clear hK9 s0 JQ JQ2 HY n1 n2 n3 n4
        have B5 : Hid (Below w10.heap.size w10 W2.drew.drew.drew) := below_on (below_on (below_on B2.out (below_drew W2)) (below_drew _)) (below_drew _)
        have s0 : W2.drew.drew.drew.cell? ⟨gl, j * 6 + 3, none⟩ = some (.int .i64 (p : Int)) ∧ W2.drew.drew.drew.cell? ⟨gl, i * 6 + 3, none⟩ = some (.int .i64 (q : Int)) := ⟨HSJ.out _ B5.out, (HSL.out _ B5.out).1⟩
        go_upto_region 44 with fail
        rcases hlt2 with h1 | ⟨h1, h2⟩
        · have n1 : ¬ (two : Int) < (one : Int) := by omega
          have n2 : ((one : Int) == (two : Int)) = false := by
            simp
            omega
          refine wp_region_noPanic ?_
          refine wp_region_held_drew (S := (fun V => V.cell? ⟨gl, j * 6 + 3, none⟩ = some (.int .i64 (p : Int)) ∧ V.cell? ⟨gl, i * 6 + 3, none⟩ = some (.int .i64 (q : Int)))) (by kernel_rfl) (s0) (fun hHeld => ?_)
          refine' wpAnyH_take (i := 0) (oi := { dst := some 249, op := Go.Op.move (Go.Operand.tmp 24), type := 3, pos := "law.go:504", after := #[], guard := none }) (v := _) rfl (by kernel_rfl) (by kernel_rfl) (by kernel_rfl) (fun _ _ _ h => h) (Or.inl ⟨by rfl, ?hyr9_0⟩) (by assumption) ?rer9_0
          case hyr9_0 => (intro W hSw; (try dsimp only at hSw); go_simp; try with_reducible rfl)
          try simp only [Act.put, List.setIfInBounds_toArray, List.set_cons_zero, List.set_cons_succ]
          refine' wpAnyH_take (i := 1) (oi := { dst := some 250, op := Go.Op.move (Go.Operand.tmp 25), type := 3, pos := "law.go:504", after := #[], guard := none }) (v := _) rfl (by kernel_rfl) (by kernel_rfl) (by kernel_rfl) (fun _ _ _ h => h) (Or.inl ⟨by rfl, ?hyr9_1⟩) (by assumption) ?rer9_1
          case hyr9_1 => (intro W hSw; (try dsimp only at hSw); go_simp; try with_reducible rfl)
          try simp only [Act.put, List.setIfInBounds_toArray, List.set_cons_zero, List.set_cons_succ]
          refine' wpAnyH_take (i := 2) (oi := { dst := some 251, op := Go.Op.binOp Go.BinOp.gtr 3 (Go.Operand.tmp 249) (Go.Operand.tmp 250) 3, type := 4, pos := "law.go:504", after := #[{ on := 0, ground := Go.Ground.data }, { on := 1, ground := Go.Ground.data }], guard := none }) (v := _) rfl (by kernel_rfl) (by kernel_rfl) (by kernel_rfl) (fun _ _ _ h => h) (Or.inl ⟨by rfl, ?hyr9_2⟩) (by assumption) ?rer9_2
          case hyr9_2 => (intro W hSw; (try dsimp only at hSw); go_simp; try with_reducible rfl)
          try simp only [Act.put, List.setIfInBounds_toArray, List.set_cons_zero, List.set_cons_succ]
          refine' wpAnyH_take (i := 3) (oi := { dst := some 252, op := Go.Op.move (Go.Operand.tmp 251), type := 4, pos := "law.go:504", after := #[{ on := 2, ground := Go.Ground.data }], guard := none }) (v := _) rfl (by kernel_rfl) (by kernel_rfl) (by kernel_rfl) (fun _ _ _ h => h) (Or.inl ⟨by rfl, ?hyr9_3⟩) (by assumption) ?rer9_3
          case hyr9_3 => (intro W hSw; (try dsimp only at hSw); go_simp; try with_reducible rfl)
          try simp only [Act.put, List.setIfInBounds_toArray, List.set_cons_zero, List.set_cons_succ]
          refine' wpAnyH_take (i := 4) (oi := { dst := some 253, op := Go.Op.move (Go.Operand.tmp 24), type := 3, pos := "law.go:504", after := #[{ on := 3, ground := Go.Ground.guard }], guard := some (3, false) }) (v := _) rfl (by kernel_rfl) (by kernel_rfl) (by kernel_rfl) (fun _ _ _ h => h) (Or.inl ⟨by rfl, ?hyr9_4⟩) (by assumption) ?rer9_4
          case hyr9_4 => (intro W hSw; (try dsimp only at hSw); go_simp; try with_reducible rfl)
          try simp only [Act.put, List.setIfInBounds_toArray, List.set_cons_zero, List.set_cons_succ]
          refine' wpAnyH_take (i := 5) (oi := { dst := some 254, op := Go.Op.move (Go.Operand.tmp 25), type := 3, pos := "law.go:504", after := #[{ on := 3, ground := Go.Ground.guard }], guard := some (3, false) }) (v := _) rfl (by kernel_rfl) (by kernel_rfl) (by kernel_rfl) (fun _ _ _ h => h) (Or.inl ⟨by rfl, ?hyr9_5⟩) (by assumption) ?rer9_5
          case hyr9_5 => (intro W hSw; (try dsimp only at hSw); go_simp; try with_reducible rfl)
          try simp only [Act.put, List.setIfInBounds_toArray, List.set_cons_zero, List.set_cons_succ]
          refine' wpAnyH_take (i := 6) (oi := { dst := some 255, op := Go.Op.binOp Go.BinOp.eql 3 (Go.Operand.tmp 253) (Go.Operand.tmp 254) 3, type := 4, pos := "law.go:504", after := #[{ on := 4, ground := Go.Ground.data }, { on := 5, ground := Go.Ground.data }, { on := 3, ground := Go.Ground.guard }], guard := some (3, false) }) (v := _) rfl (by kernel_rfl) (by kernel_rfl) (by kernel_rfl) (fun _ _ _ h => h) (Or.inl ⟨by rfl, ?hyr9_6⟩) (by assumption) ?rer9_6
          case hyr9_6 => (intro W hSw; (try dsimp only at hSw); go_simp; try with_reducible rfl)
          try simp only [Act.put, List.setIfInBounds_toArray, List.set_cons_zero, List.set_cons_succ]
          refine' wpAnyH_take (i := 7) (oi := { dst := some 256, op := Go.Op.move (Go.Operand.tmp 255), type := 4, pos := "law.go:504", after := #[{ on := 6, ground := Go.Ground.data }, { on := 3, ground := Go.Ground.chain }, { on := 3, ground := Go.Ground.guard }], guard := some (3, false) }) (v := _) rfl (by kernel_rfl) (by kernel_rfl) (by kernel_rfl) (fun _ _ _ h => h) (Or.inl ⟨by rfl, ?hyr9_7⟩) (by assumption) ?rer9_7
          case hyr9_7 => (intro W hSw; (try dsimp only at hSw); go_simp; try with_reducible rfl)
          try simp only [Act.put, List.setIfInBounds_toArray, List.set_cons_zero, List.set_cons_succ]
          refine wpAnyH_take (i := 8) (oi := { dst := some 257, op := Go.Op.move (Go.Operand.tmp 19), type := 38, pos := "law.go:504", after := #[{ on := 7, ground := Go.Ground.guard }], guard := some (7, true) }) (v := undef) rfl (by kernel_rfl) (by kernel_rfl) (by kernel_rfl) (fun _ _ _ h => h) (Or.inr ⟨by rfl, rfl⟩) (by assumption) ?_
          try simp only [Act.put, List.setIfInBounds_toArray, List.set_cons_zero, List.set_cons_succ]
          refine wpAnyH_take (i := 9) (oi := { dst := some 258, op := Go.Op.move (Go.Operand.tmp 21), type := 3, pos := "law.go:504", after := #[{ on := 7, ground := Go.Ground.guard }], guard := some (7, true) }) (v := undef) rfl (by kernel_rfl) (by kernel_rfl) (by kernel_rfl) (fun _ _ _ h => h) (Or.inr ⟨by rfl, rfl⟩) (by assumption) ?_
          try simp only [Act.put, List.setIfInBounds_toArray, List.set_cons_zero, List.set_cons_succ]
          refine wpAnyH_take (i := 10) (oi := { dst := some 259, op := Go.Op.binOp Go.BinOp.sub 3 (Go.Operand.tmp 258) (Go.Operand.const (Go.Value.int Go.IntKind.i64 1)) 3, type := 3, pos := "law.go:504", after := #[{ on := 9, ground := Go.Ground.data }, { on := 7, ground := Go.Ground.guard }], guard := some (7, true) }) (v := undef) rfl (by kernel_rfl) (by kernel_rfl) (by kernel_rfl) (fun _ _ _ h => h) (Or.inr ⟨by rfl, rfl⟩) (by assumption) ?_
          try simp only [Act.put, List.setIfInBounds_toArray, List.set_cons_zero, List.set_cons_succ]
          refine wpAnyH_take (i := 11) (oi := { dst := some 260, op := Go.Op.indexAddr 38 (Go.Operand.tmp 257) (Go.Operand.tmp 259), type := 0, pos := "law.go:504", after := #[{ on := 8, ground := Go.Ground.data }, { on := 10, ground := Go.Ground.data }, { on := 7, ground := Go.Ground.guard }], guard := some (7, true) }) (v := undef) rfl (by kernel_rfl) (by kernel_rfl) (by kernel_rfl) (fun _ _ _ h => h) (Or.inr ⟨by rfl, rfl⟩) (by assumption) ?_
          try simp only [Act.put, List.setIfInBounds_toArray, List.set_cons_zero, List.set_cons_succ]
          refine wpAnyH_take (i := 12) (oi := { dst := some 261, op := Go.Op.fieldAddr 37 (Go.Operand.tmp 260) 2, type := 0, pos := "law.go:504", after := #[{ on := 11, ground := Go.Ground.data }, { on := 7, ground := Go.Ground.guard }], guard := some (7, true) }) (v := undef) rfl (by kernel_rfl) (by kernel_rfl) (by kernel_rfl) (fun _ _ _ h => h) (Or.inr ⟨by rfl, rfl⟩) (by assumption) ?_
          try simp only [Act.put, List.setIfInBounds_toArray, List.set_cons_zero, List.set_cons_succ]
          refine wpAnyH_take (i := 13) (oi := { dst := some 262, op := Go.Op.load 3 (Go.Operand.tmp 261), type := 3, pos := "law.go:504", after := #[{ on := 12, ground := Go.Ground.data }, { on := 7, ground := Go.Ground.guard }], guard := some (7, true) }) (v := undef) rfl (by kernel_rfl) (by kernel_rfl) (by kernel_rfl) (fun _ _ _ h => h) (Or.inr ⟨by rfl, rfl⟩) (by assumption) ?_
          try simp only [Act.put, List.setIfInBounds_toArray, List.set_cons_zero, List.set_cons_succ]
          refine wpAnyH_take (i := 14) (oi := { dst := some 263, op := Go.Op.move (Go.Operand.tmp 19), type := 38, pos := "law.go:504", after := #[{ on := 7, ground := Go.Ground.guard }], guard := some (7, true) }) (v := undef) rfl (by kernel_rfl) (by kernel_rfl) (by kernel_rfl) (fun _ _ _ h => h) (Or.inr ⟨by rfl, rfl⟩) (by assumption) ?_
          try simp only [Act.put, List.setIfInBounds_toArray, List.set_cons_zero, List.set_cons_succ]
          refine wpAnyH_take (i := 15) (oi := { dst := some 264, op := Go.Op.move (Go.Operand.tmp 21), type := 3, pos := "law.go:504", after := #[{ on := 7, ground := Go.Ground.guard }], guard := some (7, true) }) (v := undef) rfl (by kernel_rfl) (by kernel_rfl) (by kernel_rfl) (fun _ _ _ h => h) (Or.inr ⟨by rfl, rfl⟩) (by assumption) ?_
          try simp only [Act.put, List.setIfInBounds_toArray, List.set_cons_zero, List.set_cons_succ]
          refine wpAnyH_take (i := 16) (oi := { dst := some 265, op := Go.Op.indexAddr 38 (Go.Operand.tmp 263) (Go.Operand.tmp 264), type := 0, pos := "law.go:504", after := #[{ on := 14, ground := Go.Ground.data }, { on := 15, ground := Go.Ground.data }, { on := 7, ground := Go.Ground.guard }], guard := some (7, true) }) (v := undef) rfl (by kernel_rfl) (by kernel_rfl) (by kernel_rfl) (fun _ _ _ h => h) (Or.inr ⟨by rfl, rfl⟩) (by assumption) ?_
          try simp only [Act.put, List.setIfInBounds_toArray, List.set_cons_zero, List.set_cons_succ]
          refine wpAnyH_take (i := 17) (oi := { dst := some 266, op := Go.Op.fieldAddr 37 (Go.Operand.tmp 265) 2, type := 0, pos := "law.go:504", after := #[{ on := 16, ground := Go.Ground.data }, { on := 7, ground := Go.Ground.guard }], guard := some (7, true) }) (v := undef) rfl (by kernel_rfl) (by kernel_rfl) (by kernel_rfl) (fun _ _ _ h => h) (Or.inr ⟨by rfl, rfl⟩) (by assumption) ?_
          try simp only [Act.put, List.setIfInBounds_toArray, List.set_cons_zero, List.set_cons_succ]
          refine wpAnyH_take (i := 18) (oi := { dst := some 267, op := Go.Op.load 3 (Go.Operand.tmp 266), type := 3, pos := "law.go:504", after := #[{ on := 17, ground := Go.Ground.data }, { on := 7, ground := Go.Ground.guard }], guard := some (7, true) }) (v := undef) rfl (by kernel_rfl) (by kernel_rfl) (by kernel_rfl) (fun _ _ _ h => h) (Or.inr ⟨by rfl, rfl⟩) (by assumption) ?_
          try simp only [Act.put, List.setIfInBounds_toArray, List.set_cons_zero, List.set_cons_succ]
          refine wpAnyH_take (i := 19) (oi := { dst := some 268, op := Go.Op.binOp Go.BinOp.geq 3 (Go.Operand.tmp 262) (Go.Operand.tmp 267) 3, type := 4, pos := "law.go:504", after := #[{ on := 13, ground := Go.Ground.data }, { on := 18, ground := Go.Ground.data }, { on := 7, ground := Go.Ground.guard }], guard := some (7, true) }) (v := undef) rfl (by kernel_rfl) (by kernel_rfl) (by kernel_rfl) (fun _ _ _ h => h) (Or.inr ⟨by rfl, rfl⟩) (by assumption) ?_
          try simp only [Act.put, List.setIfInBounds_toArray, List.set_cons_zero, List.set_cons_succ]
          refine' wpAnyH_take (i := 20) (oi := { dst := some 269, op := Go.Op.pick (Go.Operand.tmp 256) (Go.Operand.tmp 268) (Go.Operand.const (Go.Value.bool false)), type := 4, pos := "law.go:504", after := #[{ on := 7, ground := Go.Ground.data }, { on := 19, ground := Go.Ground.data }, { on := 3, ground := Go.Ground.guard }], guard := some (3, false) }) (v := _) rfl (by kernel_rfl) (by kernel_rfl) (by kernel_rfl) (fun _ _ _ h => h) (Or.inl ⟨by rfl, ?hyr9_20⟩) (by assumption) ?rer9_20
          case hyr9_20 => (intro W hSw; (try dsimp only at hSw); go_simp; try with_reducible rfl)
          try simp only [Act.put, List.setIfInBounds_toArray, List.set_cons_zero, List.set_cons_succ]
          refine' wpAnyH_take (i := 21) (oi := { dst := some 270, op := Go.Op.pick (Go.Operand.tmp 252) (Go.Operand.const (Go.Value.bool true)) (Go.Operand.tmp 269), type := 4, pos := "law.go:504", after := #[{ on := 3, ground := Go.Ground.data }, { on := 20, ground := Go.Ground.data }], guard := none }) (v := _) rfl (by kernel_rfl) (by kernel_rfl) (by kernel_rfl) (fun _ _ _ h => h) (Or.inl ⟨by rfl, ?hyr9_21⟩) (by assumption) ?rer9_21
          case hyr9_21 => (intro W hSw; (try dsimp only at hSw); go_simp; try with_reducible rfl)
          try simp only [Act.put, List.setIfInBounds_toArray, List.set_cons_zero, List.set_cons_succ]
          refine wpAnyH_done (by kernel_rfl) ?_ _
          refine NoPanic.normal ?_
          rename_i hK9
          refine hK9 _ _ ?_
          clear s0 n1 n2
          go_wp2_with fail
          go_roundw
          case rel => exact ⟨i + 1, hlt, by go_num, B5.out⟩
          case measure => simp [intOf]; omega
        · obtain rfl : one = two := h1
          have n3 : ¬ (q : Int) ≤ (p : Int) := by omega
          refine wp_region_noPanic ?_
          refine wp_region_held_drew (S := (fun V => V.cell? ⟨gl, j * 6 + 3, none⟩ = some (.int .i64 (p : Int)) ∧ V.cell? ⟨gl, i * 6 + 3, none⟩ = some (.int .i64 (q : Int)))) (by kernel_rfl) (s0) (fun hHeld => ?_)
          refine' wpAnyH_take (i := 0) (oi := { dst := some 249, op := Go.Op.move (Go.Operand.tmp 24), type := 3, pos := "law.go:504", after := #[], guard := none }) (v := _) rfl (by kernel_rfl) (by kernel_rfl) (by kernel_rfl) (fun _ _ _ h => h) (Or.inl ⟨by rfl, ?hyr10_0⟩) (by assumption) ?rer10_0
          case hyr10_0 => (intro W hSw; (try dsimp only at hSw); go_simp; try with_reducible rfl)
          try simp only [Act.put, List.setIfInBounds_toArray, List.set_cons_zero, List.set_cons_succ]
          refine' wpAnyH_take (i := 1) (oi := { dst := some 250, op := Go.Op.move (Go.Operand.tmp 25), type := 3, pos := "law.go:504", after := #[], guard := none }) (v := _) rfl (by kernel_rfl) (by kernel_rfl) (by kernel_rfl) (fun _ _ _ h => h) (Or.inl ⟨by rfl, ?hyr10_1⟩) (by assumption) ?rer10_1
          case hyr10_1 => (intro W hSw; (try dsimp only at hSw); go_simp; try with_reducible rfl)
          try simp only [Act.put, List.setIfInBounds_toArray, List.set_cons_zero, List.set_cons_succ]
          refine' wpAnyH_take (i := 2) (oi := { dst := some 251, op := Go.Op.binOp Go.BinOp.gtr 3 (Go.Operand.tmp 249) (Go.Operand.tmp 250) 3, type := 4, pos := "law.go:504", after := #[{ on := 0, ground := Go.Ground.data }, { on := 1, ground := Go.Ground.data }], guard := none }) (v := _) rfl (by kernel_rfl) (by kernel_rfl) (by kernel_rfl) (fun _ _ _ h => h) (Or.inl ⟨by rfl, ?hyr10_2⟩) (by assumption) ?rer10_2
          case hyr10_2 => (intro W hSw; (try dsimp only at hSw); go_simp; try with_reducible rfl)
          try simp only [Act.put, List.setIfInBounds_toArray, List.set_cons_zero, List.set_cons_succ]
          refine' wpAnyH_take (i := 3) (oi := { dst := some 252, op := Go.Op.move (Go.Operand.tmp 251), type := 4, pos := "law.go:504", after := #[{ on := 2, ground := Go.Ground.data }], guard := none }) (v := _) rfl (by kernel_rfl) (by kernel_rfl) (by kernel_rfl) (fun _ _ _ h => h) (Or.inl ⟨by rfl, ?hyr10_3⟩) (by assumption) ?rer10_3
          case hyr10_3 => (intro W hSw; (try dsimp only at hSw); go_simp; try with_reducible rfl)
          try simp only [Act.put, List.setIfInBounds_toArray, List.set_cons_zero, List.set_cons_succ]
          refine' wpAnyH_take (i := 4) (oi := { dst := some 253, op := Go.Op.move (Go.Operand.tmp 24), type := 3, pos := "law.go:504", after := #[{ on := 3, ground := Go.Ground.guard }], guard := some (3, false) }) (v := _) rfl (by kernel_rfl) (by kernel_rfl) (by kernel_rfl) (fun _ _ _ h => h) (Or.inl ⟨by rfl, ?hyr10_4⟩) (by assumption) ?rer10_4
          case hyr10_4 => (intro W hSw; (try dsimp only at hSw); go_simp; try with_reducible rfl)
          try simp only [Act.put, List.setIfInBounds_toArray, List.set_cons_zero, List.set_cons_succ]
          refine' wpAnyH_take (i := 5) (oi := { dst := some 254, op := Go.Op.move (Go.Operand.tmp 25), type := 3, pos := "law.go:504", after := #[{ on := 3, ground := Go.Ground.guard }], guard := some (3, false) }) (v := _) rfl (by kernel_rfl) (by kernel_rfl) (by kernel_rfl) (fun _ _ _ h => h) (Or.inl ⟨by rfl, ?hyr10_5⟩) (by assumption) ?rer10_5
          case hyr10_5 => (intro W hSw; (try dsimp only at hSw); go_simp; try with_reducible rfl)
          try simp only [Act.put, List.setIfInBounds_toArray, List.set_cons_zero, List.set_cons_succ]
          refine' wpAnyH_take (i := 6) (oi := { dst := some 255, op := Go.Op.binOp Go.BinOp.eql 3 (Go.Operand.tmp 253) (Go.Operand.tmp 254) 3, type := 4, pos := "law.go:504", after := #[{ on := 4, ground := Go.Ground.data }, { on := 5, ground := Go.Ground.data }, { on := 3, ground := Go.Ground.guard }], guard := some (3, false) }) (v := _) rfl (by kernel_rfl) (by kernel_rfl) (by kernel_rfl) (fun _ _ _ h => h) (Or.inl ⟨by rfl, ?hyr10_6⟩) (by assumption) ?rer10_6
          case hyr10_6 => (intro W hSw; (try dsimp only at hSw); go_simp; try with_reducible rfl)
          try simp only [Act.put, List.setIfInBounds_toArray, List.set_cons_zero, List.set_cons_succ]
          refine' wpAnyH_take (i := 7) (oi := { dst := some 256, op := Go.Op.move (Go.Operand.tmp 255), type := 4, pos := "law.go:504", after := #[{ on := 6, ground := Go.Ground.data }, { on := 3, ground := Go.Ground.chain }, { on := 3, ground := Go.Ground.guard }], guard := some (3, false) }) (v := _) rfl (by kernel_rfl) (by kernel_rfl) (by kernel_rfl) (fun _ _ _ h => h) (Or.inl ⟨by rfl, ?hyr10_7⟩) (by assumption) ?rer10_7
          case hyr10_7 => (intro W hSw; (try dsimp only at hSw); go_simp; try with_reducible rfl)
          try simp only [Act.put, List.setIfInBounds_toArray, List.set_cons_zero, List.set_cons_succ]
          refine' wpAnyH_take (i := 8) (oi := { dst := some 257, op := Go.Op.move (Go.Operand.tmp 19), type := 38, pos := "law.go:504", after := #[{ on := 7, ground := Go.Ground.guard }], guard := some (7, true) }) (v := _) rfl (by kernel_rfl) (by kernel_rfl) (by kernel_rfl) (fun _ _ _ h => h) (Or.inl ⟨by rfl, ?hyr10_8⟩) (by assumption) ?rer10_8
          case hyr10_8 => (intro W hSw; (try dsimp only at hSw); go_simp; try with_reducible rfl)
          try simp only [Act.put, List.setIfInBounds_toArray, List.set_cons_zero, List.set_cons_succ]
          refine' wpAnyH_take (i := 9) (oi := { dst := some 258, op := Go.Op.move (Go.Operand.tmp 21), type := 3, pos := "law.go:504", after := #[{ on := 7, ground := Go.Ground.guard }], guard := some (7, true) }) (v := _) rfl (by kernel_rfl) (by kernel_rfl) (by kernel_rfl) (fun _ _ _ h => h) (Or.inl ⟨by rfl, ?hyr10_9⟩) (by assumption) ?rer10_9
          case hyr10_9 => (intro W hSw; (try dsimp only at hSw); go_simp; try with_reducible rfl)
          try simp only [Act.put, List.setIfInBounds_toArray, List.set_cons_zero, List.set_cons_succ]
          refine' wpAnyH_take (i := 10) (oi := { dst := some 259, op := Go.Op.binOp Go.BinOp.sub 3 (Go.Operand.tmp 258) (Go.Operand.const (Go.Value.int Go.IntKind.i64 1)) 3, type := 3, pos := "law.go:504", after := #[{ on := 9, ground := Go.Ground.data }, { on := 7, ground := Go.Ground.guard }], guard := some (7, true) }) (v := _) rfl (by kernel_rfl) (by kernel_rfl) (by kernel_rfl) (fun _ _ _ h => h) (Or.inl ⟨by rfl, ?hyr10_10⟩) (by assumption) ?rer10_10
          case hyr10_10 => (intro W hSw; (try dsimp only at hSw); go_simp; try with_reducible rfl)
          try simp only [Act.put, List.setIfInBounds_toArray, List.set_cons_zero, List.set_cons_succ]
          refine' wpAnyH_take (i := 11) (oi := { dst := some 260, op := Go.Op.indexAddr 38 (Go.Operand.tmp 257) (Go.Operand.tmp 259), type := 0, pos := "law.go:504", after := #[{ on := 8, ground := Go.Ground.data }, { on := 10, ground := Go.Ground.data }, { on := 7, ground := Go.Ground.guard }], guard := some (7, true) }) (v := _) rfl (by kernel_rfl) (by kernel_rfl) (by kernel_rfl) (fun _ _ _ h => h) (Or.inl ⟨by rfl, ?hyr10_11⟩) (by assumption) ?rer10_11
          case hyr10_11 => (intro W hSw; (try dsimp only at hSw); go_simp; try with_reducible rfl)
          try simp only [Act.put, List.setIfInBounds_toArray, List.set_cons_zero, List.set_cons_succ]
          refine' wpAnyH_take (i := 12) (oi := { dst := some 261, op := Go.Op.fieldAddr 37 (Go.Operand.tmp 260) 2, type := 0, pos := "law.go:504", after := #[{ on := 11, ground := Go.Ground.data }, { on := 7, ground := Go.Ground.guard }], guard := some (7, true) }) (v := _) rfl (by kernel_rfl) (by kernel_rfl) (by kernel_rfl) (fun _ _ _ h => h) (Or.inl ⟨by rfl, ?hyr10_12⟩) (by assumption) ?rer10_12
          case hyr10_12 => (intro W hSw; (try dsimp only at hSw); go_simp; try with_reducible rfl)
          try simp only [Act.put, List.setIfInBounds_toArray, List.set_cons_zero, List.set_cons_succ]
          refine' wpAnyH_take (i := 13) (oi := { dst := some 262, op := Go.Op.load 3 (Go.Operand.tmp 261), type := 3, pos := "law.go:504", after := #[{ on := 12, ground := Go.Ground.data }, { on := 7, ground := Go.Ground.guard }], guard := some (7, true) }) (v := _) rfl (by kernel_rfl) (by kernel_rfl) (by kernel_rfl) (fun _ _ _ h => h) (Or.inl ⟨by rfl, ?hyr10_13⟩) (by assumption) ?rer10_13
          case hyr10_13 => (intro W hSw; (try dsimp only at hSw); go_simp; try with_reducible rfl)
          try simp only [Act.put, List.setIfInBounds_toArray, List.set_cons_zero, List.set_cons_succ]
          refine' wpAnyH_take (i := 14) (oi := { dst := some 263, op := Go.Op.move (Go.Operand.tmp 19), type := 38, pos := "law.go:504", after := #[{ on := 7, ground := Go.Ground.guard }], guard := some (7, true) }) (v := _) rfl (by kernel_rfl) (by kernel_rfl) (by kernel_rfl) (fun _ _ _ h => h) (Or.inl ⟨by rfl, ?hyr10_14⟩) (by assumption) ?rer10_14
          case hyr10_14 => (intro W hSw; (try dsimp only at hSw); go_simp; try with_reducible rfl)
          try simp only [Act.put, List.setIfInBounds_toArray, List.set_cons_zero, List.set_cons_succ]
          refine' wpAnyH_take (i := 15) (oi := { dst := some 264, op := Go.Op.move (Go.Operand.tmp 21), type := 3, pos := "law.go:504", after := #[{ on := 7, ground := Go.Ground.guard }], guard := some (7, true) }) (v := _) rfl (by kernel_rfl) (by kernel_rfl) (by kernel_rfl) (fun _ _ _ h => h) (Or.inl ⟨by rfl, ?hyr10_15⟩) (by assumption) ?rer10_15
          case hyr10_15 => (intro W hSw; (try dsimp only at hSw); go_simp; try with_reducible rfl)
          try simp only [Act.put, List.setIfInBounds_toArray, List.set_cons_zero, List.set_cons_succ]
          refine' wpAnyH_take (i := 16) (oi := { dst := some 265, op := Go.Op.indexAddr 38 (Go.Operand.tmp 263) (Go.Operand.tmp 264), type := 0, pos := "law.go:504", after := #[{ on := 14, ground := Go.Ground.data }, { on := 15, ground := Go.Ground.data }, { on := 7, ground := Go.Ground.guard }], guard := some (7, true) }) (v := _) rfl (by kernel_rfl) (by kernel_rfl) (by kernel_rfl) (fun _ _ _ h => h) (Or.inl ⟨by rfl, ?hyr10_16⟩) (by assumption) ?rer10_16
          case hyr10_16 => (intro W hSw; (try dsimp only at hSw); go_simp; try with_reducible rfl)
          try simp only [Act.put, List.setIfInBounds_toArray, List.set_cons_zero, List.set_cons_succ]
          refine' wpAnyH_take (i := 17) (oi := { dst := some 266, op := Go.Op.fieldAddr 37 (Go.Operand.tmp 265) 2, type := 0, pos := "law.go:504", after := #[{ on := 16, ground := Go.Ground.data }, { on := 7, ground := Go.Ground.guard }], guard := some (7, true) }) (v := _) rfl (by kernel_rfl) (by kernel_rfl) (by kernel_rfl) (fun _ _ _ h => h) (Or.inl ⟨by rfl, ?hyr10_17⟩) (by assumption) ?rer10_17
          case hyr10_17 => (intro W hSw; (try dsimp only at hSw); go_simp; try with_reducible rfl)
          try simp only [Act.put, List.setIfInBounds_toArray, List.set_cons_zero, List.set_cons_succ]
          refine' wpAnyH_take (i := 18) (oi := { dst := some 267, op := Go.Op.load 3 (Go.Operand.tmp 266), type := 3, pos := "law.go:504", after := #[{ on := 17, ground := Go.Ground.data }, { on := 7, ground := Go.Ground.guard }], guard := some (7, true) }) (v := _) rfl (by kernel_rfl) (by kernel_rfl) (by kernel_rfl) (fun _ _ _ h => h) (Or.inl ⟨by rfl, ?hyr10_18⟩) (by assumption) ?rer10_18
          case hyr10_18 => (intro W hSw; (try dsimp only at hSw); go_simp; try with_reducible rfl)
          try simp only [Act.put, List.setIfInBounds_toArray, List.set_cons_zero, List.set_cons_succ]
          refine' wpAnyH_take (i := 19) (oi := { dst := some 268, op := Go.Op.binOp Go.BinOp.geq 3 (Go.Operand.tmp 262) (Go.Operand.tmp 267) 3, type := 4, pos := "law.go:504", after := #[{ on := 13, ground := Go.Ground.data }, { on := 18, ground := Go.Ground.data }, { on := 7, ground := Go.Ground.guard }], guard := some (7, true) }) (v := _) rfl (by kernel_rfl) (by kernel_rfl) (by kernel_rfl) (fun _ _ _ h => h) (Or.inl ⟨by rfl, ?hyr10_19⟩) (by assumption) ?rer10_19
          case hyr10_19 => (intro W hSw; (try dsimp only at hSw); go_simp; try with_reducible rfl)
          try simp only [Act.put, List.setIfInBounds_toArray, List.set_cons_zero, List.set_cons_succ]
          refine' wpAnyH_take (i := 20) (oi := { dst := some 269, op := Go.Op.pick (Go.Operand.tmp 256) (Go.Operand.tmp 268) (Go.Operand.const (Go.Value.bool false)), type := 4, pos := "law.go:504", after := #[{ on := 7, ground := Go.Ground.data }, { on := 19, ground := Go.Ground.data }, { on := 3, ground := Go.Ground.guard }], guard := some (3, false) }) (v := _) rfl (by kernel_rfl) (by kernel_rfl) (by kernel_rfl) (fun _ _ _ h => h) (Or.inl ⟨by rfl, ?hyr10_20⟩) (by assumption) ?rer10_20
          case hyr10_20 => (intro W hSw; (try dsimp only at hSw); go_simp; try with_reducible rfl)
          try simp only [Act.put, List.setIfInBounds_toArray, List.set_cons_zero, List.set_cons_succ]
          refine' wpAnyH_take (i := 21) (oi := { dst := some 270, op := Go.Op.pick (Go.Operand.tmp 252) (Go.Operand.const (Go.Value.bool true)) (Go.Operand.tmp 269), type := 4, pos := "law.go:504", after := #[{ on := 3, ground := Go.Ground.data }, { on := 20, ground := Go.Ground.data }], guard := none }) (v := _) rfl (by kernel_rfl) (by kernel_rfl) (by kernel_rfl) (fun _ _ _ h => h) (Or.inl ⟨by rfl, ?hyr10_21⟩) (by assumption) ?rer10_21
          case hyr10_21 => (intro W hSw; (try dsimp only at hSw); go_simp; try with_reducible rfl)
          try simp only [Act.put, List.setIfInBounds_toArray, List.set_cons_zero, List.set_cons_succ]
          refine wpAnyH_done (by kernel_rfl) ?_ _
          refine NoPanic.normal ?_
          rename_i hK9
          refine hK9 _ _ ?_
          clear s0 n3
          go_wp2_with fail
          go_roundw
          case rel => exact ⟨i + 1, hlt, by go_num, B5.out⟩
          case measure => simp [intOf]; omega
    · have t1 : ¬ (i : Int) < (n : Int) := by omega
      have hx : Hid (Below w.heap.size w wr) := (MW10.out.later HI.out).below (Nat.le_refl _) (fun _ h => h)
      clear HI
      go_wp2_with fail
      go_ret
      exact ⟨rfl, hx.out⟩
end Go.Proofs.Ytfjfimmbdnfeiaa
