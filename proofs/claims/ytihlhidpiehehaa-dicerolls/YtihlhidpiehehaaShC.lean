/-
  Shuffle: the program's.
-/
import Derived.Test.YtihlhidpiehehaaShD
namespace Go.Proofs.Ytihlhidpiehehaa
open Go.RowKit
set_option maxRecDepth 100000
theorem shuffle_bad {w : World} {g : Nat} (n : Int) (h : n < 1 ∨ 1000 < n) : Calls Try.prog 18 #[.pointer (some ⟨g, 0, none⟩), .int .i64 n] w fun e w' => e = .returned (.slice none 0 0) ∧ w' = w := by
  rcases h with h | h
  · go_enter Try.func18, Try.ntmps18
    go_wp2_with fail
    go_ret
    exact ⟨rfl, rfl⟩
  · go_enter Try.func18, Try.ntmps18
    go_wp2_with fail
    go_ret
    exact ⟨rfl, rfl⟩
set_option maxHeartbeats 4000000 in
theorem shuffle_any {w : World} {g : Nat} {s : Int} (h : Dz w g s) (n : Nat) (h1 : 1 ≤ n) (h2 : n ≤ 1000) : Calls Try.prog 18 #[.pointer (some ⟨g, 0, none⟩), .int .i64 (n : Int)] w fun e w' => e = .returned (.slice (some ⟨w.heap.size, 0, none⟩) n n) ∧ Ir w' w.heap.size (ordL n s) ∧ Dz w' g (ordS n s) ∧ Mv w w' (fun k => k = g) := by
  have hmk := run_make_row' (P := Try.prog) 45 3 (.int .i64 0) 8 Try.underlying45 info3 rfl .i64 .i64 n (by omega) (by omega)
  have H := hide h
  have hgl := h.lt
  have JB := hide (fun (W : World) (s : Int) (x : Int) (h : Dz W g s) h1 h2 => below_any h x h1 h2)
  obtain ⟨gs, hgs⟩ : ∃ k, k = w.heap.size := ⟨_, rfl⟩
  rw [← hgs] at hgl ⊢
  clear h
  go_enter Try.func18, Try.ntmps18
  go_wp2_with fail
  rw [← hgs]
  have HI : Hid (Ir (w.alloc (.cells (madeCells #[.int .i64 0] n) 3)) gs (iota 0 ++ List.replicate (n - 0) 0)) := by
    show Ir _ _ _
    unfold Ir
    rw [hgs, made_row]
    exact heap_alloc_new _ _
  have HGS := hide hgs
  clear hgs
  go_loopg [19] n (fun k v6 wr => ∃ i : Nat, k = n - i ∧ i ≤ n ∧ v6 = .int .i64 (i : Int) ∧ Hid (Ir wr gs (iota i ++ List.replicate (n - i) 0)) ∧ Hid (Below w.heap.size w wr))
  case atStart => exact ⟨0, rfl, by omega, rfl, HI, below_alloc _ _⟩
  case round =>
    clear HI
    obtain ⟨i, hk, hi, rfl, HI, HW⟩ := hrel
    by_cases hlt : i < n
    · have hlt' : (i : Int) < (n : Int) := by omega
      have f0 : wr.frozen? ⟨gs, i, none⟩ = false := HI.out.frozen i
      have c0 : wr.cell? ⟨gs, i, none⟩ = some (.int .i64 ((iota i ++ List.replicate (n - i) 0).getD i 0)) := HI.out.cellD i (by simp [iota_len]; omega)
      go_wp2_with fail
      go_roundg (n - (i + 1))
      case measure => omega
      case rel => exact ⟨i + 1, rfl, hlt, by simp, iota_step HI.out hlt, HW.out.setCell (p := ⟨gs, i, none⟩) (Nat.le_of_eq HGS.out.symm) _⟩
    · obtain rfl : n = i := by omega
      go_wp2_with fail
      have HI2 : Hid (Ir wr gs (iota n)) := by
        have := HI.out
        simp only [Nat.sub_self, List.replicate_zero, List.append_nil] at this
        exact this
      have HZ : Hid (Dz wr g s) := H.out.later HW.out
      have HW2 := hide (Mv.of_below HW.out (fun k => k = g))
      clear HW HI
      go_loopg [7] (n - 1) (fun k v7 wr => ∃ (i : Nat) (l : List Int) (s' : Int), k = i ∧ v7 = .int .i64 (i : Int) ∧ i < n ∧ l.length = n ∧ Hid (shuf i l s' = shuf (n - 1) (iota n) s) ∧ Hid (Ir wr gs l) ∧ Hid (Dz wr g s') ∧ Hid (Mv w wr (fun k => k = g)))
      case atStart => exact ⟨n - 1, iota n, s, rfl, by simp; omega, by omega, iota_len n, rfl, HI2, HZ, HW2⟩
      case round =>
        clear HI2 HZ HW2
        obtain ⟨i, l, s', hk, rfl, hi, hl, HE, HI, HZ, HW⟩ := hrel
        by_cases hi1 : 1 ≤ i
        · have hi1' : (1 : Int) ≤ (i : Int) := by omega
          have hr := belA_b (n := (i : Int) + 1) s' (by omega)
          have hs := shuf_step l s' hi1
          have JB2 := hide (JB.out wr s' ((i : Int) + 1) HZ.out (by omega) (by omega))
          obtain ⟨j, hj⟩ : ∃ j : Nat, belA ((i : Int) + 1) s' = (j : Int) := ⟨(belA ((i : Int) + 1) s').toNat, by omega⟩
          rw [hj] at hr JB2 hs
          rw [Int.toNat_natCast] at hs
          have hjn : j < n := by omega
          have hji : (j : Int) < (n : Int) := by omega
          have HS := hide hs
          have hgg : gs ≠ g := by omega
          clear hs hj
          generalize belS ((i : Int) + 1) s' = s2 at *
          go_wp2_with fail
          refine JB2.out.mono ?_
          rintro e w2 ⟨rfl, hd, hm⟩
          have HD := hide hd
          have HM := hide hm
          have HI2 := hide (HI.out.frame hm hgg)
          have c0 : w2.cell? ⟨gs, i, none⟩ = some (.int .i64 (l.getD i 0)) := HI2.out.cellD i (by omega)
          have c1 : w2.cell? ⟨gs, j, none⟩ = some (.int .i64 (l.getD j 0)) := HI2.out.cellD j (by omega)
          have f0 : w2.frozen? ⟨gs, i, none⟩ = false := HI2.out.frozen i
          have f1 : w2.frozen? ⟨gs, j, none⟩ = false := HI2.out.frozen j
          have KS := hide (swp_ir HI2.out i j)
          have K1 := hide (HI2.out.set i (l.getD j 0))
          clear hd hm
          generalize l.getD i 0 = x at *
          generalize l.getD j 0 = y at *
          go_upto_region 13 with fail
          refine wp_region_noPanic ?_
          refine wp_region_late (J := fun i => i != 13 && i != 15) (S := fun W => W.cell? ⟨gs, i, none⟩ = some (.int .i64 x) ∧ W.cell? ⟨gs, j, none⟩ = some (.int .i64 y)) (by kernel_rfl) ⟨c0, c1⟩ (fun hHeld => ?_)
          refine' wpAnyJ_takeW (i := 0) (oi := { dst := some 37, op := Op.move (Operand.tmp 5), type := 45, pos := "dice.go:103", after := #[], guard := none }) (v := _) rfl (by kernel_rfl) (by kernel_rfl) (by kernel_rfl) (fun _ _ _ h => h) (Or.inl ⟨by rfl, ?hyA1⟩) ?reA1
          case hyA1 => (intro W hSw; (try dsimp only at hSw); go_simp; try with_reducible rfl)
          try simp only [Act.put, List.setIfInBounds_toArray, List.set_cons_zero, List.set_cons_succ]
          refine' wpAnyJ_takeW (i := 1) (oi := { dst := some 38, op := Op.move (Operand.tmp 7), type := 3, pos := "dice.go:103", after := #[], guard := none }) (v := _) rfl (by kernel_rfl) (by kernel_rfl) (by kernel_rfl) (fun _ _ _ h => h) (Or.inl ⟨by rfl, ?hyA2⟩) ?reA2
          case hyA2 => (intro W hSw; (try dsimp only at hSw); go_simp; try with_reducible rfl)
          try simp only [Act.put, List.setIfInBounds_toArray, List.set_cons_zero, List.set_cons_succ]
          refine' wpAnyJ_takeW (i := 2) (oi := { dst := some 39, op := Op.move (Operand.tmp 5), type := 45, pos := "dice.go:103", after := #[{ on := 13, ground := Ground.gcOnly Departure.lateStores }], guard := none }) (v := _) rfl (by kernel_rfl) (by kernel_rfl) (by kernel_rfl) (fun _ _ _ h => h) (Or.inl ⟨by rfl, ?hyA3⟩) ?reA3
          case hyA3 => (intro W hSw; (try dsimp only at hSw); go_simp; try with_reducible rfl)
          try simp only [Act.put, List.setIfInBounds_toArray, List.set_cons_zero, List.set_cons_succ]
          refine' wpAnyJ_takeW (i := 3) (oi := { dst := some 40, op := Op.move (Operand.tmp 8), type := 2, pos := "dice.go:103", after := #[{ on := 13, ground := Ground.gcOnly Departure.lateStores }], guard := none }) (v := _) rfl (by kernel_rfl) (by kernel_rfl) (by kernel_rfl) (fun _ _ _ h => h) (Or.inl ⟨by rfl, ?hyA4⟩) ?reA4
          case hyA4 => (intro W hSw; (try dsimp only at hSw); go_simp; try with_reducible rfl)
          try simp only [Act.put, List.setIfInBounds_toArray, List.set_cons_zero, List.set_cons_succ]
          refine' wpAnyJ_takeW (i := 4) (oi := { dst := some 41, op := Op.move (Operand.tmp 5), type := 45, pos := "dice.go:103", after := #[], guard := none }) (v := _) rfl (by kernel_rfl) (by kernel_rfl) (by kernel_rfl) (fun _ _ _ h => h) (Or.inl ⟨by rfl, ?hyA5⟩) ?reA5
          case hyA5 => (intro W hSw; (try dsimp only at hSw); go_simp; try with_reducible rfl)
          try simp only [Act.put, List.setIfInBounds_toArray, List.set_cons_zero, List.set_cons_succ]
          refine' wpAnyJ_takeW (i := 5) (oi := { dst := some 42, op := Op.move (Operand.tmp 8), type := 2, pos := "dice.go:103", after := #[], guard := none }) (v := _) rfl (by kernel_rfl) (by kernel_rfl) (by kernel_rfl) (fun _ _ _ h => h) (Or.inl ⟨by rfl, ?hyA6⟩) ?reA6
          case hyA6 => (intro W hSw; (try dsimp only at hSw); go_simp; try with_reducible rfl)
          try simp only [Act.put, List.setIfInBounds_toArray, List.set_cons_zero, List.set_cons_succ]
          refine' wpAnyJ_takeW (i := 6) (oi := { dst := some 43, op := Op.indexAddr 45 (Operand.tmp 41) (Operand.tmp 42), type := 0, pos := "dice.go:103", after := #[{ on := 4, ground := Ground.data }, { on := 5, ground := Ground.data }], guard := none }) (v := _) rfl (by kernel_rfl) (by kernel_rfl) (by kernel_rfl) (fun _ _ _ h => h) (Or.inl ⟨by rfl, ?hyA7⟩) ?reA7
          case hyA7 => (intro W hSw; (try dsimp only at hSw); go_simp; try with_reducible rfl)
          try simp only [Act.put, List.setIfInBounds_toArray, List.set_cons_zero, List.set_cons_succ]
          refine' wpAnyJ_take (i := 7) (oi := { dst := some 44, op := Op.load 3 (Operand.tmp 43), type := 3, pos := "dice.go:103", after := #[{ on := 6, ground := Ground.data }], guard := none }) (v := _) rfl (by kernel_rfl) (by kernel_rfl) (by kernel_rfl) (by kernel_rfl) (fun _ _ _ h => h) (Or.inl ⟨by rfl, ?hyA8⟩) (by assumption) ?reA8
          case hyA8 => (intro W hSw; (try dsimp only at hSw); go_simp; try with_reducible rfl)
          try simp only [Act.put, List.setIfInBounds_toArray, List.set_cons_zero, List.set_cons_succ]
          refine' wpAnyJ_takeW (i := 8) (oi := { dst := some 45, op := Op.move (Operand.tmp 5), type := 45, pos := "dice.go:103", after := #[], guard := none }) (v := _) rfl (by kernel_rfl) (by kernel_rfl) (by kernel_rfl) (fun _ _ _ h => h) (Or.inl ⟨by rfl, ?hyA9⟩) ?reA9
          case hyA9 => (intro W hSw; (try dsimp only at hSw); go_simp; try with_reducible rfl)
          try simp only [Act.put, List.setIfInBounds_toArray, List.set_cons_zero, List.set_cons_succ]
          refine' wpAnyJ_takeW (i := 9) (oi := { dst := some 46, op := Op.move (Operand.tmp 7), type := 3, pos := "dice.go:103", after := #[], guard := none }) (v := _) rfl (by kernel_rfl) (by kernel_rfl) (by kernel_rfl) (fun _ _ _ h => h) (Or.inl ⟨by rfl, ?hyA10⟩) ?reA10
          case hyA10 => (intro W hSw; (try dsimp only at hSw); go_simp; try with_reducible rfl)
          try simp only [Act.put, List.setIfInBounds_toArray, List.set_cons_zero, List.set_cons_succ]
          refine' wpAnyJ_takeW (i := 10) (oi := { dst := some 47, op := Op.indexAddr 45 (Operand.tmp 45) (Operand.tmp 46), type := 0, pos := "dice.go:103", after := #[{ on := 8, ground := Ground.data }, { on := 9, ground := Ground.data }], guard := none }) (v := _) rfl (by kernel_rfl) (by kernel_rfl) (by kernel_rfl) (fun _ _ _ h => h) (Or.inl ⟨by rfl, ?hyA11⟩) ?reA11
          case hyA11 => (intro W hSw; (try dsimp only at hSw); go_simp; try with_reducible rfl)
          try simp only [Act.put, List.setIfInBounds_toArray, List.set_cons_zero, List.set_cons_succ]
          refine' wpAnyJ_take (i := 11) (oi := { dst := some 48, op := Op.load 3 (Operand.tmp 47), type := 3, pos := "dice.go:103", after := #[{ on := 10, ground := Ground.data }], guard := none }) (v := _) rfl (by kernel_rfl) (by kernel_rfl) (by kernel_rfl) (by kernel_rfl) (fun _ _ _ h => h) (Or.inl ⟨by rfl, ?hyA12⟩) (by assumption) ?reA12
          case hyA12 => (intro W hSw; (try dsimp only at hSw); go_simp; try with_reducible rfl)
          try simp only [Act.put, List.setIfInBounds_toArray, List.set_cons_zero, List.set_cons_succ]
          refine' wpAnyJ_takeW (i := 12) (oi := { dst := some 49, op := Op.indexAddr 45 (Operand.tmp 37) (Operand.tmp 38), type := 0, pos := "dice.go:103", after := #[{ on := 0, ground := Ground.data }, { on := 1, ground := Ground.data }, { on := 0, ground := Ground.phase }, { on := 1, ground := Ground.phase }, { on := 2, ground := Ground.textOnly Departure.lateStores }, { on := 3, ground := Ground.textOnly Departure.lateStores }, { on := 4, ground := Ground.phase }, { on := 5, ground := Ground.phase }, { on := 6, ground := Ground.phase }, { on := 7, ground := Ground.phase }, { on := 8, ground := Ground.textOnly Departure.lateStores }, { on := 9, ground := Ground.textOnly Departure.lateStores }, { on := 10, ground := Ground.textOnly Departure.lateStoresUnsure }, { on := 11, ground := Ground.phase }], guard := none }) (v := _) rfl (by kernel_rfl) (by kernel_rfl) (by kernel_rfl) (fun _ _ _ h => h) (Or.inl ⟨by rfl, ?hyA13⟩) ?reA13
          case hyA13 => (intro W hSw; (try dsimp only at hSw); go_simp; try with_reducible rfl)
          try simp only [Act.put, List.setIfInBounds_toArray, List.set_cons_zero, List.set_cons_succ]
          refine wpAnyJ_ready (rs := [13]) (by kernel_rfl) (by simp) ?_
          refine AllReadyJ.cons (o := { dst := none, op := Op.store 3 (Operand.tmp 49) (Operand.tmp 44), type := 0, pos := "dice.go:103", after := #[{ on := 12, ground := Ground.data }, { on := 7, ground := Ground.data }, { on := 0, ground := Ground.phase }, { on := 1, ground := Ground.phase }, { on := 2, ground := Ground.textOnly Departure.lateStores }, { on := 3, ground := Ground.textOnly Departure.lateStores }, { on := 4, ground := Ground.phase }, { on := 5, ground := Ground.phase }, { on := 6, ground := Ground.phase }, { on := 7, ground := Ground.phase }, { on := 8, ground := Ground.textOnly Departure.lateStores }, { on := 9, ground := Ground.textOnly Departure.lateStores }, { on := 10, ground := Ground.textOnly Departure.lateStoresUnsure }, { on := 11, ground := Ground.phase }], guard := none }) rfl (fun K hK => ?_) AllReadyJ.nil
          go_simp
          obtain ⟨w3, hw3⟩ : ∃ W, W = (w2.setCell ⟨gs, i, none⟩ (.int .i64 y)).drew := ⟨_, rfl⟩
          (try rw [← hw3])
          have K1' : Hid (Ir w3 gs (l.set i y)) := by rw [hw3]; exact K1.out
          have d0 : w3.cell? ⟨gs, j, none⟩ = some (.int .i64 ((l.set i y).getD j 0)) := K1'.out.cellD j (by simp; omega)
          have d1 : w3.frozen? ⟨gs, j, none⟩ = false := K1'.out.frozen j
          have K' : Hid (Ir (w3.setCell ⟨gs, j, none⟩ (.int .i64 x)) gs (swp l i j)) := by rw [hw3]; exact KS.out
          generalize (l.set i y).getD j 0 = z at *
          have HM3 := hide (show Mv w2 w3 (fun k => k = gs) by rw [hw3]; exact ((Mv.refl w2 (fun k => k = gs)).set rfl _ _).later (below_drew _))
          clear hw3 c0 c1 f0 f1
          refine hK.out _ _ (fun h => by cases h) ?_
          clear hK
          try simp only [Act.put, List.setIfInBounds_toArray, List.set_cons_zero, List.set_cons_succ]
          refine' wpAnyJ_takeW (i := 14) (oi := { dst := some 50, op := Op.indexAddr 45 (Operand.tmp 39) (Operand.tmp 40), type := 0, pos := "dice.go:103", after := #[{ on := 2, ground := Ground.data }, { on := 3, ground := Ground.data }, { on := 0, ground := Ground.phase }, { on := 1, ground := Ground.phase }, { on := 2, ground := Ground.phase }, { on := 3, ground := Ground.phase }, { on := 4, ground := Ground.phase }, { on := 5, ground := Ground.phase }, { on := 6, ground := Ground.phase }, { on := 7, ground := Ground.phase }, { on := 8, ground := Ground.phase }, { on := 9, ground := Ground.phase }, { on := 10, ground := Ground.phase }, { on := 11, ground := Ground.phase }, { on := 12, ground := Ground.phase }, { on := 13, ground := Ground.phase }], guard := none }) (v := _) rfl (by kernel_rfl) (by kernel_rfl) (by kernel_rfl) (fun _ _ _ h => h) (Or.inl ⟨by rfl, ?hyA14⟩) ?reA14
          case hyA14 => (intro W hSw; (try dsimp only at hSw); go_simp; try with_reducible rfl)
          try simp only [Act.put, List.setIfInBounds_toArray, List.set_cons_zero, List.set_cons_succ]
          refine wpAnyJ_ready (rs := [15]) (by kernel_rfl) (by simp) ?_
          refine AllReadyJ.cons (o := { dst := none, op := Op.store 3 (Operand.tmp 50) (Operand.tmp 48), type := 0, pos := "dice.go:103", after := #[{ on := 14, ground := Ground.data }, { on := 11, ground := Ground.data }, { on := 13, ground := Ground.chain }, { on := 0, ground := Ground.phase }, { on := 1, ground := Ground.phase }, { on := 2, ground := Ground.phase }, { on := 3, ground := Ground.phase }, { on := 4, ground := Ground.phase }, { on := 5, ground := Ground.phase }, { on := 6, ground := Ground.phase }, { on := 7, ground := Ground.phase }, { on := 8, ground := Ground.phase }, { on := 9, ground := Ground.phase }, { on := 10, ground := Ground.phase }, { on := 11, ground := Ground.phase }, { on := 12, ground := Ground.phase }, { on := 13, ground := Ground.phase }], guard := none }) rfl (fun K hK => ?_) AllReadyJ.nil
          go_simp
          refine hK.out _ _ (fun h => by cases h) ?_
          clear hK
          try simp only [Act.put, List.setIfInBounds_toArray, List.set_cons_zero, List.set_cons_succ]
          refine wpAnyJ_done (by kernel_rfl) ?_ _
          refine NoPanic.normal ?_
          go_wp2_with fail
          have HM4 := hide ((HM3.out).set (g := gs) rfl j (.int .i64 x))
          go_roundg (i - 1)
          case measure => omega
          case rel =>
            refine ⟨i - 1, swp l i j, s2, rfl, by simp; omega, by omega, by rw [swp_len]; exact hl, ?_, K', ?_, ?_⟩
            · show shuf _ _ _ = _
              rw [← HS.out]
              exact HE.out
            · exact HD.out.frame HM4.out (fun e => hgg e.symm)
            · exact (HW.out.trans HM.out (fun _ _ e => e)).trans HM4.out (fun k hk' e => by have := HGS.out; omega)
        · obtain rfl : i = 0 := by omega
          have HF := hide (show (l, s') = shuf (n - 1) (iota n) s from HE.out)
          go_wp2_with fail
          go_ret
          have e1 : ordL n s = l := by unfold ordL; rw [← HF.out]
          have e2 : ordS n s = s' := by unfold ordS; rw [← HF.out]
          rw [e1, e2]
          exact ⟨rfl, HI.out, HZ.out, HW.out⟩
end Go.Proofs.Ytihlhidpiehehaa
