/-
  The state that comes behind one.
-/
import Derived.Test.YtihlhidpiehehaaMix
import Derived.LoopN
import Derived.Test.YtihlhidpiehehaaLate
namespace Go.Proofs.Ytihlhidpiehehaa
open Go.RowKit
def nxt (s : Int) : Int := (s + 11400714819323198485) % 18446744073709551616
theorem sz1 (w : World) (A : Obj) : (w.alloc A).heap.size = w.heap.size + 1 := by simp
theorem sz2 (w : World) (A Z : Obj) : ((w.alloc A).alloc Z).heap.size = w.heap.size + 2 := by simp
theorem stateOf_gold (W : World) : Calls Try.prog 19 #[.int .u64 11400714819323198485] W fun e w' => e = .returned (.agg #[.int .u32 2135587861, .int .u32 2654435769]) ∧ Below W.heap.size W w' := by
  have := stateOf_any 11400714819323198485 W (by omega) (by omega)
  rwa [show stv 11400714819323198485 = .agg #[.int .u32 2135587861, .int .u32 2654435769] by simp [stv, lo, hi]] at this
theorem on_any (s : Int) (w : World) (h0 : 0 ≤ s) (h1 : s < 18446744073709551616) : Calls Try.prog 26 #[stv s] w fun e w' => e = .returned (stv (nxt s)) ∧ Below w.heap.size w w' := by
  obtain ⟨a0, a1⟩ := lo_b s
  obtain ⟨b0, b1⟩ := hi_b s h0 h1
  have JS := hide stateOf_gold
  have JA := hide add32_any
  unfold stv at *
  generalize hlx : lo s = lx at *
  generalize hhx : hi s = hx at *
  go_enter Try.func26, Try.ntmps26
  go_wp2_with fail
  refine (JS.out _).mono ?_
  rintro e w1 ⟨rfl, hb⟩
  have hsz : w.heap.size + 2 ≤ w1.heap.size := by have := hb.size; rwa [sz2] at this
  have hA : w1.heap[w.heap.size]? = some (.cells #[.int .u32 lx, .int .u32 hx] 53 (0, 0)) := (hb.block _ (by rw [sz2]; omega)).trans (heap_alloc2_old _ _ _)
  have hZ : w1.heap[w.heap.size + 1]? = some (.cells #[.int .u32 0, .int .u32 0] 53 (0, 0)) := (hb.block _ (by rw [sz2]; omega)).trans (heap_alloc2_new _ _ _)
  go_upto_region 2 with fail
  obtain ⟨w2, hw2⟩ : ∃ W, W = w1.alloc (.cells #[.int .u32 2135587861, .int .u32 2654435769] 53 (0, 0)) := ⟨_, rfl⟩
  have kA : w2.heap[w.heap.size]? = some (.cells #[.int .u32 lx, .int .u32 hx] 53 (0, 0)) := by rw [hw2, heap_alloc_old _ _ (by omega)]; exact hA
  have kZ : w2.heap[w.heap.size + 1]? = some (.cells #[.int .u32 0, .int .u32 0] 53 (0, 0)) := by rw [hw2, heap_alloc_old _ _ (by omega)]; exact hZ
  have kG : w2.heap[w1.heap.size]? = some (.cells #[.int .u32 2135587861, .int .u32 2654435769] 53 (0, 0)) := by rw [hw2]; exact heap_alloc_new _ _
  have HB := hide (show Below w.heap.size w w2 by
    rw [hw2]
    exact (((below_alloc w _).trans ((below_alloc _ _).mono (by rw [sz1]; omega))).trans (hb.mono (by rw [sz2]; omega))).trans ((below_alloc w1 _).mono (by omega)))
  have c0 : w2.cell? ⟨w.heap.size, 0, none⟩ = some (.int .u32 lx) := by rw [cell_of_row w2 _ _ _ 53 (0, 0) kA]; rfl
  have c1 : w2.cell? ⟨w.heap.size, 1, none⟩ = some (.int .u32 hx) := by rw [cell_of_row w2 _ _ _ 53 (0, 0) kA]; rfl
  have g0 : w2.cell? ⟨w1.heap.size, 0, none⟩ = some (.int .u32 2135587861) := by rw [cell_of_row w2 _ _ _ 53 (0, 0) kG]; rfl
  have f0 : w2.frozen? ⟨w.heap.size, 0, none⟩ = false := frozen_of_row w2 _ 0 _ 53 kA
  rw [← hw2]
  generalize hg : w.heap.size = g at *
  generalize hgb : w1.heap.size = b at *
  clear hb hA hZ hw2
  go_wp2_with fail
  refine wp_loop_rounds 3 ?_
  rw [rounds_succ]
  go_upto_region 6 with fail
  refine wp_region_noPanic ?_
  refine wp_region_late (J := fun i => i != 13) (S := fun W => W.cell? ⟨g, 0, none⟩ = some (.int .u32 lx) ∧ W.cell? ⟨b, 0, none⟩ = some (.int .u32 2135587861)) (by kernel_rfl) ⟨c0, g0⟩ (fun hHeld => ?_)
  refine' wpAnyJ_takeW (i := 0) (oi := { dst := some 11, op := Op.move (Operand.tmp 5), type := 3, pos := "dice.go:41", after := #[], guard := none }) (v := _) rfl (by kernel_rfl) (by kernel_rfl) (by kernel_rfl) (fun _ _ _ h => h) (Or.inl ⟨by rfl, ?hyA1⟩) ?reA1
  case hyA1 => (intro W hSw; (try dsimp only at hSw); go_simp; try with_reducible rfl)
  try simp only [Act.put, List.setIfInBounds_toArray, List.set_cons_zero, List.set_cons_succ]
  refine' wpAnyJ_takeW (i := 1) (oi := { dst := some 12, op := Op.move (Operand.tmp 5), type := 3, pos := "dice.go:41", after := #[], guard := none }) (v := _) rfl (by kernel_rfl) (by kernel_rfl) (by kernel_rfl) (fun _ _ _ h => h) (Or.inl ⟨by rfl, ?hyA2⟩) ?reA2
  case hyA2 => (intro W hSw; (try dsimp only at hSw); go_simp; try with_reducible rfl)
  try simp only [Act.put, List.setIfInBounds_toArray, List.set_cons_zero, List.set_cons_succ]
  refine' wpAnyJ_takeW (i := 2) (oi := { dst := some 13, op := Op.indexAddr 53 (Operand.tmp 1) (Operand.tmp 12), type := 0, pos := "dice.go:41", after := #[{ on := 1, ground := Ground.data }], guard := none }) (v := _) rfl (by kernel_rfl) (by kernel_rfl) (by kernel_rfl) (fun _ _ _ h => h) (Or.inl ⟨by rfl, ?hyA3⟩) ?reA3
  case hyA3 => (intro W hSw; (try dsimp only at hSw); go_simp; try with_reducible rfl)
  try simp only [Act.put, List.setIfInBounds_toArray, List.set_cons_zero, List.set_cons_succ]
  refine' wpAnyJ_take (i := 3) (oi := { dst := some 14, op := Op.load 51 (Operand.tmp 13), type := 51, pos := "dice.go:41", after := #[{ on := 2, ground := Ground.data }], guard := none }) (v := _) rfl (by kernel_rfl) (by kernel_rfl) (by kernel_rfl) (by kernel_rfl) (fun _ _ _ h => h) (Or.inl ⟨by rfl, ?hyA4⟩) (by assumption) ?reA4
  case hyA4 => (intro W hSw; (try dsimp only at hSw); go_simp; try with_reducible rfl)
  try simp only [Act.put, List.setIfInBounds_toArray, List.set_cons_zero, List.set_cons_succ]
  refine' wpAnyJ_takeW (i := 4) (oi := { dst := some 15, op := Op.move (Operand.tmp 5), type := 3, pos := "dice.go:41", after := #[], guard := none }) (v := _) rfl (by kernel_rfl) (by kernel_rfl) (by kernel_rfl) (fun _ _ _ h => h) (Or.inl ⟨by rfl, ?hyA5⟩) ?reA5
  case hyA5 => (intro W hSw; (try dsimp only at hSw); go_simp; try with_reducible rfl)
  try simp only [Act.put, List.setIfInBounds_toArray, List.set_cons_zero, List.set_cons_succ]
  refine' wpAnyJ_takeW (i := 5) (oi := { dst := some 16, op := Op.indexAddr 53 (Operand.tmp 3) (Operand.tmp 15), type := 0, pos := "dice.go:41", after := #[{ on := 4, ground := Ground.data }], guard := none }) (v := _) rfl (by kernel_rfl) (by kernel_rfl) (by kernel_rfl) (fun _ _ _ h => h) (Or.inl ⟨by rfl, ?hyA6⟩) ?reA6
  case hyA6 => (intro W hSw; (try dsimp only at hSw); go_simp; try with_reducible rfl)
  try simp only [Act.put, List.setIfInBounds_toArray, List.set_cons_zero, List.set_cons_succ]
  refine' wpAnyJ_take (i := 6) (oi := { dst := some 17, op := Op.load 51 (Operand.tmp 16), type := 51, pos := "dice.go:41", after := #[{ on := 5, ground := Ground.data }], guard := none }) (v := _) rfl (by kernel_rfl) (by kernel_rfl) (by kernel_rfl) (by kernel_rfl) (fun _ _ _ h => h) (Or.inl ⟨by rfl, ?hyA7⟩) (by assumption) ?reA7
  case hyA7 => (intro W hSw; (try dsimp only at hSw); go_simp; try with_reducible rfl)
  try simp only [Act.put, List.setIfInBounds_toArray, List.set_cons_zero, List.set_cons_succ]
  refine' wpAnyJ_takeW (i := 7) (oi := { dst := some 18, op := Op.move (Operand.tmp 4), type := 51, pos := "dice.go:41", after := #[], guard := none }) (v := _) rfl (by kernel_rfl) (by kernel_rfl) (by kernel_rfl) (fun _ _ _ h => h) (Or.inl ⟨by rfl, ?hyA8⟩) ?reA8
  case hyA8 => (intro W hSw; (try dsimp only at hSw); go_simp; try with_reducible rfl)
  try simp only [Act.put, List.setIfInBounds_toArray, List.set_cons_zero, List.set_cons_succ]
  refine wpAnyJ_ready (rs := [8]) (by kernel_rfl) (by simp) ?_
  refine AllReadyJ.cons (o := { dst := some 19, op := Op.call { callee := Callee.value (Operand.func 27), args := #[Operand.tmp 14, Operand.tmp 17, Operand.tmp 18], argTypes := #[51, 51, 51] }, type := 61, pos := "dice.go:41", after := #[{ on := 3, ground := Ground.data }, { on := 6, ground := Ground.data }, { on := 7, ground := Ground.data }], guard := none }) rfl (fun K hK => ?_) AllReadyJ.nil
  go_simp
  go_at_call 27
  refine (JA.out lx 2135587861 0 _ (by omega) (by omega) (by omega) (by omega) (by omega) (by omega)).mono ?_
  rintro e w9 ⟨rfl, rfl⟩
  go_simp
  refine hK.out _ _ (fun _ h => h) ?_
  clear hK K
  try simp only [Act.put, List.setIfInBounds_toArray, List.set_cons_zero, List.set_cons_succ]
  refine' wpAnyJ_takeW (i := 9) (oi := { dst := some 10, op := Op.move (Operand.tmp 19), type := 61, pos := "dice.go:41", after := #[{ on := 8, ground := Ground.data }], guard := none }) (v := _) rfl (by kernel_rfl) (by kernel_rfl) (by kernel_rfl) (fun _ _ _ h => h) (Or.inl ⟨by rfl, ?hyA9⟩) ?reA9
  case hyA9 => (intro W hSw; (try dsimp only at hSw); go_simp; try with_reducible rfl)
  try simp only [Act.put, List.setIfInBounds_toArray, List.set_cons_zero, List.set_cons_succ]
  refine' wpAnyJ_takeW (i := 10) (oi := { dst := some 20, op := Op.extract (Operand.tmp 10) 0, type := 51, pos := "dice.go:41", after := #[{ on := 9, ground := Ground.data }], guard := none }) (v := _) rfl (by kernel_rfl) (by kernel_rfl) (by kernel_rfl) (fun _ _ _ h => h) (Or.inl ⟨by rfl, ?hyA10⟩) ?reA10
  case hyA10 => (intro W hSw; (try dsimp only at hSw); go_simp; try with_reducible rfl)
  try simp only [Act.put, List.setIfInBounds_toArray, List.set_cons_zero, List.set_cons_succ]
  refine' wpAnyJ_takeW (i := 11) (oi := { dst := some 21, op := Op.extract (Operand.tmp 10) 1, type := 51, pos := "dice.go:41", after := #[{ on := 9, ground := Ground.data }, { on := 13, ground := Ground.gcOnly Departure.lateStores }], guard := none }) (v := _) rfl (by kernel_rfl) (by kernel_rfl) (by kernel_rfl) (fun _ _ _ h => h) (Or.inl ⟨by rfl, ?hyA11⟩) ?reA11
  case hyA11 => (intro W hSw; (try dsimp only at hSw); go_simp; try with_reducible rfl)
  try simp only [Act.put, List.setIfInBounds_toArray, List.set_cons_zero, List.set_cons_succ]
  refine' wpAnyJ_takeW (i := 12) (oi := { dst := some 22, op := Op.indexAddr 53 (Operand.tmp 1) (Operand.tmp 11), type := 0, pos := "dice.go:41", after := #[{ on := 0, ground := Ground.data }, { on := 0, ground := Ground.phase }, { on := 1, ground := Ground.phase }, { on := 2, ground := Ground.phase }, { on := 3, ground := Ground.phase }, { on := 4, ground := Ground.phase }, { on := 5, ground := Ground.phase }, { on := 6, ground := Ground.phase }, { on := 7, ground := Ground.phase }, { on := 8, ground := Ground.phase }, { on := 9, ground := Ground.phase }, { on := 10, ground := Ground.phase }, { on := 11, ground := Ground.textOnly Departure.lateStores }], guard := none }) (v := _) rfl (by kernel_rfl) (by kernel_rfl) (by kernel_rfl) (fun _ _ _ h => h) (Or.inl ⟨by rfl, ?hyA12⟩) ?reA12
  case hyA12 => (intro W hSw; (try dsimp only at hSw); go_simp; try with_reducible rfl)
  try simp only [Act.put, List.setIfInBounds_toArray, List.set_cons_zero, List.set_cons_succ]
  refine wpAnyJ_ready (rs := [13]) (by kernel_rfl) (by simp) ?_
  refine AllReadyJ.cons (o := { dst := none, op := Op.store 51 (Operand.tmp 22) (Operand.tmp 20), type := 0, pos := "dice.go:41", after := #[{ on := 12, ground := Ground.data }, { on := 10, ground := Ground.data }, { on := 8, ground := Ground.chain }, { on := 0, ground := Ground.phase }, { on := 1, ground := Ground.phase }, { on := 2, ground := Ground.phase }, { on := 3, ground := Ground.phase }, { on := 4, ground := Ground.phase }, { on := 5, ground := Ground.phase }, { on := 6, ground := Ground.phase }, { on := 7, ground := Ground.phase }, { on := 8, ground := Ground.phase }, { on := 9, ground := Ground.phase }, { on := 10, ground := Ground.phase }, { on := 11, ground := Ground.textOnly Departure.lateStores }], guard := none }) rfl (fun K hK => ?_) AllReadyJ.nil
  go_simp
  refine hK.out _ _ (fun h => by cases h) ?_
  clear hK K
  try simp only [Act.put, List.setIfInBounds_toArray, List.set_cons_zero, List.set_cons_succ]
  refine' wpAnyJ_takeW (i := 14) (oi := { dst := some 4, op := Op.assign (Operand.tmp 21), type := 51, pos := "dice.go:41", after := #[{ on := 11, ground := Ground.data }, { on := 13, ground := Ground.chain }, { on := 0, ground := Ground.phase }, { on := 1, ground := Ground.phase }, { on := 2, ground := Ground.phase }, { on := 3, ground := Ground.phase }, { on := 4, ground := Ground.phase }, { on := 5, ground := Ground.phase }, { on := 6, ground := Ground.phase }, { on := 7, ground := Ground.phase }, { on := 8, ground := Ground.phase }, { on := 9, ground := Ground.phase }, { on := 10, ground := Ground.phase }, { on := 11, ground := Ground.phase }, { on := 12, ground := Ground.phase }, { on := 13, ground := Ground.phase }], guard := none }) (v := _) rfl (by kernel_rfl) (by kernel_rfl) (by kernel_rfl) (fun _ _ _ h => h) (Or.inl ⟨by rfl, ?hyA13⟩) ?reA13
  case hyA13 => (intro W hSw; (try dsimp only at hSw); go_simp; try with_reducible rfl)
  try simp only [Act.put, List.setIfInBounds_toArray, List.set_cons_zero, List.set_cons_succ]
  refine wpAnyJ_done (by kernel_rfl) ?_ _
  refine NoPanic.normal ?_
  generalize hl1 : (lx + 2135587861) % 4294967296 = l1 at *
  generalize hk1 : (lx + 2135587861) / 4294967296 = k1 at *
  obtain ⟨w3, hw3⟩ : ∃ W, W = (w2.setCell ⟨g, 0, none⟩ (.int .u32 l1)).drew := ⟨_, rfl⟩
  have jA : w3.heap[g]? = some (.cells #[.int .u32 l1, .int .u32 hx] 53 (0, 0)) := by rw [hw3]; exact (heap_setCell_same w2 g 0 _ 53 _ kA)
  have jZ : w3.heap[g + 1]? = some (.cells #[.int .u32 0, .int .u32 0] 53 (0, 0)) := by rw [hw3]; exact (heap_setCell_other w2 ⟨g, 0, none⟩ _ _ (by simp)).trans kZ
  have jG : w3.heap[b]? = some (.cells #[.int .u32 2135587861, .int .u32 2654435769] 53 (0, 0)) := by rw [hw3]; exact (heap_setCell_other w2 ⟨g, 0, none⟩ _ _ (by simp; omega)).trans kG
  have HB3 := hide (show Below g w w3 by rw [hw3]; exact (HB.out.setCell (p := ⟨g, 0, none⟩) (Nat.le_refl _) _).drew)
  rw [← hw3]
  clear kA kZ kG HB c0 c1 g0 f0 hHeld hw3
  have c1 : w3.cell? ⟨g, 1, none⟩ = some (.int .u32 hx) := by rw [cell_of_row w3 _ _ _ 53 (0, 0) jA]; rfl
  have g1 : w3.cell? ⟨b, 1, none⟩ = some (.int .u32 2654435769) := by rw [cell_of_row w3 _ _ _ 53 (0, 0) jG]; rfl
  have f1 : w3.frozen? ⟨g, 1, none⟩ = false := frozen_of_row w3 _ 1 _ 53 jA
  have kb : 0 ≤ k1 ∧ k1 ≤ 1 := by omega
  go_wp2_with fail
  rw [rounds_succ]
  go_upto_region 6 with fail
  refine wp_region_noPanic ?_
  refine wp_region_late (J := fun i => i != 13) (S := fun W => W.cell? ⟨g, 1, none⟩ = some (.int .u32 hx) ∧ W.cell? ⟨b, 1, none⟩ = some (.int .u32 2654435769)) (by kernel_rfl) ⟨c1, g1⟩ (fun hHeld => ?_)
  refine' wpAnyJ_takeW (i := 0) (oi := { dst := some 11, op := Op.move (Operand.tmp 5), type := 3, pos := "dice.go:41", after := #[], guard := none }) (v := _) rfl (by kernel_rfl) (by kernel_rfl) (by kernel_rfl) (fun _ _ _ h => h) (Or.inl ⟨by rfl, ?hyB1⟩) ?reB1
  case hyB1 => (intro W hSw; (try dsimp only at hSw); go_simp; try with_reducible rfl)
  try simp only [Act.put, List.setIfInBounds_toArray, List.set_cons_zero, List.set_cons_succ]
  refine' wpAnyJ_takeW (i := 1) (oi := { dst := some 12, op := Op.move (Operand.tmp 5), type := 3, pos := "dice.go:41", after := #[], guard := none }) (v := _) rfl (by kernel_rfl) (by kernel_rfl) (by kernel_rfl) (fun _ _ _ h => h) (Or.inl ⟨by rfl, ?hyB2⟩) ?reB2
  case hyB2 => (intro W hSw; (try dsimp only at hSw); go_simp; try with_reducible rfl)
  try simp only [Act.put, List.setIfInBounds_toArray, List.set_cons_zero, List.set_cons_succ]
  refine' wpAnyJ_takeW (i := 2) (oi := { dst := some 13, op := Op.indexAddr 53 (Operand.tmp 1) (Operand.tmp 12), type := 0, pos := "dice.go:41", after := #[{ on := 1, ground := Ground.data }], guard := none }) (v := _) rfl (by kernel_rfl) (by kernel_rfl) (by kernel_rfl) (fun _ _ _ h => h) (Or.inl ⟨by rfl, ?hyB3⟩) ?reB3
  case hyB3 => (intro W hSw; (try dsimp only at hSw); go_simp; try with_reducible rfl)
  try simp only [Act.put, List.setIfInBounds_toArray, List.set_cons_zero, List.set_cons_succ]
  refine' wpAnyJ_take (i := 3) (oi := { dst := some 14, op := Op.load 51 (Operand.tmp 13), type := 51, pos := "dice.go:41", after := #[{ on := 2, ground := Ground.data }], guard := none }) (v := _) rfl (by kernel_rfl) (by kernel_rfl) (by kernel_rfl) (by kernel_rfl) (fun _ _ _ h => h) (Or.inl ⟨by rfl, ?hyB4⟩) (by assumption) ?reB4
  case hyB4 => (intro W hSw; (try dsimp only at hSw); go_simp; try with_reducible rfl)
  try simp only [Act.put, List.setIfInBounds_toArray, List.set_cons_zero, List.set_cons_succ]
  refine' wpAnyJ_takeW (i := 4) (oi := { dst := some 15, op := Op.move (Operand.tmp 5), type := 3, pos := "dice.go:41", after := #[], guard := none }) (v := _) rfl (by kernel_rfl) (by kernel_rfl) (by kernel_rfl) (fun _ _ _ h => h) (Or.inl ⟨by rfl, ?hyB5⟩) ?reB5
  case hyB5 => (intro W hSw; (try dsimp only at hSw); go_simp; try with_reducible rfl)
  try simp only [Act.put, List.setIfInBounds_toArray, List.set_cons_zero, List.set_cons_succ]
  refine' wpAnyJ_takeW (i := 5) (oi := { dst := some 16, op := Op.indexAddr 53 (Operand.tmp 3) (Operand.tmp 15), type := 0, pos := "dice.go:41", after := #[{ on := 4, ground := Ground.data }], guard := none }) (v := _) rfl (by kernel_rfl) (by kernel_rfl) (by kernel_rfl) (fun _ _ _ h => h) (Or.inl ⟨by rfl, ?hyB6⟩) ?reB6
  case hyB6 => (intro W hSw; (try dsimp only at hSw); go_simp; try with_reducible rfl)
  try simp only [Act.put, List.setIfInBounds_toArray, List.set_cons_zero, List.set_cons_succ]
  refine' wpAnyJ_take (i := 6) (oi := { dst := some 17, op := Op.load 51 (Operand.tmp 16), type := 51, pos := "dice.go:41", after := #[{ on := 5, ground := Ground.data }], guard := none }) (v := _) rfl (by kernel_rfl) (by kernel_rfl) (by kernel_rfl) (by kernel_rfl) (fun _ _ _ h => h) (Or.inl ⟨by rfl, ?hyB7⟩) (by assumption) ?reB7
  case hyB7 => (intro W hSw; (try dsimp only at hSw); go_simp; try with_reducible rfl)
  try simp only [Act.put, List.setIfInBounds_toArray, List.set_cons_zero, List.set_cons_succ]
  refine' wpAnyJ_takeW (i := 7) (oi := { dst := some 18, op := Op.move (Operand.tmp 4), type := 51, pos := "dice.go:41", after := #[], guard := none }) (v := _) rfl (by kernel_rfl) (by kernel_rfl) (by kernel_rfl) (fun _ _ _ h => h) (Or.inl ⟨by rfl, ?hyB8⟩) ?reB8
  case hyB8 => (intro W hSw; (try dsimp only at hSw); go_simp; try with_reducible rfl)
  try simp only [Act.put, List.setIfInBounds_toArray, List.set_cons_zero, List.set_cons_succ]
  refine wpAnyJ_ready (rs := [8]) (by kernel_rfl) (by simp) ?_
  refine AllReadyJ.cons (o := { dst := some 19, op := Op.call { callee := Callee.value (Operand.func 27), args := #[Operand.tmp 14, Operand.tmp 17, Operand.tmp 18], argTypes := #[51, 51, 51] }, type := 61, pos := "dice.go:41", after := #[{ on := 3, ground := Ground.data }, { on := 6, ground := Ground.data }, { on := 7, ground := Ground.data }], guard := none }) rfl (fun K hK => ?_) AllReadyJ.nil
  go_simp
  go_at_call 27
  refine (JA.out hx 2654435769 k1 _ (by omega) (by omega) (by omega) (by omega) (by omega) (by omega)).mono ?_
  rintro e w9 ⟨rfl, rfl⟩
  go_simp
  refine hK.out _ _ (fun _ h => h) ?_
  clear hK K
  try simp only [Act.put, List.setIfInBounds_toArray, List.set_cons_zero, List.set_cons_succ]
  refine' wpAnyJ_takeW (i := 9) (oi := { dst := some 10, op := Op.move (Operand.tmp 19), type := 61, pos := "dice.go:41", after := #[{ on := 8, ground := Ground.data }], guard := none }) (v := _) rfl (by kernel_rfl) (by kernel_rfl) (by kernel_rfl) (fun _ _ _ h => h) (Or.inl ⟨by rfl, ?hyB9⟩) ?reB9
  case hyB9 => (intro W hSw; (try dsimp only at hSw); go_simp; try with_reducible rfl)
  try simp only [Act.put, List.setIfInBounds_toArray, List.set_cons_zero, List.set_cons_succ]
  refine' wpAnyJ_takeW (i := 10) (oi := { dst := some 20, op := Op.extract (Operand.tmp 10) 0, type := 51, pos := "dice.go:41", after := #[{ on := 9, ground := Ground.data }], guard := none }) (v := _) rfl (by kernel_rfl) (by kernel_rfl) (by kernel_rfl) (fun _ _ _ h => h) (Or.inl ⟨by rfl, ?hyB10⟩) ?reB10
  case hyB10 => (intro W hSw; (try dsimp only at hSw); go_simp; try with_reducible rfl)
  try simp only [Act.put, List.setIfInBounds_toArray, List.set_cons_zero, List.set_cons_succ]
  refine' wpAnyJ_takeW (i := 11) (oi := { dst := some 21, op := Op.extract (Operand.tmp 10) 1, type := 51, pos := "dice.go:41", after := #[{ on := 9, ground := Ground.data }, { on := 13, ground := Ground.gcOnly Departure.lateStores }], guard := none }) (v := _) rfl (by kernel_rfl) (by kernel_rfl) (by kernel_rfl) (fun _ _ _ h => h) (Or.inl ⟨by rfl, ?hyB11⟩) ?reB11
  case hyB11 => (intro W hSw; (try dsimp only at hSw); go_simp; try with_reducible rfl)
  try simp only [Act.put, List.setIfInBounds_toArray, List.set_cons_zero, List.set_cons_succ]
  refine' wpAnyJ_takeW (i := 12) (oi := { dst := some 22, op := Op.indexAddr 53 (Operand.tmp 1) (Operand.tmp 11), type := 0, pos := "dice.go:41", after := #[{ on := 0, ground := Ground.data }, { on := 0, ground := Ground.phase }, { on := 1, ground := Ground.phase }, { on := 2, ground := Ground.phase }, { on := 3, ground := Ground.phase }, { on := 4, ground := Ground.phase }, { on := 5, ground := Ground.phase }, { on := 6, ground := Ground.phase }, { on := 7, ground := Ground.phase }, { on := 8, ground := Ground.phase }, { on := 9, ground := Ground.phase }, { on := 10, ground := Ground.phase }, { on := 11, ground := Ground.textOnly Departure.lateStores }], guard := none }) (v := _) rfl (by kernel_rfl) (by kernel_rfl) (by kernel_rfl) (fun _ _ _ h => h) (Or.inl ⟨by rfl, ?hyB12⟩) ?reB12
  case hyB12 => (intro W hSw; (try dsimp only at hSw); go_simp; try with_reducible rfl)
  try simp only [Act.put, List.setIfInBounds_toArray, List.set_cons_zero, List.set_cons_succ]
  refine wpAnyJ_ready (rs := [13]) (by kernel_rfl) (by simp) ?_
  refine AllReadyJ.cons (o := { dst := none, op := Op.store 51 (Operand.tmp 22) (Operand.tmp 20), type := 0, pos := "dice.go:41", after := #[{ on := 12, ground := Ground.data }, { on := 10, ground := Ground.data }, { on := 8, ground := Ground.chain }, { on := 0, ground := Ground.phase }, { on := 1, ground := Ground.phase }, { on := 2, ground := Ground.phase }, { on := 3, ground := Ground.phase }, { on := 4, ground := Ground.phase }, { on := 5, ground := Ground.phase }, { on := 6, ground := Ground.phase }, { on := 7, ground := Ground.phase }, { on := 8, ground := Ground.phase }, { on := 9, ground := Ground.phase }, { on := 10, ground := Ground.phase }, { on := 11, ground := Ground.textOnly Departure.lateStores }], guard := none }) rfl (fun K hK => ?_) AllReadyJ.nil
  go_simp
  refine hK.out _ _ (fun h => by cases h) ?_
  clear hK K
  try simp only [Act.put, List.setIfInBounds_toArray, List.set_cons_zero, List.set_cons_succ]
  refine' wpAnyJ_takeW (i := 14) (oi := { dst := some 4, op := Op.assign (Operand.tmp 21), type := 51, pos := "dice.go:41", after := #[{ on := 11, ground := Ground.data }, { on := 13, ground := Ground.chain }, { on := 0, ground := Ground.phase }, { on := 1, ground := Ground.phase }, { on := 2, ground := Ground.phase }, { on := 3, ground := Ground.phase }, { on := 4, ground := Ground.phase }, { on := 5, ground := Ground.phase }, { on := 6, ground := Ground.phase }, { on := 7, ground := Ground.phase }, { on := 8, ground := Ground.phase }, { on := 9, ground := Ground.phase }, { on := 10, ground := Ground.phase }, { on := 11, ground := Ground.phase }, { on := 12, ground := Ground.phase }, { on := 13, ground := Ground.phase }], guard := none }) (v := _) rfl (by kernel_rfl) (by kernel_rfl) (by kernel_rfl) (fun _ _ _ h => h) (Or.inl ⟨by rfl, ?hyB13⟩) ?reB13
  case hyB13 => (intro W hSw; (try dsimp only at hSw); go_simp; try with_reducible rfl)
  try simp only [Act.put, List.setIfInBounds_toArray, List.set_cons_zero, List.set_cons_succ]
  refine wpAnyJ_done (by kernel_rfl) ?_ _
  refine NoPanic.normal ?_
  generalize hl2 : (hx + 2654435769 + k1) % 4294967296 = l2 at *
  generalize hk2 : (hx + 2654435769 + k1) / 4294967296 = k2 at *
  obtain ⟨w4, hw4⟩ : ∃ W, W = (w3.setCell ⟨g, 1, none⟩ (.int .u32 l2)).drew := ⟨_, rfl⟩
  have iA : w4.heap[g]? = some (.cells #[.int .u32 l1, .int .u32 l2] 53 (0, 0)) := by rw [hw4]; exact (heap_setCell_same w3 g 1 _ 53 _ jA)
  have iZ : w4.heap[g + 1]? = some (.cells #[.int .u32 0, .int .u32 0] 53 (0, 0)) := by rw [hw4]; exact (heap_setCell_other w3 ⟨g, 1, none⟩ _ _ (by simp)).trans jZ
  have HB4 := hide (show Below g w w4 by rw [hw4]; exact (HB3.out.setCell (p := ⟨g, 1, none⟩) (Nat.le_refl _) _).drew)
  rw [← hw4]
  clear jA jZ jG HB3 c1 g1 f1 hHeld hw4
  have c0 : w4.cell? ⟨g, 0, none⟩ = some (.int .u32 l1) := by rw [cell_of_row w4 _ _ _ 53 (0, 0) iA]; rfl
  have c1 : w4.cell? ⟨g, 1, none⟩ = some (.int .u32 l2) := by rw [cell_of_row w4 _ _ _ 53 (0, 0) iA]; rfl
  have z0 : w4.frozen? ⟨g + 1, 0, none⟩ = false := frozen_of_row w4 _ 0 _ 53 iZ
  have z1 : w4.frozen? ⟨g + 1, 1, none⟩ = false := frozen_of_row w4 _ 1 _ 53 iZ
  have z2 : w4.cell? ⟨g + 1, 0, none⟩ = some (.int .u32 0) := by rw [cell_of_row w4 _ _ _ 53 (0, 0) iZ]; rfl
  have z3 : w4.cell? ⟨g + 1, 1, none⟩ = some (.int .u32 0) := by rw [cell_of_row w4 _ _ _ 53 (0, 0) iZ]; rfl
  go_wp2_with fail
  rw [rounds_succ]
  go_wp2_with fail
  (try simp only [Exit.inBlock, Exit.then])
  have e1 : lo (nxt s) = l1 := by unfold lo nxt; unfold lo at hlx; unfold hi at hhx; omega
  have e2 : hi (nxt s) = l2 := by unfold hi nxt; unfold lo at hlx; unfold hi at hhx; omega
  rw [e1, e2]
  have q1 := heap_setCell_same w4 (g + 1) 0 _ 53 (.int .u32 l1) iZ
  have q2 := heap_setCell_same (w4.setCell ⟨g + 1, 0, none⟩ (.int .u32 l1)) (g + 1) 1 _ 53 (.int .u32 l2) q1
  refine bodyPost_ret (results_cell_row rfl _ _ (g + 1) 53 _ _ _ rfl q2 Try.underlying53 rfl (by kernel_rfl)) rfl ⟨rfl, ?_⟩
  rw [hg]
  exact (HB4.out.setCell (p := ⟨g + 1, 0, none⟩) (Nat.le_succ _) _).setCell (p := ⟨g + 1, 1, none⟩) (Nat.le_succ _) _
end Go.Proofs.Ytihlhidpiehehaa
