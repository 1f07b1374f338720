/-
  A number that is put down.
-/
import Derived.Test.YtejbdhbphbgckaaNext
namespace Go.Proofs.Ytejbdhbphbgckaa
open Go.RowKit
set_option maxHeartbeats 8000000 in
set_option maxRecDepth 100000 in
theorem add_live (g n x : Nat) (vg vl vf : Value) (gs fr : List Nat) (lv : List (Nat × Nat)) (w : World) (h : Pm w g n vg vl vf gs fr lv) (hx : x ≤ 1000000) (hg : gs.length ≤ 1000000) (hl : lv.length ≤ 1000000) :
    Calls Try.prog 31 #[.pointer (some ⟨g, 0, none⟩), .int .i64 (x : Int)] w fun e w' => e = .returned (.tuple #[]) ∧ ∃ vg' vl', Pm w' g n vg' vl' vf (gs ++ [x]) fr (lv ++ [(gs.length, x)]) ∧ (∀ k, vg'.ownBlock = some k → vg.ownBlock = some k ∨ w.heap.size ≤ k) ∧ (∀ k, vl'.ownBlock = some k → vl.ownBlock = some k ∨ w.heap.size ≤ k) ∧ Mv w w' (fun k => k = g ∨ vg.ownBlock = some k ∨ vl.ownBlock = some k) := by
  obtain ⟨i3, hi3, hx0, hx1, hx2⟩ := info_parts info3
  obtain ⟨i41, hi41, hy0, hy1, hy2⟩ := info_parts info41
  obtain ⟨c0, c1, c2, c3⟩ := h.cell
  obtain ⟨aog, cg, rfl⟩ := own_len h.2.1
  obtain ⟨aol, cl, rfl⟩ := own_len h.2.2.1
  have t0 : ((x : Int) == 1000001) = false := by rw [beq_eq_false_iff_ne]; omega
  obtain ⟨w1, hw1⟩ : ∃ X, X = w.alloc (.cells #[.int .i64 (gs.length : Int), .int .i64 (x : Int)] 41) := ⟨_, rfl⟩
  have hbe : Below w.heap.size w w1 := hw1 ▸ below_alloc w _
  have h1 := h.later hbe
  have WH : Hid (∀ W, Mv w1 W (fun k => (Value.slice aog gs.length cg).ownBlock = some k ∨ (Value.slice aol lv.length cl).ownBlock = some k) → W.cell? ⟨w.heap.size, 0, none⟩ = some (.int .i64 (gs.length : Int)) ∧ W.cell? ⟨w.heap.size, 1, none⟩ = some (.int .i64 (x : Int))) := fun W hm => by
    have hn : ¬ ((Value.slice aog gs.length cg).ownBlock = some w.heap.size ∨ (Value.slice aol lv.length cl).ownBlock = some w.heap.size) := fun e => by
      rcases e with e | e
      · have := (h.2.1.lt _ e).2
        omega
      · have := (h.2.2.1.lt _ e).2
        omega
    exact ⟨hm.cell (by rw [hw1]; simp) hn, hm.cell (by rw [hw1]; simp) hn⟩
  have CV : Hid (∀ w' : World, (∃ vg' vl', Pm w' g n vg' vl' vf (gs ++ [x]) fr (lv ++ [(gs.length, x)]) ∧ (∀ k, vg'.ownBlock = some k → (Value.slice aog gs.length cg).ownBlock = some k ∨ w1.heap.size ≤ k) ∧ (∀ k, vl'.ownBlock = some k → (Value.slice aol lv.length cl).ownBlock = some k ∨ w1.heap.size ≤ k) ∧ Mv w1 w' (fun k => k = g ∨ (Value.slice aog gs.length cg).ownBlock = some k ∨ (Value.slice aol lv.length cl).ownBlock = some k)) → ∃ vg' vl', Pm w' g n vg' vl' vf (gs ++ [x]) fr (lv ++ [(gs.length, x)]) ∧ (∀ k, vg'.ownBlock = some k → (Value.slice aog gs.length cg).ownBlock = some k ∨ w.heap.size ≤ k) ∧ (∀ k, vl'.ownBlock = some k → (Value.slice aol lv.length cl).ownBlock = some k ∨ w.heap.size ≤ k) ∧ Mv w w' (fun k => k = g ∨ (Value.slice aog gs.length cg).ownBlock = some k ∨ (Value.slice aol lv.length cl).ownBlock = some k)) := fun w' ⟨vg', vl', p1, p2, p3, p4⟩ =>
    ⟨vg', vl', p1, fun k e => (p2 k e).imp id (fun h => Nat.le_trans hbe.size h), fun k e => (p3 k e).imp id (fun h => Nat.le_trans hbe.size h), (Mv.of_below hbe _).trans p4 (fun k _ e => e)⟩
  have u0 : ∀ o, (w1.alloc o).cell? ⟨w.heap.size, 0, none⟩ = some (.int .i64 (gs.length : Int)) := fun o => (WH.out _ (Mv.of_below (below_alloc w1 o) _)).1
  have u1 : ∀ o, (w1.alloc o).cell? ⟨w.heap.size, 1, none⟩ = some (.int .i64 (x : Int)) := fun o => (WH.out _ (Mv.of_below (below_alloc w1 o) _)).2
  have T0 := hide (h1.two.later (below_drew w1))
  have HGL := hide h1.2.1.lt
  have H := hide h1
  clear h h1 hbe
  go_enter Try.func31, Try.ntmps31
  go_wp2_with fail
  skip
  rw [← hw1]
  clear hw1
  refine wp_region_noPanic ?_
  refine wp_region_late (J := fun i => i != 18 && i != 21) (S := fun W => W.cell? ⟨g, 1, none⟩ = some (.slice aog gs.length cg) ∧ W.cell? ⟨g, 2, none⟩ = some (.slice aol lv.length cl)) (by kernel_rfl) (mid_cells (H.out.mid T0.out)).1 (fun hHeld => ?_)
  refine' wpAnyJ_takeW (i := 0) (oi := { dst := some 15, op := Op.move (Operand.tmp 0), type := 25, pos := "ids.go:136", after := #[], guard := none }) (v := _) rfl (by kernel_rfl) (by kernel_rfl) (by kernel_rfl) (fun _ _ _ h => h) (Or.inl ⟨by rfl, ?hyA1⟩) ?reA1
  case hyA1 => (intro W hSw; (try dsimp only at hSw); go_simp; try with_reducible rfl)
  try simp only [Act.put, List.setIfInBounds_toArray, List.set_cons_zero, List.set_cons_succ]
  refine' wpAnyJ_takeW (i := 1) (oi := { dst := some 16, op := Op.move (Operand.tmp 0), type := 25, pos := "ids.go:136", after := #[{ on := 18, ground := Ground.gcOnly Departure.lateStores }], guard := none }) (v := _) rfl (by kernel_rfl) (by kernel_rfl) (by kernel_rfl) (fun _ _ _ h => h) (Or.inl ⟨by rfl, ?hyA2⟩) ?reA2
  case hyA2 => (intro W hSw; (try dsimp only at hSw); go_simp; try with_reducible rfl)
  try simp only [Act.put, List.setIfInBounds_toArray, List.set_cons_zero, List.set_cons_succ]
  refine' wpAnyJ_takeW (i := 2) (oi := { dst := some 17, op := Op.move (Operand.tmp 0), type := 25, pos := "ids.go:136", after := #[], guard := none }) (v := _) rfl (by kernel_rfl) (by kernel_rfl) (by kernel_rfl) (fun _ _ _ h => h) (Or.inl ⟨by rfl, ?hyA3⟩) ?reA3
  case hyA3 => (intro W hSw; (try dsimp only at hSw); go_simp; try with_reducible rfl)
  try simp only [Act.put, List.setIfInBounds_toArray, List.set_cons_zero, List.set_cons_succ]
  refine' wpAnyJ_takeW (i := 3) (oi := { dst := some 18, op := Op.nilCheck (Operand.tmp 17), type := 0, pos := "ids.go:136", after := #[{ on := 2, ground := Ground.data }], guard := none }) (v := _) rfl (by kernel_rfl) (by kernel_rfl) (by kernel_rfl) (fun _ _ _ h => h) (Or.inl ⟨by rfl, ?hyA4⟩) ?reA4
  case hyA4 => (intro W hSw; (try dsimp only at hSw); go_simp; try with_reducible rfl)
  try simp only [Act.put, List.setIfInBounds_toArray, List.set_cons_zero, List.set_cons_succ]
  refine' wpAnyJ_takeW (i := 4) (oi := { dst := some 19, op := Op.fieldAddr 59 (Operand.tmp 18) 1, type := 0, pos := "ids.go:136", after := #[{ on := 3, ground := Ground.data }], guard := none }) (v := _) rfl (by kernel_rfl) (by kernel_rfl) (by kernel_rfl) (fun _ _ _ h => h) (Or.inl ⟨by rfl, ?hyA5⟩) ?reA5
  case hyA5 => (intro W hSw; (try dsimp only at hSw); go_simp; try with_reducible rfl)
  try simp only [Act.put, List.setIfInBounds_toArray, List.set_cons_zero, List.set_cons_succ]
  refine' wpAnyJ_take (i := 5) (oi := { dst := some 20, op := Op.load 33 (Operand.tmp 19), type := 33, pos := "ids.go:136", after := #[{ on := 4, ground := Ground.data }], guard := none }) (v := _) rfl (by kernel_rfl) (by kernel_rfl) (by kernel_rfl) (by kernel_rfl) (fun _ _ _ h => h) (Or.inl ⟨by rfl, ?hyA6⟩) (by assumption) ?reA6
  case hyA6 => (intro W hSw; (try dsimp only at hSw); go_simp; try with_reducible rfl)
  try simp only [Act.put, List.setIfInBounds_toArray, List.set_cons_zero, List.set_cons_succ]
  refine' wpAnyJ_takeW (i := 6) (oi := { dst := some 21, op := Op.move (Operand.tmp 1), type := 3, pos := "ids.go:136", after := #[], guard := none }) (v := _) rfl (by kernel_rfl) (by kernel_rfl) (by kernel_rfl) (fun _ _ _ h => h) (Or.inl ⟨by rfl, ?hyA7⟩) ?reA7
  case hyA7 => (intro W hSw; (try dsimp only at hSw); go_simp; try with_reducible rfl)
  try simp only [Act.put, List.setIfInBounds_toArray, List.set_cons_zero, List.set_cons_succ]
  refine' wpAnyJ_takeW (i := 9) (oi := { dst := some 24, op := Op.move (Operand.tmp 0), type := 25, pos := "ids.go:136", after := #[], guard := none }) (v := _) rfl (by kernel_rfl) (by kernel_rfl) (by kernel_rfl) (fun _ _ _ h => h) (Or.inl ⟨by rfl, ?hyA8⟩) ?reA8
  case hyA8 => (intro W hSw; (try dsimp only at hSw); go_simp; try with_reducible rfl)
  try simp only [Act.put, List.setIfInBounds_toArray, List.set_cons_zero, List.set_cons_succ]
  refine' wpAnyJ_takeW (i := 10) (oi := { dst := some 25, op := Op.nilCheck (Operand.tmp 24), type := 0, pos := "ids.go:136", after := #[{ on := 9, ground := Ground.data }], guard := none }) (v := _) rfl (by kernel_rfl) (by kernel_rfl) (by kernel_rfl) (fun _ _ _ h => h) (Or.inl ⟨by rfl, ?hyA9⟩) ?reA9
  case hyA9 => (intro W hSw; (try dsimp only at hSw); go_simp; try with_reducible rfl)
  try simp only [Act.put, List.setIfInBounds_toArray, List.set_cons_zero, List.set_cons_succ]
  refine' wpAnyJ_takeW (i := 11) (oi := { dst := some 26, op := Op.fieldAddr 59 (Operand.tmp 25) 2, type := 0, pos := "ids.go:136", after := #[{ on := 10, ground := Ground.data }], guard := none }) (v := _) rfl (by kernel_rfl) (by kernel_rfl) (by kernel_rfl) (fun _ _ _ h => h) (Or.inl ⟨by rfl, ?hyA10⟩) ?reA10
  case hyA10 => (intro W hSw; (try dsimp only at hSw); go_simp; try with_reducible rfl)
  try simp only [Act.put, List.setIfInBounds_toArray, List.set_cons_zero, List.set_cons_succ]
  refine' wpAnyJ_take (i := 12) (oi := { dst := some 27, op := Op.load 47 (Operand.tmp 26), type := 47, pos := "ids.go:136", after := #[{ on := 11, ground := Ground.data }], guard := none }) (v := _) rfl (by kernel_rfl) (by kernel_rfl) (by kernel_rfl) (by kernel_rfl) (fun _ _ _ h => h) (Or.inl ⟨by rfl, ?hyA11⟩) (by assumption) ?reA11
  case hyA11 => (intro W hSw; (try dsimp only at hSw); go_simp; try with_reducible rfl)
  try simp only [Act.put, List.setIfInBounds_toArray, List.set_cons_zero, List.set_cons_succ]
  refine wpAnyJ_ready (rs := [7, 13]) (by kernel_rfl) (by simp) ?_
  refine AllReadyJ.cons (o := { dst := some 22, op := Op.buildSlice 33 1 #[(0, Operand.tmp 21)], type := 33, pos := "ids.go:136", after := #[{ on := 6, ground := Ground.data }], guard := none }) rfl (fun K hK => ?_) ?_
  · go_simp
    refine hK.out _ _ (fun _ _ => (mid_cells (H.out.mid (T0.out.alloc _))).1) ?_
    clear hK K
    try simp only [Act.put, List.setIfInBounds_toArray, List.set_cons_zero, List.set_cons_succ]
    refine wpAnyJ_ready (rs := [8, 13]) (by kernel_rfl) (by simp) ?_
    refine AllReadyJ.cons (o := { dst := some 23, op := Op.call { callee := Callee.builtin Builtin.append, args := #[Operand.tmp 20, Operand.tmp 22], argTypes := #[33, 33] }, type := 33, pos := "ids.go:136", after := #[{ on := 5, ground := Ground.data }, { on := 7, ground := Ground.data }], guard := none }) rfl (fun K hK => ?_) ?_
    · refine step_append_lies _ rfl (.tmp 20) (.tmp 22) 33 rfl 0 3 i3 (.int .i64 0) 1 8 Try.underlying33 hi3 hx0 hx1 hx2 rfl (by decide) (.slice aog gs.length cg) gs.length (ic gs) (by simp [Act.eval]) (T0.out.alloc _).1 ⟨w1.heap.size, 0, none⟩ 1 1 [.int .i64 (x : Int)] (by simp [Act.eval]) rfl (by intro j u hj; match j, hj with | 0, hj => simp at hj; subst hj; simp [Addr.add]) (by intro u hu; simp at hu; subst hu; rfl) (by omega) (by unfold maxLen; omega) (by omega) (Nat.zero_le _) _ rfl ?_; intro g9 c9 w9 ho9 hg9 ha9 _
      have T9 := hide ((T0.out.alloc _).growG (x := x) ho9 hg9 ha9)
      clear ho9 hg9 ha9
      refine hK.out _ _ (fun _ _ => (mid_cells (H.out.mid T9.out)).1) ?_
      clear hK K
      try simp only [Act.put, List.setIfInBounds_toArray, List.set_cons_zero, List.set_cons_succ]
      refine wpAnyJ_ready (rs := [13]) (by kernel_rfl) (by simp) ?_
      refine AllReadyJ.cons (o := { dst := some 28, op := Op.load 41 (Operand.tmp 4), type := 41, pos := "ids.go:136", after := #[], guard := none }) rfl (fun K hK => ?_) AllReadyJ.nil
      obtain ⟨q0, q1⟩ := WH.out _ T9.out.2.2.2.2.2
      go_simp
      refine hK.out _ _ (fun _ h => h) ?_
      clear hK K q0 q1
      try simp only [Act.put, List.setIfInBounds_toArray, List.set_cons_zero, List.set_cons_succ]
      refine wpAnyJ_ready (rs := [14]) (by kernel_rfl) (by simp) ?_
      refine AllReadyJ.cons (o := { dst := some 29, op := Op.buildSlice 47 1 #[(0, Operand.tmp 28)], type := 47, pos := "ids.go:136", after := #[{ on := 13, ground := Ground.data }], guard := none }) rfl (fun K hK => ?_) AllReadyJ.nil
      go_simp
      refine hK.out _ _ (fun _ _ => (mid_cells (H.out.mid (T9.out.alloc _))).1) ?_
      clear hK K
      try simp only [Act.put, List.setIfInBounds_toArray, List.set_cons_zero, List.set_cons_succ]
      refine wpAnyJ_ready (rs := [15]) (by kernel_rfl) (by simp) ?_
      refine AllReadyJ.cons (o := { dst := some 30, op := Op.call { callee := Callee.builtin Builtin.append, args := #[Operand.tmp 27, Operand.tmp 29], argTypes := #[47, 47] }, type := 47, pos := "ids.go:136", after := #[{ on := 12, ground := Ground.data }, { on := 14, ground := Ground.data }, { on := 8, ground := Ground.chain }], guard := none }) rfl (fun K hK => ?_) AllReadyJ.nil
      refine step_append_lies _ rfl (.tmp 27) (.tmp 29) 47 rfl 0 41 i41 (.agg #[.int .i64 0, .int .i64 0]) 2 16 Try.underlying47 hi41 hy0 hy1 hy2 rfl (by decide) (.slice aol lv.length cl) lv.length (ec lv) (by simp [Act.eval]) (T9.out.alloc _).2.1 ⟨w9.heap.size, 0, none⟩ 1 1 [.int .i64 (gs.length : Int), .int .i64 (x : Int)] (by simp [Act.eval]) rfl (by intro j u hj; match j, hj with | 0, hj => simp at hj; subst hj; simp [Addr.add] | 1, hj => simp at hj; subst hj; simp [Addr.add]) (by intro u hu; simp at hu; rcases hu with rfl | rfl <;> rfl) (by omega) (by unfold maxLen; omega) (by omega) (Nat.zero_le _) _ rfl ?_; intro g8 c8 w8 ho8 hg8 ha8 _
      have T10 := hide ((T9.out.alloc _).growL (a := gs.length) (b := x) ho8 hg8 ha8)
      clear ho8 hg8 ha8
      refine hK.out _ _ (fun _ _ => (mid_cells (H.out.mid T10.out)).1) ?_
      clear hK K
      obtain ⟨⟨d1, d2⟩, y1, y2⟩ := mid_cells (H.out.mid T10.out)
      try simp only [Act.put, List.setIfInBounds_toArray, List.set_cons_zero, List.set_cons_succ]
      refine' wpAnyJ_takeW (i := 16) (oi := { dst := some 31, op := Op.nilCheck (Operand.tmp 15), type := 0, pos := "ids.go:136", after := #[{ on := 0, ground := Ground.data }, { on := 0, ground := Ground.phase }, { on := 1, ground := Ground.textOnly Departure.lateStores }, { on := 2, ground := Ground.phase }, { on := 3, ground := Ground.phase }, { on := 4, ground := Ground.phase }, { on := 5, ground := Ground.phase }, { on := 6, ground := Ground.phase }, { on := 7, ground := Ground.phase }, { on := 8, ground := Ground.phase }, { on := 9, ground := Ground.textOnly Departure.lateStores }, { on := 10, ground := Ground.textOnly Departure.lateStoresUnsure }, { on := 11, ground := Ground.textOnly Departure.lateStoresUnsure }, { on := 12, ground := Ground.phase }, { on := 13, ground := Ground.textOnly Departure.lateStores }, { on := 14, ground := Ground.textOnly Departure.lateStoresUnsure }, { on := 15, ground := Ground.phase }], guard := none }) (v := _) rfl (by kernel_rfl) (by kernel_rfl) (by kernel_rfl) (fun _ _ _ h => h) (Or.inl ⟨by rfl, ?hyA12⟩) ?reA12
      case hyA12 => (intro W hSw; (try dsimp only at hSw); go_simp; try with_reducible rfl)
      try simp only [Act.put, List.setIfInBounds_toArray, List.set_cons_zero, List.set_cons_succ]
      refine' wpAnyJ_takeW (i := 17) (oi := { dst := some 32, op := Op.fieldAddr 59 (Operand.tmp 31) 1, type := 0, pos := "ids.go:136", after := #[{ on := 16, ground := Ground.data }, { on := 0, ground := Ground.phase }, { on := 1, ground := Ground.textOnly Departure.lateStores }, { on := 2, ground := Ground.phase }, { on := 3, ground := Ground.phase }, { on := 4, ground := Ground.phase }, { on := 5, ground := Ground.phase }, { on := 6, ground := Ground.phase }, { on := 7, ground := Ground.phase }, { on := 8, ground := Ground.phase }, { on := 9, ground := Ground.textOnly Departure.lateStores }, { on := 10, ground := Ground.textOnly Departure.lateStoresUnsure }, { on := 11, ground := Ground.textOnly Departure.lateStoresUnsure }, { on := 12, ground := Ground.phase }, { on := 13, ground := Ground.textOnly Departure.lateStores }, { on := 14, ground := Ground.textOnly Departure.lateStoresUnsure }, { on := 15, ground := Ground.phase }], guard := none }) (v := _) rfl (by kernel_rfl) (by kernel_rfl) (by kernel_rfl) (fun _ _ _ h => h) (Or.inl ⟨by rfl, ?hyA13⟩) ?reA13
      case hyA13 => (intro W hSw; (try dsimp only at hSw); go_simp; try with_reducible rfl)
      try simp only [Act.put, List.setIfInBounds_toArray, List.set_cons_zero, List.set_cons_succ]
      refine wpAnyJ_ready (rs := [18]) (by kernel_rfl) (by simp) ?_
      refine AllReadyJ.cons (o := { dst := none, op := Op.store 33 (Operand.tmp 32) (Operand.tmp 23), type := 0, pos := "ids.go:136", after := #[{ on := 17, ground := Ground.data }, { on := 8, ground := Ground.data }, { on := 15, ground := Ground.chain }, { on := 0, ground := Ground.phase }, { on := 1, ground := Ground.textOnly Departure.lateStores }, { on := 2, ground := Ground.phase }, { on := 3, ground := Ground.phase }, { on := 4, ground := Ground.phase }, { on := 5, ground := Ground.phase }, { on := 6, ground := Ground.phase }, { on := 7, ground := Ground.phase }, { on := 8, ground := Ground.phase }, { on := 9, ground := Ground.textOnly Departure.lateStores }, { on := 10, ground := Ground.textOnly Departure.lateStoresUnsure }, { on := 11, ground := Ground.textOnly Departure.lateStoresUnsure }, { on := 12, ground := Ground.phase }, { on := 13, ground := Ground.textOnly Departure.lateStores }, { on := 14, ground := Ground.textOnly Departure.lateStoresUnsure }, { on := 15, ground := Ground.phase }], guard := none }) rfl (fun K hK => ?_) AllReadyJ.nil
      go_simp
      refine hK.out _ _ (fun h => absurd h (by decide)) ?_
      clear hK K
      try simp only [Act.put, List.setIfInBounds_toArray, List.set_cons_zero, List.set_cons_succ]
      refine' wpAnyJ_takeW (i := 19) (oi := { dst := some 33, op := Op.nilCheck (Operand.tmp 16), type := 0, pos := "ids.go:136", after := #[{ on := 1, ground := Ground.data }, { on := 0, ground := Ground.phase }, { on := 1, ground := Ground.phase }, { on := 2, ground := Ground.phase }, { on := 3, ground := Ground.phase }, { on := 4, ground := Ground.phase }, { on := 5, ground := Ground.phase }, { on := 6, ground := Ground.phase }, { on := 7, ground := Ground.phase }, { on := 8, ground := Ground.phase }, { on := 9, ground := Ground.phase }, { on := 10, ground := Ground.phase }, { on := 11, ground := Ground.phase }, { on := 12, ground := Ground.phase }, { on := 13, ground := Ground.phase }, { on := 14, ground := Ground.phase }, { on := 15, ground := Ground.phase }, { on := 16, ground := Ground.phase }, { on := 17, ground := Ground.phase }, { on := 18, ground := Ground.phase }], guard := none }) (v := _) rfl (by kernel_rfl) (by kernel_rfl) (by kernel_rfl) (fun _ _ _ h => h) (Or.inl ⟨by rfl, ?hyA14⟩) ?reA14
      case hyA14 => (intro W hSw; (try dsimp only at hSw); go_simp; try with_reducible rfl)
      try simp only [Act.put, List.setIfInBounds_toArray, List.set_cons_zero, List.set_cons_succ]
      refine' wpAnyJ_takeW (i := 20) (oi := { dst := some 34, op := Op.fieldAddr 59 (Operand.tmp 33) 2, type := 0, pos := "ids.go:136", after := #[{ on := 19, ground := Ground.data }, { on := 0, ground := Ground.phase }, { on := 1, ground := Ground.phase }, { on := 2, ground := Ground.phase }, { on := 3, ground := Ground.phase }, { on := 4, ground := Ground.phase }, { on := 5, ground := Ground.phase }, { on := 6, ground := Ground.phase }, { on := 7, ground := Ground.phase }, { on := 8, ground := Ground.phase }, { on := 9, ground := Ground.phase }, { on := 10, ground := Ground.phase }, { on := 11, ground := Ground.phase }, { on := 12, ground := Ground.phase }, { on := 13, ground := Ground.phase }, { on := 14, ground := Ground.phase }, { on := 15, ground := Ground.phase }, { on := 16, ground := Ground.phase }, { on := 17, ground := Ground.phase }, { on := 18, ground := Ground.phase }], guard := none }) (v := _) rfl (by kernel_rfl) (by kernel_rfl) (by kernel_rfl) (fun _ _ _ h => h) (Or.inl ⟨by rfl, ?hyA15⟩) ?reA15
      case hyA15 => (intro W hSw; (try dsimp only at hSw); go_simp; try with_reducible rfl)
      try simp only [Act.put, List.setIfInBounds_toArray, List.set_cons_zero, List.set_cons_succ]
      refine wpAnyJ_ready (rs := [21]) (by kernel_rfl) (by simp) ?_
      refine AllReadyJ.cons (o := { dst := none, op := Op.store 47 (Operand.tmp 34) (Operand.tmp 30), type := 0, pos := "ids.go:136", after := #[{ on := 20, ground := Ground.data }, { on := 15, ground := Ground.data }, { on := 18, ground := Ground.chain }, { on := 0, ground := Ground.phase }, { on := 1, ground := Ground.phase }, { on := 2, ground := Ground.phase }, { on := 3, ground := Ground.phase }, { on := 4, ground := Ground.phase }, { on := 5, ground := Ground.phase }, { on := 6, ground := Ground.phase }, { on := 7, ground := Ground.phase }, { on := 8, ground := Ground.phase }, { on := 9, ground := Ground.phase }, { on := 10, ground := Ground.phase }, { on := 11, ground := Ground.phase }, { on := 12, ground := Ground.phase }, { on := 13, ground := Ground.phase }, { on := 14, ground := Ground.phase }, { on := 15, ground := Ground.phase }, { on := 16, ground := Ground.phase }, { on := 17, ground := Ground.phase }, { on := 18, ground := Ground.phase }], guard := none }) rfl (fun K hK => ?_) AllReadyJ.nil
      go_simp
      refine hK.out _ _ (fun h => absurd h (by decide)) ?_
      clear hK K
      try simp only [Act.put, List.setIfInBounds_toArray, List.set_cons_zero, List.set_cons_succ]
      refine wpAnyJ_done (by kernel_rfl) ?_ _
      refine NoPanic.normal ?_
      go_wp2_with fail
      go_end0
      have F := H.out.fin T10.out
      exact ⟨rfl, CV.out _ ⟨_, _, F.1, T10.out.2.2.2.1, T10.out.2.2.2.2.1, F.2⟩⟩
    refine AllReadyJ.cons (o := { dst := some 28, op := Op.load 41 (Operand.tmp 4), type := 41, pos := "ids.go:136", after := #[], guard := none }) rfl (fun K hK => ?_) AllReadyJ.nil
    go_simp
    refine hK.out _ _ (fun _ h => h) ?_
    clear hK K
    try simp only [Act.put, List.setIfInBounds_toArray, List.set_cons_zero, List.set_cons_succ]
    refine wpAnyJ_ready (rs := [8, 14]) (by kernel_rfl) (by simp) ?_
    refine AllReadyJ.cons (o := { dst := some 23, op := Op.call { callee := Callee.builtin Builtin.append, args := #[Operand.tmp 20, Operand.tmp 22], argTypes := #[33, 33] }, type := 33, pos := "ids.go:136", after := #[{ on := 5, ground := Ground.data }, { on := 7, ground := Ground.data }], guard := none }) rfl (fun K hK => ?_) ?_
    · refine step_append_lies _ rfl (.tmp 20) (.tmp 22) 33 rfl 0 3 i3 (.int .i64 0) 1 8 Try.underlying33 hi3 hx0 hx1 hx2 rfl (by decide) (.slice aog gs.length cg) gs.length (ic gs) (by simp [Act.eval]) (T0.out.alloc _).1 ⟨w1.heap.size, 0, none⟩ 1 1 [.int .i64 (x : Int)] (by simp [Act.eval]) rfl (by intro j u hj; match j, hj with | 0, hj => simp at hj; subst hj; simp [Addr.add]) (by intro u hu; simp at hu; subst hu; rfl) (by omega) (by unfold maxLen; omega) (by omega) (Nat.zero_le _) _ rfl ?_; intro g9 c9 w9 ho9 hg9 ha9 _
      have T9 := hide ((T0.out.alloc _).growG (x := x) ho9 hg9 ha9)
      clear ho9 hg9 ha9
      refine hK.out _ _ (fun _ _ => (mid_cells (H.out.mid T9.out)).1) ?_
      clear hK K
      try simp only [Act.put, List.setIfInBounds_toArray, List.set_cons_zero, List.set_cons_succ]
      refine wpAnyJ_ready (rs := [14]) (by kernel_rfl) (by simp) ?_
      refine AllReadyJ.cons (o := { dst := some 29, op := Op.buildSlice 47 1 #[(0, Operand.tmp 28)], type := 47, pos := "ids.go:136", after := #[{ on := 13, ground := Ground.data }], guard := none }) rfl (fun K hK => ?_) AllReadyJ.nil
      go_simp
      refine hK.out _ _ (fun _ _ => (mid_cells (H.out.mid (T9.out.alloc _))).1) ?_
      clear hK K
      try simp only [Act.put, List.setIfInBounds_toArray, List.set_cons_zero, List.set_cons_succ]
      refine wpAnyJ_ready (rs := [15]) (by kernel_rfl) (by simp) ?_
      refine AllReadyJ.cons (o := { dst := some 30, op := Op.call { callee := Callee.builtin Builtin.append, args := #[Operand.tmp 27, Operand.tmp 29], argTypes := #[47, 47] }, type := 47, pos := "ids.go:136", after := #[{ on := 12, ground := Ground.data }, { on := 14, ground := Ground.data }, { on := 8, ground := Ground.chain }], guard := none }) rfl (fun K hK => ?_) AllReadyJ.nil
      refine step_append_lies _ rfl (.tmp 27) (.tmp 29) 47 rfl 0 41 i41 (.agg #[.int .i64 0, .int .i64 0]) 2 16 Try.underlying47 hi41 hy0 hy1 hy2 rfl (by decide) (.slice aol lv.length cl) lv.length (ec lv) (by simp [Act.eval]) (T9.out.alloc _).2.1 ⟨w9.heap.size, 0, none⟩ 1 1 [.int .i64 (gs.length : Int), .int .i64 (x : Int)] (by simp [Act.eval]) rfl (by intro j u hj; match j, hj with | 0, hj => simp at hj; subst hj; simp [Addr.add] | 1, hj => simp at hj; subst hj; simp [Addr.add]) (by intro u hu; simp at hu; rcases hu with rfl | rfl <;> rfl) (by omega) (by unfold maxLen; omega) (by omega) (Nat.zero_le _) _ rfl ?_; intro g8 c8 w8 ho8 hg8 ha8 _
      have T10 := hide ((T9.out.alloc _).growL (a := gs.length) (b := x) ho8 hg8 ha8)
      clear ho8 hg8 ha8
      refine hK.out _ _ (fun _ _ => (mid_cells (H.out.mid T10.out)).1) ?_
      clear hK K
      obtain ⟨⟨d1, d2⟩, y1, y2⟩ := mid_cells (H.out.mid T10.out)
      try simp only [Act.put, List.setIfInBounds_toArray, List.set_cons_zero, List.set_cons_succ]
      refine' wpAnyJ_takeW (i := 16) (oi := { dst := some 31, op := Op.nilCheck (Operand.tmp 15), type := 0, pos := "ids.go:136", after := #[{ on := 0, ground := Ground.data }, { on := 0, ground := Ground.phase }, { on := 1, ground := Ground.textOnly Departure.lateStores }, { on := 2, ground := Ground.phase }, { on := 3, ground := Ground.phase }, { on := 4, ground := Ground.phase }, { on := 5, ground := Ground.phase }, { on := 6, ground := Ground.phase }, { on := 7, ground := Ground.phase }, { on := 8, ground := Ground.phase }, { on := 9, ground := Ground.textOnly Departure.lateStores }, { on := 10, ground := Ground.textOnly Departure.lateStoresUnsure }, { on := 11, ground := Ground.textOnly Departure.lateStoresUnsure }, { on := 12, ground := Ground.phase }, { on := 13, ground := Ground.textOnly Departure.lateStores }, { on := 14, ground := Ground.textOnly Departure.lateStoresUnsure }, { on := 15, ground := Ground.phase }], guard := none }) (v := _) rfl (by kernel_rfl) (by kernel_rfl) (by kernel_rfl) (fun _ _ _ h => h) (Or.inl ⟨by rfl, ?hyA16⟩) ?reA16
      case hyA16 => (intro W hSw; (try dsimp only at hSw); go_simp; try with_reducible rfl)
      try simp only [Act.put, List.setIfInBounds_toArray, List.set_cons_zero, List.set_cons_succ]
      refine' wpAnyJ_takeW (i := 17) (oi := { dst := some 32, op := Op.fieldAddr 59 (Operand.tmp 31) 1, type := 0, pos := "ids.go:136", after := #[{ on := 16, ground := Ground.data }, { on := 0, ground := Ground.phase }, { on := 1, ground := Ground.textOnly Departure.lateStores }, { on := 2, ground := Ground.phase }, { on := 3, ground := Ground.phase }, { on := 4, ground := Ground.phase }, { on := 5, ground := Ground.phase }, { on := 6, ground := Ground.phase }, { on := 7, ground := Ground.phase }, { on := 8, ground := Ground.phase }, { on := 9, ground := Ground.textOnly Departure.lateStores }, { on := 10, ground := Ground.textOnly Departure.lateStoresUnsure }, { on := 11, ground := Ground.textOnly Departure.lateStoresUnsure }, { on := 12, ground := Ground.phase }, { on := 13, ground := Ground.textOnly Departure.lateStores }, { on := 14, ground := Ground.textOnly Departure.lateStoresUnsure }, { on := 15, ground := Ground.phase }], guard := none }) (v := _) rfl (by kernel_rfl) (by kernel_rfl) (by kernel_rfl) (fun _ _ _ h => h) (Or.inl ⟨by rfl, ?hyA17⟩) ?reA17
      case hyA17 => (intro W hSw; (try dsimp only at hSw); go_simp; try with_reducible rfl)
      try simp only [Act.put, List.setIfInBounds_toArray, List.set_cons_zero, List.set_cons_succ]
      refine wpAnyJ_ready (rs := [18]) (by kernel_rfl) (by simp) ?_
      refine AllReadyJ.cons (o := { dst := none, op := Op.store 33 (Operand.tmp 32) (Operand.tmp 23), type := 0, pos := "ids.go:136", after := #[{ on := 17, ground := Ground.data }, { on := 8, ground := Ground.data }, { on := 15, ground := Ground.chain }, { on := 0, ground := Ground.phase }, { on := 1, ground := Ground.textOnly Departure.lateStores }, { on := 2, ground := Ground.phase }, { on := 3, ground := Ground.phase }, { on := 4, ground := Ground.phase }, { on := 5, ground := Ground.phase }, { on := 6, ground := Ground.phase }, { on := 7, ground := Ground.phase }, { on := 8, ground := Ground.phase }, { on := 9, ground := Ground.textOnly Departure.lateStores }, { on := 10, ground := Ground.textOnly Departure.lateStoresUnsure }, { on := 11, ground := Ground.textOnly Departure.lateStoresUnsure }, { on := 12, ground := Ground.phase }, { on := 13, ground := Ground.textOnly Departure.lateStores }, { on := 14, ground := Ground.textOnly Departure.lateStoresUnsure }, { on := 15, ground := Ground.phase }], guard := none }) rfl (fun K hK => ?_) AllReadyJ.nil
      go_simp
      refine hK.out _ _ (fun h => absurd h (by decide)) ?_
      clear hK K
      try simp only [Act.put, List.setIfInBounds_toArray, List.set_cons_zero, List.set_cons_succ]
      refine' wpAnyJ_takeW (i := 19) (oi := { dst := some 33, op := Op.nilCheck (Operand.tmp 16), type := 0, pos := "ids.go:136", after := #[{ on := 1, ground := Ground.data }, { on := 0, ground := Ground.phase }, { on := 1, ground := Ground.phase }, { on := 2, ground := Ground.phase }, { on := 3, ground := Ground.phase }, { on := 4, ground := Ground.phase }, { on := 5, ground := Ground.phase }, { on := 6, ground := Ground.phase }, { on := 7, ground := Ground.phase }, { on := 8, ground := Ground.phase }, { on := 9, ground := Ground.phase }, { on := 10, ground := Ground.phase }, { on := 11, ground := Ground.phase }, { on := 12, ground := Ground.phase }, { on := 13, ground := Ground.phase }, { on := 14, ground := Ground.phase }, { on := 15, ground := Ground.phase }, { on := 16, ground := Ground.phase }, { on := 17, ground := Ground.phase }, { on := 18, ground := Ground.phase }], guard := none }) (v := _) rfl (by kernel_rfl) (by kernel_rfl) (by kernel_rfl) (fun _ _ _ h => h) (Or.inl ⟨by rfl, ?hyA18⟩) ?reA18
      case hyA18 => (intro W hSw; (try dsimp only at hSw); go_simp; try with_reducible rfl)
      try simp only [Act.put, List.setIfInBounds_toArray, List.set_cons_zero, List.set_cons_succ]
      refine' wpAnyJ_takeW (i := 20) (oi := { dst := some 34, op := Op.fieldAddr 59 (Operand.tmp 33) 2, type := 0, pos := "ids.go:136", after := #[{ on := 19, ground := Ground.data }, { on := 0, ground := Ground.phase }, { on := 1, ground := Ground.phase }, { on := 2, ground := Ground.phase }, { on := 3, ground := Ground.phase }, { on := 4, ground := Ground.phase }, { on := 5, ground := Ground.phase }, { on := 6, ground := Ground.phase }, { on := 7, ground := Ground.phase }, { on := 8, ground := Ground.phase }, { on := 9, ground := Ground.phase }, { on := 10, ground := Ground.phase }, { on := 11, ground := Ground.phase }, { on := 12, ground := Ground.phase }, { on := 13, ground := Ground.phase }, { on := 14, ground := Ground.phase }, { on := 15, ground := Ground.phase }, { on := 16, ground := Ground.phase }, { on := 17, ground := Ground.phase }, { on := 18, ground := Ground.phase }], guard := none }) (v := _) rfl (by kernel_rfl) (by kernel_rfl) (by kernel_rfl) (fun _ _ _ h => h) (Or.inl ⟨by rfl, ?hyA19⟩) ?reA19
      case hyA19 => (intro W hSw; (try dsimp only at hSw); go_simp; try with_reducible rfl)
      try simp only [Act.put, List.setIfInBounds_toArray, List.set_cons_zero, List.set_cons_succ]
      refine wpAnyJ_ready (rs := [21]) (by kernel_rfl) (by simp) ?_
      refine AllReadyJ.cons (o := { dst := none, op := Op.store 47 (Operand.tmp 34) (Operand.tmp 30), type := 0, pos := "ids.go:136", after := #[{ on := 20, ground := Ground.data }, { on := 15, ground := Ground.data }, { on := 18, ground := Ground.chain }, { on := 0, ground := Ground.phase }, { on := 1, ground := Ground.phase }, { on := 2, ground := Ground.phase }, { on := 3, ground := Ground.phase }, { on := 4, ground := Ground.phase }, { on := 5, ground := Ground.phase }, { on := 6, ground := Ground.phase }, { on := 7, ground := Ground.phase }, { on := 8, ground := Ground.phase }, { on := 9, ground := Ground.phase }, { on := 10, ground := Ground.phase }, { on := 11, ground := Ground.phase }, { on := 12, ground := Ground.phase }, { on := 13, ground := Ground.phase }, { on := 14, ground := Ground.phase }, { on := 15, ground := Ground.phase }, { on := 16, ground := Ground.phase }, { on := 17, ground := Ground.phase }, { on := 18, ground := Ground.phase }], guard := none }) rfl (fun K hK => ?_) AllReadyJ.nil
      go_simp
      refine hK.out _ _ (fun h => absurd h (by decide)) ?_
      clear hK K
      try simp only [Act.put, List.setIfInBounds_toArray, List.set_cons_zero, List.set_cons_succ]
      refine wpAnyJ_done (by kernel_rfl) ?_ _
      refine NoPanic.normal ?_
      go_wp2_with fail
      go_end0
      have F := H.out.fin T10.out
      exact ⟨rfl, CV.out _ ⟨_, _, F.1, T10.out.2.2.2.1, T10.out.2.2.2.2.1, F.2⟩⟩
    refine AllReadyJ.cons (o := { dst := some 29, op := Op.buildSlice 47 1 #[(0, Operand.tmp 28)], type := 47, pos := "ids.go:136", after := #[{ on := 13, ground := Ground.data }], guard := none }) rfl (fun K hK => ?_) AllReadyJ.nil
    go_simp
    refine hK.out _ _ (fun _ _ => (mid_cells (H.out.mid ((T0.out.alloc _).alloc _))).1) ?_
    clear hK K
    try simp only [Act.put, List.setIfInBounds_toArray, List.set_cons_zero, List.set_cons_succ]
    refine wpAnyJ_ready (rs := [8]) (by kernel_rfl) (by simp) ?_
    refine AllReadyJ.cons (o := { dst := some 23, op := Op.call { callee := Callee.builtin Builtin.append, args := #[Operand.tmp 20, Operand.tmp 22], argTypes := #[33, 33] }, type := 33, pos := "ids.go:136", after := #[{ on := 5, ground := Ground.data }, { on := 7, ground := Ground.data }], guard := none }) rfl (fun K hK => ?_) AllReadyJ.nil
    refine step_append_lies _ rfl (.tmp 20) (.tmp 22) 33 rfl 0 3 i3 (.int .i64 0) 1 8 Try.underlying33 hi3 hx0 hx1 hx2 rfl (by decide) (.slice aog gs.length cg) gs.length (ic gs) (by simp [Act.eval]) ((T0.out.alloc _).alloc _).1 ⟨w1.heap.size, 0, none⟩ 1 1 [.int .i64 (x : Int)] (by simp [Act.eval]) rfl (by intro j u hj; match j, hj with | 0, hj => simp at hj; subst hj; simp [Addr.add]) (by intro u hu; simp at hu; subst hu; rfl) (by omega) (by unfold maxLen; omega) (by omega) (Nat.zero_le _) _ rfl ?_; intro g9 c9 w9 ho9 hg9 ha9 _
    have T9 := hide (((T0.out.alloc _).alloc _).growG (x := x) ho9 hg9 ha9)
    have s0 : w9.cell? ⟨w1.heap.size + 1, 0, none⟩ = some (.int .i64 (gs.length : Int)) := hg9.cell (by simp) (fun e => by have := (HGL.out _ e.symm).2; first | omega | (simp at this <;> omega))
    have s1 : w9.cell? ⟨w1.heap.size + 1, 1, none⟩ = some (.int .i64 (x : Int)) := hg9.cell (by simp) (fun e => by have := (HGL.out _ e.symm).2; first | omega | (simp at this <;> omega))
    clear ho9 hg9 ha9
    refine hK.out _ _ (fun _ _ => (mid_cells (H.out.mid T9.out)).1) ?_
    clear hK K
    try simp only [Act.put, List.setIfInBounds_toArray, List.set_cons_zero, List.set_cons_succ]
    refine wpAnyJ_ready (rs := [15]) (by kernel_rfl) (by simp) ?_
    refine AllReadyJ.cons (o := { dst := some 30, op := Op.call { callee := Callee.builtin Builtin.append, args := #[Operand.tmp 27, Operand.tmp 29], argTypes := #[47, 47] }, type := 47, pos := "ids.go:136", after := #[{ on := 12, ground := Ground.data }, { on := 14, ground := Ground.data }, { on := 8, ground := Ground.chain }], guard := none }) rfl (fun K hK => ?_) AllReadyJ.nil
    refine step_append_lies _ rfl (.tmp 27) (.tmp 29) 47 rfl 0 41 i41 (.agg #[.int .i64 0, .int .i64 0]) 2 16 Try.underlying47 hi41 hy0 hy1 hy2 rfl (by decide) (.slice aol lv.length cl) lv.length (ec lv) (by simp [Act.eval]) T9.out.2.1 ⟨w1.heap.size + 1, 0, none⟩ 1 1 [.int .i64 (gs.length : Int), .int .i64 (x : Int)] (by simp [Act.eval]) rfl (by intro j u hj; match j, hj with | 0, hj => simp at hj; subst hj; simpa [Addr.add] using s0 | 1, hj => simp at hj; subst hj; simpa [Addr.add] using s1) (by intro u hu; simp at hu; rcases hu with rfl | rfl <;> rfl) (by omega) (by unfold maxLen; omega) (by omega) (Nat.zero_le _) _ rfl ?_; intro g8 c8 w8 ho8 hg8 ha8 _
    have T10 := hide (T9.out.growL (a := gs.length) (b := x) ho8 hg8 ha8)
    clear ho8 hg8 ha8
    refine hK.out _ _ (fun _ _ => (mid_cells (H.out.mid T10.out)).1) ?_
    clear hK K
    obtain ⟨⟨d1, d2⟩, y1, y2⟩ := mid_cells (H.out.mid T10.out)
    try simp only [Act.put, List.setIfInBounds_toArray, List.set_cons_zero, List.set_cons_succ]
    refine' wpAnyJ_takeW (i := 16) (oi := { dst := some 31, op := Op.nilCheck (Operand.tmp 15), type := 0, pos := "ids.go:136", after := #[{ on := 0, ground := Ground.data }, { on := 0, ground := Ground.phase }, { on := 1, ground := Ground.textOnly Departure.lateStores }, { on := 2, ground := Ground.phase }, { on := 3, ground := Ground.phase }, { on := 4, ground := Ground.phase }, { on := 5, ground := Ground.phase }, { on := 6, ground := Ground.phase }, { on := 7, ground := Ground.phase }, { on := 8, ground := Ground.phase }, { on := 9, ground := Ground.textOnly Departure.lateStores }, { on := 10, ground := Ground.textOnly Departure.lateStoresUnsure }, { on := 11, ground := Ground.textOnly Departure.lateStoresUnsure }, { on := 12, ground := Ground.phase }, { on := 13, ground := Ground.textOnly Departure.lateStores }, { on := 14, ground := Ground.textOnly Departure.lateStoresUnsure }, { on := 15, ground := Ground.phase }], guard := none }) (v := _) rfl (by kernel_rfl) (by kernel_rfl) (by kernel_rfl) (fun _ _ _ h => h) (Or.inl ⟨by rfl, ?hyA20⟩) ?reA20
    case hyA20 => (intro W hSw; (try dsimp only at hSw); go_simp; try with_reducible rfl)
    try simp only [Act.put, List.setIfInBounds_toArray, List.set_cons_zero, List.set_cons_succ]
    refine' wpAnyJ_takeW (i := 17) (oi := { dst := some 32, op := Op.fieldAddr 59 (Operand.tmp 31) 1, type := 0, pos := "ids.go:136", after := #[{ on := 16, ground := Ground.data }, { on := 0, ground := Ground.phase }, { on := 1, ground := Ground.textOnly Departure.lateStores }, { on := 2, ground := Ground.phase }, { on := 3, ground := Ground.phase }, { on := 4, ground := Ground.phase }, { on := 5, ground := Ground.phase }, { on := 6, ground := Ground.phase }, { on := 7, ground := Ground.phase }, { on := 8, ground := Ground.phase }, { on := 9, ground := Ground.textOnly Departure.lateStores }, { on := 10, ground := Ground.textOnly Departure.lateStoresUnsure }, { on := 11, ground := Ground.textOnly Departure.lateStoresUnsure }, { on := 12, ground := Ground.phase }, { on := 13, ground := Ground.textOnly Departure.lateStores }, { on := 14, ground := Ground.textOnly Departure.lateStoresUnsure }, { on := 15, ground := Ground.phase }], guard := none }) (v := _) rfl (by kernel_rfl) (by kernel_rfl) (by kernel_rfl) (fun _ _ _ h => h) (Or.inl ⟨by rfl, ?hyA21⟩) ?reA21
    case hyA21 => (intro W hSw; (try dsimp only at hSw); go_simp; try with_reducible rfl)
    try simp only [Act.put, List.setIfInBounds_toArray, List.set_cons_zero, List.set_cons_succ]
    refine wpAnyJ_ready (rs := [18]) (by kernel_rfl) (by simp) ?_
    refine AllReadyJ.cons (o := { dst := none, op := Op.store 33 (Operand.tmp 32) (Operand.tmp 23), type := 0, pos := "ids.go:136", after := #[{ on := 17, ground := Ground.data }, { on := 8, ground := Ground.data }, { on := 15, ground := Ground.chain }, { on := 0, ground := Ground.phase }, { on := 1, ground := Ground.textOnly Departure.lateStores }, { on := 2, ground := Ground.phase }, { on := 3, ground := Ground.phase }, { on := 4, ground := Ground.phase }, { on := 5, ground := Ground.phase }, { on := 6, ground := Ground.phase }, { on := 7, ground := Ground.phase }, { on := 8, ground := Ground.phase }, { on := 9, ground := Ground.textOnly Departure.lateStores }, { on := 10, ground := Ground.textOnly Departure.lateStoresUnsure }, { on := 11, ground := Ground.textOnly Departure.lateStoresUnsure }, { on := 12, ground := Ground.phase }, { on := 13, ground := Ground.textOnly Departure.lateStores }, { on := 14, ground := Ground.textOnly Departure.lateStoresUnsure }, { on := 15, ground := Ground.phase }], guard := none }) rfl (fun K hK => ?_) AllReadyJ.nil
    go_simp
    refine hK.out _ _ (fun h => absurd h (by decide)) ?_
    clear hK K
    try simp only [Act.put, List.setIfInBounds_toArray, List.set_cons_zero, List.set_cons_succ]
    refine' wpAnyJ_takeW (i := 19) (oi := { dst := some 33, op := Op.nilCheck (Operand.tmp 16), type := 0, pos := "ids.go:136", after := #[{ on := 1, ground := Ground.data }, { on := 0, ground := Ground.phase }, { on := 1, ground := Ground.phase }, { on := 2, ground := Ground.phase }, { on := 3, ground := Ground.phase }, { on := 4, ground := Ground.phase }, { on := 5, ground := Ground.phase }, { on := 6, ground := Ground.phase }, { on := 7, ground := Ground.phase }, { on := 8, ground := Ground.phase }, { on := 9, ground := Ground.phase }, { on := 10, ground := Ground.phase }, { on := 11, ground := Ground.phase }, { on := 12, ground := Ground.phase }, { on := 13, ground := Ground.phase }, { on := 14, ground := Ground.phase }, { on := 15, ground := Ground.phase }, { on := 16, ground := Ground.phase }, { on := 17, ground := Ground.phase }, { on := 18, ground := Ground.phase }], guard := none }) (v := _) rfl (by kernel_rfl) (by kernel_rfl) (by kernel_rfl) (fun _ _ _ h => h) (Or.inl ⟨by rfl, ?hyA22⟩) ?reA22
    case hyA22 => (intro W hSw; (try dsimp only at hSw); go_simp; try with_reducible rfl)
    try simp only [Act.put, List.setIfInBounds_toArray, List.set_cons_zero, List.set_cons_succ]
    refine' wpAnyJ_takeW (i := 20) (oi := { dst := some 34, op := Op.fieldAddr 59 (Operand.tmp 33) 2, type := 0, pos := "ids.go:136", after := #[{ on := 19, ground := Ground.data }, { on := 0, ground := Ground.phase }, { on := 1, ground := Ground.phase }, { on := 2, ground := Ground.phase }, { on := 3, ground := Ground.phase }, { on := 4, ground := Ground.phase }, { on := 5, ground := Ground.phase }, { on := 6, ground := Ground.phase }, { on := 7, ground := Ground.phase }, { on := 8, ground := Ground.phase }, { on := 9, ground := Ground.phase }, { on := 10, ground := Ground.phase }, { on := 11, ground := Ground.phase }, { on := 12, ground := Ground.phase }, { on := 13, ground := Ground.phase }, { on := 14, ground := Ground.phase }, { on := 15, ground := Ground.phase }, { on := 16, ground := Ground.phase }, { on := 17, ground := Ground.phase }, { on := 18, ground := Ground.phase }], guard := none }) (v := _) rfl (by kernel_rfl) (by kernel_rfl) (by kernel_rfl) (fun _ _ _ h => h) (Or.inl ⟨by rfl, ?hyA23⟩) ?reA23
    case hyA23 => (intro W hSw; (try dsimp only at hSw); go_simp; try with_reducible rfl)
    try simp only [Act.put, List.setIfInBounds_toArray, List.set_cons_zero, List.set_cons_succ]
    refine wpAnyJ_ready (rs := [21]) (by kernel_rfl) (by simp) ?_
    refine AllReadyJ.cons (o := { dst := none, op := Op.store 47 (Operand.tmp 34) (Operand.tmp 30), type := 0, pos := "ids.go:136", after := #[{ on := 20, ground := Ground.data }, { on := 15, ground := Ground.data }, { on := 18, ground := Ground.chain }, { on := 0, ground := Ground.phase }, { on := 1, ground := Ground.phase }, { on := 2, ground := Ground.phase }, { on := 3, ground := Ground.phase }, { on := 4, ground := Ground.phase }, { on := 5, ground := Ground.phase }, { on := 6, ground := Ground.phase }, { on := 7, ground := Ground.phase }, { on := 8, ground := Ground.phase }, { on := 9, ground := Ground.phase }, { on := 10, ground := Ground.phase }, { on := 11, ground := Ground.phase }, { on := 12, ground := Ground.phase }, { on := 13, ground := Ground.phase }, { on := 14, ground := Ground.phase }, { on := 15, ground := Ground.phase }, { on := 16, ground := Ground.phase }, { on := 17, ground := Ground.phase }, { on := 18, ground := Ground.phase }], guard := none }) rfl (fun K hK => ?_) AllReadyJ.nil
    go_simp
    refine hK.out _ _ (fun h => absurd h (by decide)) ?_
    clear hK K
    try simp only [Act.put, List.setIfInBounds_toArray, List.set_cons_zero, List.set_cons_succ]
    refine wpAnyJ_done (by kernel_rfl) ?_ _
    refine NoPanic.normal ?_
    go_wp2_with fail
    go_end0
    have F := H.out.fin T10.out
    exact ⟨rfl, CV.out _ ⟨_, _, F.1, T10.out.2.2.2.1, T10.out.2.2.2.2.1, F.2⟩⟩
  refine AllReadyJ.cons (o := { dst := some 28, op := Op.load 41 (Operand.tmp 4), type := 41, pos := "ids.go:136", after := #[], guard := none }) rfl (fun K hK => ?_) AllReadyJ.nil
  obtain ⟨q0, q1⟩ := WH.out _ T0.out.2.2.2.2.2
  go_simp
  refine hK.out _ _ (fun _ h => h) ?_
  clear hK K q0 q1
  try simp only [Act.put, List.setIfInBounds_toArray, List.set_cons_zero, List.set_cons_succ]
  refine wpAnyJ_ready (rs := [7, 14]) (by kernel_rfl) (by simp) ?_
  refine AllReadyJ.cons (o := { dst := some 22, op := Op.buildSlice 33 1 #[(0, Operand.tmp 21)], type := 33, pos := "ids.go:136", after := #[{ on := 6, ground := Ground.data }], guard := none }) rfl (fun K hK => ?_) ?_
  · go_simp
    refine hK.out _ _ (fun _ _ => (mid_cells (H.out.mid (T0.out.alloc _))).1) ?_
    clear hK K
    try simp only [Act.put, List.setIfInBounds_toArray, List.set_cons_zero, List.set_cons_succ]
    refine wpAnyJ_ready (rs := [8, 14]) (by kernel_rfl) (by simp) ?_
    refine AllReadyJ.cons (o := { dst := some 23, op := Op.call { callee := Callee.builtin Builtin.append, args := #[Operand.tmp 20, Operand.tmp 22], argTypes := #[33, 33] }, type := 33, pos := "ids.go:136", after := #[{ on := 5, ground := Ground.data }, { on := 7, ground := Ground.data }], guard := none }) rfl (fun K hK => ?_) ?_
    · refine step_append_lies _ rfl (.tmp 20) (.tmp 22) 33 rfl 0 3 i3 (.int .i64 0) 1 8 Try.underlying33 hi3 hx0 hx1 hx2 rfl (by decide) (.slice aog gs.length cg) gs.length (ic gs) (by simp [Act.eval]) (T0.out.alloc _).1 ⟨w1.heap.size, 0, none⟩ 1 1 [.int .i64 (x : Int)] (by simp [Act.eval]) rfl (by intro j u hj; match j, hj with | 0, hj => simp at hj; subst hj; simp [Addr.add]) (by intro u hu; simp at hu; subst hu; rfl) (by omega) (by unfold maxLen; omega) (by omega) (Nat.zero_le _) _ rfl ?_; intro g9 c9 w9 ho9 hg9 ha9 _
      have T9 := hide ((T0.out.alloc _).growG (x := x) ho9 hg9 ha9)
      clear ho9 hg9 ha9
      refine hK.out _ _ (fun _ _ => (mid_cells (H.out.mid T9.out)).1) ?_
      clear hK K
      try simp only [Act.put, List.setIfInBounds_toArray, List.set_cons_zero, List.set_cons_succ]
      refine wpAnyJ_ready (rs := [14]) (by kernel_rfl) (by simp) ?_
      refine AllReadyJ.cons (o := { dst := some 29, op := Op.buildSlice 47 1 #[(0, Operand.tmp 28)], type := 47, pos := "ids.go:136", after := #[{ on := 13, ground := Ground.data }], guard := none }) rfl (fun K hK => ?_) AllReadyJ.nil
      go_simp
      refine hK.out _ _ (fun _ _ => (mid_cells (H.out.mid (T9.out.alloc _))).1) ?_
      clear hK K
      try simp only [Act.put, List.setIfInBounds_toArray, List.set_cons_zero, List.set_cons_succ]
      refine wpAnyJ_ready (rs := [15]) (by kernel_rfl) (by simp) ?_
      refine AllReadyJ.cons (o := { dst := some 30, op := Op.call { callee := Callee.builtin Builtin.append, args := #[Operand.tmp 27, Operand.tmp 29], argTypes := #[47, 47] }, type := 47, pos := "ids.go:136", after := #[{ on := 12, ground := Ground.data }, { on := 14, ground := Ground.data }, { on := 8, ground := Ground.chain }], guard := none }) rfl (fun K hK => ?_) AllReadyJ.nil
      refine step_append_lies _ rfl (.tmp 27) (.tmp 29) 47 rfl 0 41 i41 (.agg #[.int .i64 0, .int .i64 0]) 2 16 Try.underlying47 hi41 hy0 hy1 hy2 rfl (by decide) (.slice aol lv.length cl) lv.length (ec lv) (by simp [Act.eval]) (T9.out.alloc _).2.1 ⟨w9.heap.size, 0, none⟩ 1 1 [.int .i64 (gs.length : Int), .int .i64 (x : Int)] (by simp [Act.eval]) rfl (by intro j u hj; match j, hj with | 0, hj => simp at hj; subst hj; simp [Addr.add] | 1, hj => simp at hj; subst hj; simp [Addr.add]) (by intro u hu; simp at hu; rcases hu with rfl | rfl <;> rfl) (by omega) (by unfold maxLen; omega) (by omega) (Nat.zero_le _) _ rfl ?_; intro g8 c8 w8 ho8 hg8 ha8 _
      have T10 := hide ((T9.out.alloc _).growL (a := gs.length) (b := x) ho8 hg8 ha8)
      clear ho8 hg8 ha8
      refine hK.out _ _ (fun _ _ => (mid_cells (H.out.mid T10.out)).1) ?_
      clear hK K
      obtain ⟨⟨d1, d2⟩, y1, y2⟩ := mid_cells (H.out.mid T10.out)
      try simp only [Act.put, List.setIfInBounds_toArray, List.set_cons_zero, List.set_cons_succ]
      refine' wpAnyJ_takeW (i := 16) (oi := { dst := some 31, op := Op.nilCheck (Operand.tmp 15), type := 0, pos := "ids.go:136", after := #[{ on := 0, ground := Ground.data }, { on := 0, ground := Ground.phase }, { on := 1, ground := Ground.textOnly Departure.lateStores }, { on := 2, ground := Ground.phase }, { on := 3, ground := Ground.phase }, { on := 4, ground := Ground.phase }, { on := 5, ground := Ground.phase }, { on := 6, ground := Ground.phase }, { on := 7, ground := Ground.phase }, { on := 8, ground := Ground.phase }, { on := 9, ground := Ground.textOnly Departure.lateStores }, { on := 10, ground := Ground.textOnly Departure.lateStoresUnsure }, { on := 11, ground := Ground.textOnly Departure.lateStoresUnsure }, { on := 12, ground := Ground.phase }, { on := 13, ground := Ground.textOnly Departure.lateStores }, { on := 14, ground := Ground.textOnly Departure.lateStoresUnsure }, { on := 15, ground := Ground.phase }], guard := none }) (v := _) rfl (by kernel_rfl) (by kernel_rfl) (by kernel_rfl) (fun _ _ _ h => h) (Or.inl ⟨by rfl, ?hyA24⟩) ?reA24
      case hyA24 => (intro W hSw; (try dsimp only at hSw); go_simp; try with_reducible rfl)
      try simp only [Act.put, List.setIfInBounds_toArray, List.set_cons_zero, List.set_cons_succ]
      refine' wpAnyJ_takeW (i := 17) (oi := { dst := some 32, op := Op.fieldAddr 59 (Operand.tmp 31) 1, type := 0, pos := "ids.go:136", after := #[{ on := 16, ground := Ground.data }, { on := 0, ground := Ground.phase }, { on := 1, ground := Ground.textOnly Departure.lateStores }, { on := 2, ground := Ground.phase }, { on := 3, ground := Ground.phase }, { on := 4, ground := Ground.phase }, { on := 5, ground := Ground.phase }, { on := 6, ground := Ground.phase }, { on := 7, ground := Ground.phase }, { on := 8, ground := Ground.phase }, { on := 9, ground := Ground.textOnly Departure.lateStores }, { on := 10, ground := Ground.textOnly Departure.lateStoresUnsure }, { on := 11, ground := Ground.textOnly Departure.lateStoresUnsure }, { on := 12, ground := Ground.phase }, { on := 13, ground := Ground.textOnly Departure.lateStores }, { on := 14, ground := Ground.textOnly Departure.lateStoresUnsure }, { on := 15, ground := Ground.phase }], guard := none }) (v := _) rfl (by kernel_rfl) (by kernel_rfl) (by kernel_rfl) (fun _ _ _ h => h) (Or.inl ⟨by rfl, ?hyA25⟩) ?reA25
      case hyA25 => (intro W hSw; (try dsimp only at hSw); go_simp; try with_reducible rfl)
      try simp only [Act.put, List.setIfInBounds_toArray, List.set_cons_zero, List.set_cons_succ]
      refine wpAnyJ_ready (rs := [18]) (by kernel_rfl) (by simp) ?_
      refine AllReadyJ.cons (o := { dst := none, op := Op.store 33 (Operand.tmp 32) (Operand.tmp 23), type := 0, pos := "ids.go:136", after := #[{ on := 17, ground := Ground.data }, { on := 8, ground := Ground.data }, { on := 15, ground := Ground.chain }, { on := 0, ground := Ground.phase }, { on := 1, ground := Ground.textOnly Departure.lateStores }, { on := 2, ground := Ground.phase }, { on := 3, ground := Ground.phase }, { on := 4, ground := Ground.phase }, { on := 5, ground := Ground.phase }, { on := 6, ground := Ground.phase }, { on := 7, ground := Ground.phase }, { on := 8, ground := Ground.phase }, { on := 9, ground := Ground.textOnly Departure.lateStores }, { on := 10, ground := Ground.textOnly Departure.lateStoresUnsure }, { on := 11, ground := Ground.textOnly Departure.lateStoresUnsure }, { on := 12, ground := Ground.phase }, { on := 13, ground := Ground.textOnly Departure.lateStores }, { on := 14, ground := Ground.textOnly Departure.lateStoresUnsure }, { on := 15, ground := Ground.phase }], guard := none }) rfl (fun K hK => ?_) AllReadyJ.nil
      go_simp
      refine hK.out _ _ (fun h => absurd h (by decide)) ?_
      clear hK K
      try simp only [Act.put, List.setIfInBounds_toArray, List.set_cons_zero, List.set_cons_succ]
      refine' wpAnyJ_takeW (i := 19) (oi := { dst := some 33, op := Op.nilCheck (Operand.tmp 16), type := 0, pos := "ids.go:136", after := #[{ on := 1, ground := Ground.data }, { on := 0, ground := Ground.phase }, { on := 1, ground := Ground.phase }, { on := 2, ground := Ground.phase }, { on := 3, ground := Ground.phase }, { on := 4, ground := Ground.phase }, { on := 5, ground := Ground.phase }, { on := 6, ground := Ground.phase }, { on := 7, ground := Ground.phase }, { on := 8, ground := Ground.phase }, { on := 9, ground := Ground.phase }, { on := 10, ground := Ground.phase }, { on := 11, ground := Ground.phase }, { on := 12, ground := Ground.phase }, { on := 13, ground := Ground.phase }, { on := 14, ground := Ground.phase }, { on := 15, ground := Ground.phase }, { on := 16, ground := Ground.phase }, { on := 17, ground := Ground.phase }, { on := 18, ground := Ground.phase }], guard := none }) (v := _) rfl (by kernel_rfl) (by kernel_rfl) (by kernel_rfl) (fun _ _ _ h => h) (Or.inl ⟨by rfl, ?hyA26⟩) ?reA26
      case hyA26 => (intro W hSw; (try dsimp only at hSw); go_simp; try with_reducible rfl)
      try simp only [Act.put, List.setIfInBounds_toArray, List.set_cons_zero, List.set_cons_succ]
      refine' wpAnyJ_takeW (i := 20) (oi := { dst := some 34, op := Op.fieldAddr 59 (Operand.tmp 33) 2, type := 0, pos := "ids.go:136", after := #[{ on := 19, ground := Ground.data }, { on := 0, ground := Ground.phase }, { on := 1, ground := Ground.phase }, { on := 2, ground := Ground.phase }, { on := 3, ground := Ground.phase }, { on := 4, ground := Ground.phase }, { on := 5, ground := Ground.phase }, { on := 6, ground := Ground.phase }, { on := 7, ground := Ground.phase }, { on := 8, ground := Ground.phase }, { on := 9, ground := Ground.phase }, { on := 10, ground := Ground.phase }, { on := 11, ground := Ground.phase }, { on := 12, ground := Ground.phase }, { on := 13, ground := Ground.phase }, { on := 14, ground := Ground.phase }, { on := 15, ground := Ground.phase }, { on := 16, ground := Ground.phase }, { on := 17, ground := Ground.phase }, { on := 18, ground := Ground.phase }], guard := none }) (v := _) rfl (by kernel_rfl) (by kernel_rfl) (by kernel_rfl) (fun _ _ _ h => h) (Or.inl ⟨by rfl, ?hyA27⟩) ?reA27
      case hyA27 => (intro W hSw; (try dsimp only at hSw); go_simp; try with_reducible rfl)
      try simp only [Act.put, List.setIfInBounds_toArray, List.set_cons_zero, List.set_cons_succ]
      refine wpAnyJ_ready (rs := [21]) (by kernel_rfl) (by simp) ?_
      refine AllReadyJ.cons (o := { dst := none, op := Op.store 47 (Operand.tmp 34) (Operand.tmp 30), type := 0, pos := "ids.go:136", after := #[{ on := 20, ground := Ground.data }, { on := 15, ground := Ground.data }, { on := 18, ground := Ground.chain }, { on := 0, ground := Ground.phase }, { on := 1, ground := Ground.phase }, { on := 2, ground := Ground.phase }, { on := 3, ground := Ground.phase }, { on := 4, ground := Ground.phase }, { on := 5, ground := Ground.phase }, { on := 6, ground := Ground.phase }, { on := 7, ground := Ground.phase }, { on := 8, ground := Ground.phase }, { on := 9, ground := Ground.phase }, { on := 10, ground := Ground.phase }, { on := 11, ground := Ground.phase }, { on := 12, ground := Ground.phase }, { on := 13, ground := Ground.phase }, { on := 14, ground := Ground.phase }, { on := 15, ground := Ground.phase }, { on := 16, ground := Ground.phase }, { on := 17, ground := Ground.phase }, { on := 18, ground := Ground.phase }], guard := none }) rfl (fun K hK => ?_) AllReadyJ.nil
      go_simp
      refine hK.out _ _ (fun h => absurd h (by decide)) ?_
      clear hK K
      try simp only [Act.put, List.setIfInBounds_toArray, List.set_cons_zero, List.set_cons_succ]
      refine wpAnyJ_done (by kernel_rfl) ?_ _
      refine NoPanic.normal ?_
      go_wp2_with fail
      go_end0
      have F := H.out.fin T10.out
      exact ⟨rfl, CV.out _ ⟨_, _, F.1, T10.out.2.2.2.1, T10.out.2.2.2.2.1, F.2⟩⟩
    refine AllReadyJ.cons (o := { dst := some 29, op := Op.buildSlice 47 1 #[(0, Operand.tmp 28)], type := 47, pos := "ids.go:136", after := #[{ on := 13, ground := Ground.data }], guard := none }) rfl (fun K hK => ?_) AllReadyJ.nil
    go_simp
    refine hK.out _ _ (fun _ _ => (mid_cells (H.out.mid ((T0.out.alloc _).alloc _))).1) ?_
    clear hK K
    try simp only [Act.put, List.setIfInBounds_toArray, List.set_cons_zero, List.set_cons_succ]
    refine wpAnyJ_ready (rs := [8]) (by kernel_rfl) (by simp) ?_
    refine AllReadyJ.cons (o := { dst := some 23, op := Op.call { callee := Callee.builtin Builtin.append, args := #[Operand.tmp 20, Operand.tmp 22], argTypes := #[33, 33] }, type := 33, pos := "ids.go:136", after := #[{ on := 5, ground := Ground.data }, { on := 7, ground := Ground.data }], guard := none }) rfl (fun K hK => ?_) AllReadyJ.nil
    refine step_append_lies _ rfl (.tmp 20) (.tmp 22) 33 rfl 0 3 i3 (.int .i64 0) 1 8 Try.underlying33 hi3 hx0 hx1 hx2 rfl (by decide) (.slice aog gs.length cg) gs.length (ic gs) (by simp [Act.eval]) ((T0.out.alloc _).alloc _).1 ⟨w1.heap.size, 0, none⟩ 1 1 [.int .i64 (x : Int)] (by simp [Act.eval]) rfl (by intro j u hj; match j, hj with | 0, hj => simp at hj; subst hj; simp [Addr.add]) (by intro u hu; simp at hu; subst hu; rfl) (by omega) (by unfold maxLen; omega) (by omega) (Nat.zero_le _) _ rfl ?_; intro g9 c9 w9 ho9 hg9 ha9 _
    have T9 := hide (((T0.out.alloc _).alloc _).growG (x := x) ho9 hg9 ha9)
    have s0 : w9.cell? ⟨w1.heap.size + 1, 0, none⟩ = some (.int .i64 (gs.length : Int)) := hg9.cell (by simp) (fun e => by have := (HGL.out _ e.symm).2; first | omega | (simp at this <;> omega))
    have s1 : w9.cell? ⟨w1.heap.size + 1, 1, none⟩ = some (.int .i64 (x : Int)) := hg9.cell (by simp) (fun e => by have := (HGL.out _ e.symm).2; first | omega | (simp at this <;> omega))
    clear ho9 hg9 ha9
    refine hK.out _ _ (fun _ _ => (mid_cells (H.out.mid T9.out)).1) ?_
    clear hK K
    try simp only [Act.put, List.setIfInBounds_toArray, List.set_cons_zero, List.set_cons_succ]
    refine wpAnyJ_ready (rs := [15]) (by kernel_rfl) (by simp) ?_
    refine AllReadyJ.cons (o := { dst := some 30, op := Op.call { callee := Callee.builtin Builtin.append, args := #[Operand.tmp 27, Operand.tmp 29], argTypes := #[47, 47] }, type := 47, pos := "ids.go:136", after := #[{ on := 12, ground := Ground.data }, { on := 14, ground := Ground.data }, { on := 8, ground := Ground.chain }], guard := none }) rfl (fun K hK => ?_) AllReadyJ.nil
    refine step_append_lies _ rfl (.tmp 27) (.tmp 29) 47 rfl 0 41 i41 (.agg #[.int .i64 0, .int .i64 0]) 2 16 Try.underlying47 hi41 hy0 hy1 hy2 rfl (by decide) (.slice aol lv.length cl) lv.length (ec lv) (by simp [Act.eval]) T9.out.2.1 ⟨w1.heap.size + 1, 0, none⟩ 1 1 [.int .i64 (gs.length : Int), .int .i64 (x : Int)] (by simp [Act.eval]) rfl (by intro j u hj; match j, hj with | 0, hj => simp at hj; subst hj; simpa [Addr.add] using s0 | 1, hj => simp at hj; subst hj; simpa [Addr.add] using s1) (by intro u hu; simp at hu; rcases hu with rfl | rfl <;> rfl) (by omega) (by unfold maxLen; omega) (by omega) (Nat.zero_le _) _ rfl ?_; intro g8 c8 w8 ho8 hg8 ha8 _
    have T10 := hide (T9.out.growL (a := gs.length) (b := x) ho8 hg8 ha8)
    clear ho8 hg8 ha8
    refine hK.out _ _ (fun _ _ => (mid_cells (H.out.mid T10.out)).1) ?_
    clear hK K
    obtain ⟨⟨d1, d2⟩, y1, y2⟩ := mid_cells (H.out.mid T10.out)
    try simp only [Act.put, List.setIfInBounds_toArray, List.set_cons_zero, List.set_cons_succ]
    refine' wpAnyJ_takeW (i := 16) (oi := { dst := some 31, op := Op.nilCheck (Operand.tmp 15), type := 0, pos := "ids.go:136", after := #[{ on := 0, ground := Ground.data }, { on := 0, ground := Ground.phase }, { on := 1, ground := Ground.textOnly Departure.lateStores }, { on := 2, ground := Ground.phase }, { on := 3, ground := Ground.phase }, { on := 4, ground := Ground.phase }, { on := 5, ground := Ground.phase }, { on := 6, ground := Ground.phase }, { on := 7, ground := Ground.phase }, { on := 8, ground := Ground.phase }, { on := 9, ground := Ground.textOnly Departure.lateStores }, { on := 10, ground := Ground.textOnly Departure.lateStoresUnsure }, { on := 11, ground := Ground.textOnly Departure.lateStoresUnsure }, { on := 12, ground := Ground.phase }, { on := 13, ground := Ground.textOnly Departure.lateStores }, { on := 14, ground := Ground.textOnly Departure.lateStoresUnsure }, { on := 15, ground := Ground.phase }], guard := none }) (v := _) rfl (by kernel_rfl) (by kernel_rfl) (by kernel_rfl) (fun _ _ _ h => h) (Or.inl ⟨by rfl, ?hyA28⟩) ?reA28
    case hyA28 => (intro W hSw; (try dsimp only at hSw); go_simp; try with_reducible rfl)
    try simp only [Act.put, List.setIfInBounds_toArray, List.set_cons_zero, List.set_cons_succ]
    refine' wpAnyJ_takeW (i := 17) (oi := { dst := some 32, op := Op.fieldAddr 59 (Operand.tmp 31) 1, type := 0, pos := "ids.go:136", after := #[{ on := 16, ground := Ground.data }, { on := 0, ground := Ground.phase }, { on := 1, ground := Ground.textOnly Departure.lateStores }, { on := 2, ground := Ground.phase }, { on := 3, ground := Ground.phase }, { on := 4, ground := Ground.phase }, { on := 5, ground := Ground.phase }, { on := 6, ground := Ground.phase }, { on := 7, ground := Ground.phase }, { on := 8, ground := Ground.phase }, { on := 9, ground := Ground.textOnly Departure.lateStores }, { on := 10, ground := Ground.textOnly Departure.lateStoresUnsure }, { on := 11, ground := Ground.textOnly Departure.lateStoresUnsure }, { on := 12, ground := Ground.phase }, { on := 13, ground := Ground.textOnly Departure.lateStores }, { on := 14, ground := Ground.textOnly Departure.lateStoresUnsure }, { on := 15, ground := Ground.phase }], guard := none }) (v := _) rfl (by kernel_rfl) (by kernel_rfl) (by kernel_rfl) (fun _ _ _ h => h) (Or.inl ⟨by rfl, ?hyA29⟩) ?reA29
    case hyA29 => (intro W hSw; (try dsimp only at hSw); go_simp; try with_reducible rfl)
    try simp only [Act.put, List.setIfInBounds_toArray, List.set_cons_zero, List.set_cons_succ]
    refine wpAnyJ_ready (rs := [18]) (by kernel_rfl) (by simp) ?_
    refine AllReadyJ.cons (o := { dst := none, op := Op.store 33 (Operand.tmp 32) (Operand.tmp 23), type := 0, pos := "ids.go:136", after := #[{ on := 17, ground := Ground.data }, { on := 8, ground := Ground.data }, { on := 15, ground := Ground.chain }, { on := 0, ground := Ground.phase }, { on := 1, ground := Ground.textOnly Departure.lateStores }, { on := 2, ground := Ground.phase }, { on := 3, ground := Ground.phase }, { on := 4, ground := Ground.phase }, { on := 5, ground := Ground.phase }, { on := 6, ground := Ground.phase }, { on := 7, ground := Ground.phase }, { on := 8, ground := Ground.phase }, { on := 9, ground := Ground.textOnly Departure.lateStores }, { on := 10, ground := Ground.textOnly Departure.lateStoresUnsure }, { on := 11, ground := Ground.textOnly Departure.lateStoresUnsure }, { on := 12, ground := Ground.phase }, { on := 13, ground := Ground.textOnly Departure.lateStores }, { on := 14, ground := Ground.textOnly Departure.lateStoresUnsure }, { on := 15, ground := Ground.phase }], guard := none }) rfl (fun K hK => ?_) AllReadyJ.nil
    go_simp
    refine hK.out _ _ (fun h => absurd h (by decide)) ?_
    clear hK K
    try simp only [Act.put, List.setIfInBounds_toArray, List.set_cons_zero, List.set_cons_succ]
    refine' wpAnyJ_takeW (i := 19) (oi := { dst := some 33, op := Op.nilCheck (Operand.tmp 16), type := 0, pos := "ids.go:136", after := #[{ on := 1, ground := Ground.data }, { on := 0, ground := Ground.phase }, { on := 1, ground := Ground.phase }, { on := 2, ground := Ground.phase }, { on := 3, ground := Ground.phase }, { on := 4, ground := Ground.phase }, { on := 5, ground := Ground.phase }, { on := 6, ground := Ground.phase }, { on := 7, ground := Ground.phase }, { on := 8, ground := Ground.phase }, { on := 9, ground := Ground.phase }, { on := 10, ground := Ground.phase }, { on := 11, ground := Ground.phase }, { on := 12, ground := Ground.phase }, { on := 13, ground := Ground.phase }, { on := 14, ground := Ground.phase }, { on := 15, ground := Ground.phase }, { on := 16, ground := Ground.phase }, { on := 17, ground := Ground.phase }, { on := 18, ground := Ground.phase }], guard := none }) (v := _) rfl (by kernel_rfl) (by kernel_rfl) (by kernel_rfl) (fun _ _ _ h => h) (Or.inl ⟨by rfl, ?hyA30⟩) ?reA30
    case hyA30 => (intro W hSw; (try dsimp only at hSw); go_simp; try with_reducible rfl)
    try simp only [Act.put, List.setIfInBounds_toArray, List.set_cons_zero, List.set_cons_succ]
    refine' wpAnyJ_takeW (i := 20) (oi := { dst := some 34, op := Op.fieldAddr 59 (Operand.tmp 33) 2, type := 0, pos := "ids.go:136", after := #[{ on := 19, ground := Ground.data }, { on := 0, ground := Ground.phase }, { on := 1, ground := Ground.phase }, { on := 2, ground := Ground.phase }, { on := 3, ground := Ground.phase }, { on := 4, ground := Ground.phase }, { on := 5, ground := Ground.phase }, { on := 6, ground := Ground.phase }, { on := 7, ground := Ground.phase }, { on := 8, ground := Ground.phase }, { on := 9, ground := Ground.phase }, { on := 10, ground := Ground.phase }, { on := 11, ground := Ground.phase }, { on := 12, ground := Ground.phase }, { on := 13, ground := Ground.phase }, { on := 14, ground := Ground.phase }, { on := 15, ground := Ground.phase }, { on := 16, ground := Ground.phase }, { on := 17, ground := Ground.phase }, { on := 18, ground := Ground.phase }], guard := none }) (v := _) rfl (by kernel_rfl) (by kernel_rfl) (by kernel_rfl) (fun _ _ _ h => h) (Or.inl ⟨by rfl, ?hyA31⟩) ?reA31
    case hyA31 => (intro W hSw; (try dsimp only at hSw); go_simp; try with_reducible rfl)
    try simp only [Act.put, List.setIfInBounds_toArray, List.set_cons_zero, List.set_cons_succ]
    refine wpAnyJ_ready (rs := [21]) (by kernel_rfl) (by simp) ?_
    refine AllReadyJ.cons (o := { dst := none, op := Op.store 47 (Operand.tmp 34) (Operand.tmp 30), type := 0, pos := "ids.go:136", after := #[{ on := 20, ground := Ground.data }, { on := 15, ground := Ground.data }, { on := 18, ground := Ground.chain }, { on := 0, ground := Ground.phase }, { on := 1, ground := Ground.phase }, { on := 2, ground := Ground.phase }, { on := 3, ground := Ground.phase }, { on := 4, ground := Ground.phase }, { on := 5, ground := Ground.phase }, { on := 6, ground := Ground.phase }, { on := 7, ground := Ground.phase }, { on := 8, ground := Ground.phase }, { on := 9, ground := Ground.phase }, { on := 10, ground := Ground.phase }, { on := 11, ground := Ground.phase }, { on := 12, ground := Ground.phase }, { on := 13, ground := Ground.phase }, { on := 14, ground := Ground.phase }, { on := 15, ground := Ground.phase }, { on := 16, ground := Ground.phase }, { on := 17, ground := Ground.phase }, { on := 18, ground := Ground.phase }], guard := none }) rfl (fun K hK => ?_) AllReadyJ.nil
    go_simp
    refine hK.out _ _ (fun h => absurd h (by decide)) ?_
    clear hK K
    try simp only [Act.put, List.setIfInBounds_toArray, List.set_cons_zero, List.set_cons_succ]
    refine wpAnyJ_done (by kernel_rfl) ?_ _
    refine NoPanic.normal ?_
    go_wp2_with fail
    go_end0
    have F := H.out.fin T10.out
    exact ⟨rfl, CV.out _ ⟨_, _, F.1, T10.out.2.2.2.1, T10.out.2.2.2.2.1, F.2⟩⟩
  refine AllReadyJ.cons (o := { dst := some 29, op := Op.buildSlice 47 1 #[(0, Operand.tmp 28)], type := 47, pos := "ids.go:136", after := #[{ on := 13, ground := Ground.data }], guard := none }) rfl (fun K hK => ?_) AllReadyJ.nil
  go_simp
  refine hK.out _ _ (fun _ _ => (mid_cells (H.out.mid (T0.out.alloc _))).1) ?_
  clear hK K
  try simp only [Act.put, List.setIfInBounds_toArray, List.set_cons_zero, List.set_cons_succ]
  refine wpAnyJ_ready (rs := [7]) (by kernel_rfl) (by simp) ?_
  refine AllReadyJ.cons (o := { dst := some 22, op := Op.buildSlice 33 1 #[(0, Operand.tmp 21)], type := 33, pos := "ids.go:136", after := #[{ on := 6, ground := Ground.data }], guard := none }) rfl (fun K hK => ?_) AllReadyJ.nil
  go_simp
  refine hK.out _ _ (fun _ _ => (mid_cells (H.out.mid ((T0.out.alloc _).alloc _))).1) ?_
  clear hK K
  try simp only [Act.put, List.setIfInBounds_toArray, List.set_cons_zero, List.set_cons_succ]
  refine wpAnyJ_ready (rs := [8]) (by kernel_rfl) (by simp) ?_
  refine AllReadyJ.cons (o := { dst := some 23, op := Op.call { callee := Callee.builtin Builtin.append, args := #[Operand.tmp 20, Operand.tmp 22], argTypes := #[33, 33] }, type := 33, pos := "ids.go:136", after := #[{ on := 5, ground := Ground.data }, { on := 7, ground := Ground.data }], guard := none }) rfl (fun K hK => ?_) AllReadyJ.nil
  refine step_append_lies _ rfl (.tmp 20) (.tmp 22) 33 rfl 0 3 i3 (.int .i64 0) 1 8 Try.underlying33 hi3 hx0 hx1 hx2 rfl (by decide) (.slice aog gs.length cg) gs.length (ic gs) (by simp [Act.eval]) ((T0.out.alloc _).alloc _).1 ⟨w1.heap.size + 1, 0, none⟩ 1 1 [.int .i64 (x : Int)] (by simp [Act.eval]) rfl (by intro j u hj; match j, hj with | 0, hj => simp at hj; subst hj; simp [Addr.add]) (by intro u hu; simp at hu; subst hu; rfl) (by omega) (by unfold maxLen; omega) (by omega) (Nat.zero_le _) _ rfl ?_; intro g9 c9 w9 ho9 hg9 ha9 _
  have T9 := hide (((T0.out.alloc _).alloc _).growG (x := x) ho9 hg9 ha9)
  have s0 : w9.cell? ⟨w1.heap.size, 0, none⟩ = some (.int .i64 (gs.length : Int)) := hg9.cell (by simp) (fun e => by have := (HGL.out _ e.symm).2; first | omega | (simp at this <;> omega))
  have s1 : w9.cell? ⟨w1.heap.size, 1, none⟩ = some (.int .i64 (x : Int)) := hg9.cell (by simp) (fun e => by have := (HGL.out _ e.symm).2; first | omega | (simp at this <;> omega))
  clear ho9 hg9 ha9
  refine hK.out _ _ (fun _ _ => (mid_cells (H.out.mid T9.out)).1) ?_
  clear hK K
  try simp only [Act.put, List.setIfInBounds_toArray, List.set_cons_zero, List.set_cons_succ]
  refine wpAnyJ_ready (rs := [15]) (by kernel_rfl) (by simp) ?_
  refine AllReadyJ.cons (o := { dst := some 30, op := Op.call { callee := Callee.builtin Builtin.append, args := #[Operand.tmp 27, Operand.tmp 29], argTypes := #[47, 47] }, type := 47, pos := "ids.go:136", after := #[{ on := 12, ground := Ground.data }, { on := 14, ground := Ground.data }, { on := 8, ground := Ground.chain }], guard := none }) rfl (fun K hK => ?_) AllReadyJ.nil
  refine step_append_lies _ rfl (.tmp 27) (.tmp 29) 47 rfl 0 41 i41 (.agg #[.int .i64 0, .int .i64 0]) 2 16 Try.underlying47 hi41 hy0 hy1 hy2 rfl (by decide) (.slice aol lv.length cl) lv.length (ec lv) (by simp [Act.eval]) T9.out.2.1 ⟨w1.heap.size, 0, none⟩ 1 1 [.int .i64 (gs.length : Int), .int .i64 (x : Int)] (by simp [Act.eval]) rfl (by intro j u hj; match j, hj with | 0, hj => simp at hj; subst hj; simpa [Addr.add] using s0 | 1, hj => simp at hj; subst hj; simpa [Addr.add] using s1) (by intro u hu; simp at hu; rcases hu with rfl | rfl <;> rfl) (by omega) (by unfold maxLen; omega) (by omega) (Nat.zero_le _) _ rfl ?_; intro g8 c8 w8 ho8 hg8 ha8 _
  have T10 := hide (T9.out.growL (a := gs.length) (b := x) ho8 hg8 ha8)
  clear ho8 hg8 ha8
  refine hK.out _ _ (fun _ _ => (mid_cells (H.out.mid T10.out)).1) ?_
  clear hK K
  obtain ⟨⟨d1, d2⟩, y1, y2⟩ := mid_cells (H.out.mid T10.out)
  try simp only [Act.put, List.setIfInBounds_toArray, List.set_cons_zero, List.set_cons_succ]
  refine' wpAnyJ_takeW (i := 16) (oi := { dst := some 31, op := Op.nilCheck (Operand.tmp 15), type := 0, pos := "ids.go:136", after := #[{ on := 0, ground := Ground.data }, { on := 0, ground := Ground.phase }, { on := 1, ground := Ground.textOnly Departure.lateStores }, { on := 2, ground := Ground.phase }, { on := 3, ground := Ground.phase }, { on := 4, ground := Ground.phase }, { on := 5, ground := Ground.phase }, { on := 6, ground := Ground.phase }, { on := 7, ground := Ground.phase }, { on := 8, ground := Ground.phase }, { on := 9, ground := Ground.textOnly Departure.lateStores }, { on := 10, ground := Ground.textOnly Departure.lateStoresUnsure }, { on := 11, ground := Ground.textOnly Departure.lateStoresUnsure }, { on := 12, ground := Ground.phase }, { on := 13, ground := Ground.textOnly Departure.lateStores }, { on := 14, ground := Ground.textOnly Departure.lateStoresUnsure }, { on := 15, ground := Ground.phase }], guard := none }) (v := _) rfl (by kernel_rfl) (by kernel_rfl) (by kernel_rfl) (fun _ _ _ h => h) (Or.inl ⟨by rfl, ?hyA32⟩) ?reA32
  case hyA32 => (intro W hSw; (try dsimp only at hSw); go_simp; try with_reducible rfl)
  try simp only [Act.put, List.setIfInBounds_toArray, List.set_cons_zero, List.set_cons_succ]
  refine' wpAnyJ_takeW (i := 17) (oi := { dst := some 32, op := Op.fieldAddr 59 (Operand.tmp 31) 1, type := 0, pos := "ids.go:136", after := #[{ on := 16, ground := Ground.data }, { on := 0, ground := Ground.phase }, { on := 1, ground := Ground.textOnly Departure.lateStores }, { on := 2, ground := Ground.phase }, { on := 3, ground := Ground.phase }, { on := 4, ground := Ground.phase }, { on := 5, ground := Ground.phase }, { on := 6, ground := Ground.phase }, { on := 7, ground := Ground.phase }, { on := 8, ground := Ground.phase }, { on := 9, ground := Ground.textOnly Departure.lateStores }, { on := 10, ground := Ground.textOnly Departure.lateStoresUnsure }, { on := 11, ground := Ground.textOnly Departure.lateStoresUnsure }, { on := 12, ground := Ground.phase }, { on := 13, ground := Ground.textOnly Departure.lateStores }, { on := 14, ground := Ground.textOnly Departure.lateStoresUnsure }, { on := 15, ground := Ground.phase }], guard := none }) (v := _) rfl (by kernel_rfl) (by kernel_rfl) (by kernel_rfl) (fun _ _ _ h => h) (Or.inl ⟨by rfl, ?hyA33⟩) ?reA33
  case hyA33 => (intro W hSw; (try dsimp only at hSw); go_simp; try with_reducible rfl)
  try simp only [Act.put, List.setIfInBounds_toArray, List.set_cons_zero, List.set_cons_succ]
  refine wpAnyJ_ready (rs := [18]) (by kernel_rfl) (by simp) ?_
  refine AllReadyJ.cons (o := { dst := none, op := Op.store 33 (Operand.tmp 32) (Operand.tmp 23), type := 0, pos := "ids.go:136", after := #[{ on := 17, ground := Ground.data }, { on := 8, ground := Ground.data }, { on := 15, ground := Ground.chain }, { on := 0, ground := Ground.phase }, { on := 1, ground := Ground.textOnly Departure.lateStores }, { on := 2, ground := Ground.phase }, { on := 3, ground := Ground.phase }, { on := 4, ground := Ground.phase }, { on := 5, ground := Ground.phase }, { on := 6, ground := Ground.phase }, { on := 7, ground := Ground.phase }, { on := 8, ground := Ground.phase }, { on := 9, ground := Ground.textOnly Departure.lateStores }, { on := 10, ground := Ground.textOnly Departure.lateStoresUnsure }, { on := 11, ground := Ground.textOnly Departure.lateStoresUnsure }, { on := 12, ground := Ground.phase }, { on := 13, ground := Ground.textOnly Departure.lateStores }, { on := 14, ground := Ground.textOnly Departure.lateStoresUnsure }, { on := 15, ground := Ground.phase }], guard := none }) rfl (fun K hK => ?_) AllReadyJ.nil
  go_simp
  refine hK.out _ _ (fun h => absurd h (by decide)) ?_
  clear hK K
  try simp only [Act.put, List.setIfInBounds_toArray, List.set_cons_zero, List.set_cons_succ]
  refine' wpAnyJ_takeW (i := 19) (oi := { dst := some 33, op := Op.nilCheck (Operand.tmp 16), type := 0, pos := "ids.go:136", after := #[{ on := 1, ground := Ground.data }, { on := 0, ground := Ground.phase }, { on := 1, ground := Ground.phase }, { on := 2, ground := Ground.phase }, { on := 3, ground := Ground.phase }, { on := 4, ground := Ground.phase }, { on := 5, ground := Ground.phase }, { on := 6, ground := Ground.phase }, { on := 7, ground := Ground.phase }, { on := 8, ground := Ground.phase }, { on := 9, ground := Ground.phase }, { on := 10, ground := Ground.phase }, { on := 11, ground := Ground.phase }, { on := 12, ground := Ground.phase }, { on := 13, ground := Ground.phase }, { on := 14, ground := Ground.phase }, { on := 15, ground := Ground.phase }, { on := 16, ground := Ground.phase }, { on := 17, ground := Ground.phase }, { on := 18, ground := Ground.phase }], guard := none }) (v := _) rfl (by kernel_rfl) (by kernel_rfl) (by kernel_rfl) (fun _ _ _ h => h) (Or.inl ⟨by rfl, ?hyA34⟩) ?reA34
  case hyA34 => (intro W hSw; (try dsimp only at hSw); go_simp; try with_reducible rfl)
  try simp only [Act.put, List.setIfInBounds_toArray, List.set_cons_zero, List.set_cons_succ]
  refine' wpAnyJ_takeW (i := 20) (oi := { dst := some 34, op := Op.fieldAddr 59 (Operand.tmp 33) 2, type := 0, pos := "ids.go:136", after := #[{ on := 19, ground := Ground.data }, { on := 0, ground := Ground.phase }, { on := 1, ground := Ground.phase }, { on := 2, ground := Ground.phase }, { on := 3, ground := Ground.phase }, { on := 4, ground := Ground.phase }, { on := 5, ground := Ground.phase }, { on := 6, ground := Ground.phase }, { on := 7, ground := Ground.phase }, { on := 8, ground := Ground.phase }, { on := 9, ground := Ground.phase }, { on := 10, ground := Ground.phase }, { on := 11, ground := Ground.phase }, { on := 12, ground := Ground.phase }, { on := 13, ground := Ground.phase }, { on := 14, ground := Ground.phase }, { on := 15, ground := Ground.phase }, { on := 16, ground := Ground.phase }, { on := 17, ground := Ground.phase }, { on := 18, ground := Ground.phase }], guard := none }) (v := _) rfl (by kernel_rfl) (by kernel_rfl) (by kernel_rfl) (fun _ _ _ h => h) (Or.inl ⟨by rfl, ?hyA35⟩) ?reA35
  case hyA35 => (intro W hSw; (try dsimp only at hSw); go_simp; try with_reducible rfl)
  try simp only [Act.put, List.setIfInBounds_toArray, List.set_cons_zero, List.set_cons_succ]
  refine wpAnyJ_ready (rs := [21]) (by kernel_rfl) (by simp) ?_
  refine AllReadyJ.cons (o := { dst := none, op := Op.store 47 (Operand.tmp 34) (Operand.tmp 30), type := 0, pos := "ids.go:136", after := #[{ on := 20, ground := Ground.data }, { on := 15, ground := Ground.data }, { on := 18, ground := Ground.chain }, { on := 0, ground := Ground.phase }, { on := 1, ground := Ground.phase }, { on := 2, ground := Ground.phase }, { on := 3, ground := Ground.phase }, { on := 4, ground := Ground.phase }, { on := 5, ground := Ground.phase }, { on := 6, ground := Ground.phase }, { on := 7, ground := Ground.phase }, { on := 8, ground := Ground.phase }, { on := 9, ground := Ground.phase }, { on := 10, ground := Ground.phase }, { on := 11, ground := Ground.phase }, { on := 12, ground := Ground.phase }, { on := 13, ground := Ground.phase }, { on := 14, ground := Ground.phase }, { on := 15, ground := Ground.phase }, { on := 16, ground := Ground.phase }, { on := 17, ground := Ground.phase }, { on := 18, ground := Ground.phase }], guard := none }) rfl (fun K hK => ?_) AllReadyJ.nil
  go_simp
  refine hK.out _ _ (fun h => absurd h (by decide)) ?_
  clear hK K
  try simp only [Act.put, List.setIfInBounds_toArray, List.set_cons_zero, List.set_cons_succ]
  refine wpAnyJ_done (by kernel_rfl) ?_ _
  refine NoPanic.normal ?_
  go_wp2_with fail
  go_end0
  have F := H.out.fin T10.out
  exact ⟨rfl, CV.out _ ⟨_, _, F.1, T10.out.2.2.2.1, T10.out.2.2.2.2.1, F.2⟩⟩
set_option maxHeartbeats 8000000 in
set_option maxRecDepth 100000 in
theorem add_worn (g n x : Nat) (vg vl vf : Value) (gs fr : List Nat) (lv : List (Nat × Nat)) (w : World) (h : Pm w g n vg vl vf gs fr lv) (hx : x = 1000001) (hg : gs.length ≤ 1000000) (hl : lv.length ≤ 1000000) :
    Calls Try.prog 31 #[.pointer (some ⟨g, 0, none⟩), .int .i64 (x : Int)] w fun e w' => e = .returned (.tuple #[]) ∧ ∃ vg' vl', Pm w' g n vg' vl' vf (gs ++ [x]) fr (lv ++ [(0, 0)]) ∧ (∀ k, vg'.ownBlock = some k → vg.ownBlock = some k ∨ w.heap.size ≤ k) ∧ (∀ k, vl'.ownBlock = some k → vl.ownBlock = some k ∨ w.heap.size ≤ k) ∧ Mv w w' (fun k => k = g ∨ vg.ownBlock = some k ∨ vl.ownBlock = some k) := by
  obtain ⟨i3, hi3, hx0, hx1, hx2⟩ := info_parts info3
  obtain ⟨i41, hi41, hy0, hy1, hy2⟩ := info_parts info41
  obtain ⟨c0, c1, c2, c3⟩ := h.cell
  obtain ⟨aog, cg, rfl⟩ := own_len h.2.1
  obtain ⟨aol, cl, rfl⟩ := own_len h.2.2.1
  have t0 : ((x : Int) == 1000001) = true := by rw [hx]; rfl
  obtain ⟨w1, hw1⟩ : ∃ X, X = w.alloc (.cells #[.int .i64 0, .int .i64 0] 41) := ⟨_, rfl⟩
  have hbe : Below w.heap.size w w1 := hw1 ▸ below_alloc w _
  have h1 := h.later hbe
  have WH : Hid (∀ W, Mv w1 W (fun k => (Value.slice aog gs.length cg).ownBlock = some k ∨ (Value.slice aol lv.length cl).ownBlock = some k) → W.cell? ⟨w.heap.size, 0, none⟩ = some (.int .i64 0) ∧ W.cell? ⟨w.heap.size, 1, none⟩ = some (.int .i64 0)) := fun W hm => by
    have hn : ¬ ((Value.slice aog gs.length cg).ownBlock = some w.heap.size ∨ (Value.slice aol lv.length cl).ownBlock = some w.heap.size) := fun e => by
      rcases e with e | e
      · have := (h.2.1.lt _ e).2
        omega
      · have := (h.2.2.1.lt _ e).2
        omega
    exact ⟨hm.cell (by rw [hw1]; simp) hn, hm.cell (by rw [hw1]; simp) hn⟩
  have CV : Hid (∀ w' : World, (∃ vg' vl', Pm w' g n vg' vl' vf (gs ++ [x]) fr (lv ++ [(0, 0)]) ∧ (∀ k, vg'.ownBlock = some k → (Value.slice aog gs.length cg).ownBlock = some k ∨ w1.heap.size ≤ k) ∧ (∀ k, vl'.ownBlock = some k → (Value.slice aol lv.length cl).ownBlock = some k ∨ w1.heap.size ≤ k) ∧ Mv w1 w' (fun k => k = g ∨ (Value.slice aog gs.length cg).ownBlock = some k ∨ (Value.slice aol lv.length cl).ownBlock = some k)) → ∃ vg' vl', Pm w' g n vg' vl' vf (gs ++ [x]) fr (lv ++ [(0, 0)]) ∧ (∀ k, vg'.ownBlock = some k → (Value.slice aog gs.length cg).ownBlock = some k ∨ w.heap.size ≤ k) ∧ (∀ k, vl'.ownBlock = some k → (Value.slice aol lv.length cl).ownBlock = some k ∨ w.heap.size ≤ k) ∧ Mv w w' (fun k => k = g ∨ (Value.slice aog gs.length cg).ownBlock = some k ∨ (Value.slice aol lv.length cl).ownBlock = some k)) := fun w' ⟨vg', vl', p1, p2, p3, p4⟩ =>
    ⟨vg', vl', p1, fun k e => (p2 k e).imp id (fun h => Nat.le_trans hbe.size h), fun k e => (p3 k e).imp id (fun h => Nat.le_trans hbe.size h), (Mv.of_below hbe _).trans p4 (fun k _ e => e)⟩
  have u0 : ∀ o, (w1.alloc o).cell? ⟨w.heap.size, 0, none⟩ = some (.int .i64 0) := fun o => (WH.out _ (Mv.of_below (below_alloc w1 o) _)).1
  have u1 : ∀ o, (w1.alloc o).cell? ⟨w.heap.size, 1, none⟩ = some (.int .i64 0) := fun o => (WH.out _ (Mv.of_below (below_alloc w1 o) _)).2
  have T0 := hide (h1.two.later (below_drew w1))
  have HGL := hide h1.2.1.lt
  have H := hide h1
  clear h h1 hbe hx
  go_enter Try.func31, Try.ntmps31
  go_wp2_with fail
  skip
  rw [← hw1]
  clear hw1
  refine wp_region_noPanic ?_
  refine wp_region_late (J := fun i => i != 18 && i != 21) (S := fun W => W.cell? ⟨g, 1, none⟩ = some (.slice aog gs.length cg) ∧ W.cell? ⟨g, 2, none⟩ = some (.slice aol lv.length cl)) (by kernel_rfl) (mid_cells (H.out.mid T0.out)).1 (fun hHeld => ?_)
  refine' wpAnyJ_takeW (i := 0) (oi := { dst := some 15, op := Op.move (Operand.tmp 0), type := 25, pos := "ids.go:136", after := #[], guard := none }) (v := _) rfl (by kernel_rfl) (by kernel_rfl) (by kernel_rfl) (fun _ _ _ h => h) (Or.inl ⟨by rfl, ?hyA1⟩) ?reA1
  case hyA1 => (intro W hSw; (try dsimp only at hSw); go_simp; try with_reducible rfl)
  try simp only [Act.put, List.setIfInBounds_toArray, List.set_cons_zero, List.set_cons_succ]
  refine' wpAnyJ_takeW (i := 1) (oi := { dst := some 16, op := Op.move (Operand.tmp 0), type := 25, pos := "ids.go:136", after := #[{ on := 18, ground := Ground.gcOnly Departure.lateStores }], guard := none }) (v := _) rfl (by kernel_rfl) (by kernel_rfl) (by kernel_rfl) (fun _ _ _ h => h) (Or.inl ⟨by rfl, ?hyA2⟩) ?reA2
  case hyA2 => (intro W hSw; (try dsimp only at hSw); go_simp; try with_reducible rfl)
  try simp only [Act.put, List.setIfInBounds_toArray, List.set_cons_zero, List.set_cons_succ]
  refine' wpAnyJ_takeW (i := 2) (oi := { dst := some 17, op := Op.move (Operand.tmp 0), type := 25, pos := "ids.go:136", after := #[], guard := none }) (v := _) rfl (by kernel_rfl) (by kernel_rfl) (by kernel_rfl) (fun _ _ _ h => h) (Or.inl ⟨by rfl, ?hyA3⟩) ?reA3
  case hyA3 => (intro W hSw; (try dsimp only at hSw); go_simp; try with_reducible rfl)
  try simp only [Act.put, List.setIfInBounds_toArray, List.set_cons_zero, List.set_cons_succ]
  refine' wpAnyJ_takeW (i := 3) (oi := { dst := some 18, op := Op.nilCheck (Operand.tmp 17), type := 0, pos := "ids.go:136", after := #[{ on := 2, ground := Ground.data }], guard := none }) (v := _) rfl (by kernel_rfl) (by kernel_rfl) (by kernel_rfl) (fun _ _ _ h => h) (Or.inl ⟨by rfl, ?hyA4⟩) ?reA4
  case hyA4 => (intro W hSw; (try dsimp only at hSw); go_simp; try with_reducible rfl)
  try simp only [Act.put, List.setIfInBounds_toArray, List.set_cons_zero, List.set_cons_succ]
  refine' wpAnyJ_takeW (i := 4) (oi := { dst := some 19, op := Op.fieldAddr 59 (Operand.tmp 18) 1, type := 0, pos := "ids.go:136", after := #[{ on := 3, ground := Ground.data }], guard := none }) (v := _) rfl (by kernel_rfl) (by kernel_rfl) (by kernel_rfl) (fun _ _ _ h => h) (Or.inl ⟨by rfl, ?hyA5⟩) ?reA5
  case hyA5 => (intro W hSw; (try dsimp only at hSw); go_simp; try with_reducible rfl)
  try simp only [Act.put, List.setIfInBounds_toArray, List.set_cons_zero, List.set_cons_succ]
  refine' wpAnyJ_take (i := 5) (oi := { dst := some 20, op := Op.load 33 (Operand.tmp 19), type := 33, pos := "ids.go:136", after := #[{ on := 4, ground := Ground.data }], guard := none }) (v := _) rfl (by kernel_rfl) (by kernel_rfl) (by kernel_rfl) (by kernel_rfl) (fun _ _ _ h => h) (Or.inl ⟨by rfl, ?hyA6⟩) (by assumption) ?reA6
  case hyA6 => (intro W hSw; (try dsimp only at hSw); go_simp; try with_reducible rfl)
  try simp only [Act.put, List.setIfInBounds_toArray, List.set_cons_zero, List.set_cons_succ]
  refine' wpAnyJ_takeW (i := 6) (oi := { dst := some 21, op := Op.move (Operand.tmp 1), type := 3, pos := "ids.go:136", after := #[], guard := none }) (v := _) rfl (by kernel_rfl) (by kernel_rfl) (by kernel_rfl) (fun _ _ _ h => h) (Or.inl ⟨by rfl, ?hyA7⟩) ?reA7
  case hyA7 => (intro W hSw; (try dsimp only at hSw); go_simp; try with_reducible rfl)
  try simp only [Act.put, List.setIfInBounds_toArray, List.set_cons_zero, List.set_cons_succ]
  refine' wpAnyJ_takeW (i := 9) (oi := { dst := some 24, op := Op.move (Operand.tmp 0), type := 25, pos := "ids.go:136", after := #[], guard := none }) (v := _) rfl (by kernel_rfl) (by kernel_rfl) (by kernel_rfl) (fun _ _ _ h => h) (Or.inl ⟨by rfl, ?hyA8⟩) ?reA8
  case hyA8 => (intro W hSw; (try dsimp only at hSw); go_simp; try with_reducible rfl)
  try simp only [Act.put, List.setIfInBounds_toArray, List.set_cons_zero, List.set_cons_succ]
  refine' wpAnyJ_takeW (i := 10) (oi := { dst := some 25, op := Op.nilCheck (Operand.tmp 24), type := 0, pos := "ids.go:136", after := #[{ on := 9, ground := Ground.data }], guard := none }) (v := _) rfl (by kernel_rfl) (by kernel_rfl) (by kernel_rfl) (fun _ _ _ h => h) (Or.inl ⟨by rfl, ?hyA9⟩) ?reA9
  case hyA9 => (intro W hSw; (try dsimp only at hSw); go_simp; try with_reducible rfl)
  try simp only [Act.put, List.setIfInBounds_toArray, List.set_cons_zero, List.set_cons_succ]
  refine' wpAnyJ_takeW (i := 11) (oi := { dst := some 26, op := Op.fieldAddr 59 (Operand.tmp 25) 2, type := 0, pos := "ids.go:136", after := #[{ on := 10, ground := Ground.data }], guard := none }) (v := _) rfl (by kernel_rfl) (by kernel_rfl) (by kernel_rfl) (fun _ _ _ h => h) (Or.inl ⟨by rfl, ?hyA10⟩) ?reA10
  case hyA10 => (intro W hSw; (try dsimp only at hSw); go_simp; try with_reducible rfl)
  try simp only [Act.put, List.setIfInBounds_toArray, List.set_cons_zero, List.set_cons_succ]
  refine' wpAnyJ_take (i := 12) (oi := { dst := some 27, op := Op.load 47 (Operand.tmp 26), type := 47, pos := "ids.go:136", after := #[{ on := 11, ground := Ground.data }], guard := none }) (v := _) rfl (by kernel_rfl) (by kernel_rfl) (by kernel_rfl) (by kernel_rfl) (fun _ _ _ h => h) (Or.inl ⟨by rfl, ?hyA11⟩) (by assumption) ?reA11
  case hyA11 => (intro W hSw; (try dsimp only at hSw); go_simp; try with_reducible rfl)
  try simp only [Act.put, List.setIfInBounds_toArray, List.set_cons_zero, List.set_cons_succ]
  refine wpAnyJ_ready (rs := [7, 13]) (by kernel_rfl) (by simp) ?_
  refine AllReadyJ.cons (o := { dst := some 22, op := Op.buildSlice 33 1 #[(0, Operand.tmp 21)], type := 33, pos := "ids.go:136", after := #[{ on := 6, ground := Ground.data }], guard := none }) rfl (fun K hK => ?_) ?_
  · go_simp
    refine hK.out _ _ (fun _ _ => (mid_cells (H.out.mid (T0.out.alloc _))).1) ?_
    clear hK K
    try simp only [Act.put, List.setIfInBounds_toArray, List.set_cons_zero, List.set_cons_succ]
    refine wpAnyJ_ready (rs := [8, 13]) (by kernel_rfl) (by simp) ?_
    refine AllReadyJ.cons (o := { dst := some 23, op := Op.call { callee := Callee.builtin Builtin.append, args := #[Operand.tmp 20, Operand.tmp 22], argTypes := #[33, 33] }, type := 33, pos := "ids.go:136", after := #[{ on := 5, ground := Ground.data }, { on := 7, ground := Ground.data }], guard := none }) rfl (fun K hK => ?_) ?_
    · refine step_append_lies _ rfl (.tmp 20) (.tmp 22) 33 rfl 0 3 i3 (.int .i64 0) 1 8 Try.underlying33 hi3 hx0 hx1 hx2 rfl (by decide) (.slice aog gs.length cg) gs.length (ic gs) (by simp [Act.eval]) (T0.out.alloc _).1 ⟨w1.heap.size, 0, none⟩ 1 1 [.int .i64 (x : Int)] (by simp [Act.eval]) rfl (by intro j u hj; match j, hj with | 0, hj => simp at hj; subst hj; simp [Addr.add]) (by intro u hu; simp at hu; subst hu; rfl) (by omega) (by unfold maxLen; omega) (by omega) (Nat.zero_le _) _ rfl ?_; intro g9 c9 w9 ho9 hg9 ha9 _
      have T9 := hide ((T0.out.alloc _).growG (x := x) ho9 hg9 ha9)
      clear ho9 hg9 ha9
      refine hK.out _ _ (fun _ _ => (mid_cells (H.out.mid T9.out)).1) ?_
      clear hK K
      try simp only [Act.put, List.setIfInBounds_toArray, List.set_cons_zero, List.set_cons_succ]
      refine wpAnyJ_ready (rs := [13]) (by kernel_rfl) (by simp) ?_
      refine AllReadyJ.cons (o := { dst := some 28, op := Op.load 41 (Operand.tmp 4), type := 41, pos := "ids.go:136", after := #[], guard := none }) rfl (fun K hK => ?_) AllReadyJ.nil
      obtain ⟨q0, q1⟩ := WH.out _ T9.out.2.2.2.2.2
      go_simp
      refine hK.out _ _ (fun _ h => h) ?_
      clear hK K q0 q1
      try simp only [Act.put, List.setIfInBounds_toArray, List.set_cons_zero, List.set_cons_succ]
      refine wpAnyJ_ready (rs := [14]) (by kernel_rfl) (by simp) ?_
      refine AllReadyJ.cons (o := { dst := some 29, op := Op.buildSlice 47 1 #[(0, Operand.tmp 28)], type := 47, pos := "ids.go:136", after := #[{ on := 13, ground := Ground.data }], guard := none }) rfl (fun K hK => ?_) AllReadyJ.nil
      go_simp
      refine hK.out _ _ (fun _ _ => (mid_cells (H.out.mid (T9.out.alloc _))).1) ?_
      clear hK K
      try simp only [Act.put, List.setIfInBounds_toArray, List.set_cons_zero, List.set_cons_succ]
      refine wpAnyJ_ready (rs := [15]) (by kernel_rfl) (by simp) ?_
      refine AllReadyJ.cons (o := { dst := some 30, op := Op.call { callee := Callee.builtin Builtin.append, args := #[Operand.tmp 27, Operand.tmp 29], argTypes := #[47, 47] }, type := 47, pos := "ids.go:136", after := #[{ on := 12, ground := Ground.data }, { on := 14, ground := Ground.data }, { on := 8, ground := Ground.chain }], guard := none }) rfl (fun K hK => ?_) AllReadyJ.nil
      refine step_append_lies _ rfl (.tmp 27) (.tmp 29) 47 rfl 0 41 i41 (.agg #[.int .i64 0, .int .i64 0]) 2 16 Try.underlying47 hi41 hy0 hy1 hy2 rfl (by decide) (.slice aol lv.length cl) lv.length (ec lv) (by simp [Act.eval]) (T9.out.alloc _).2.1 ⟨w9.heap.size, 0, none⟩ 1 1 [.int .i64 0, .int .i64 0] (by simp [Act.eval]) rfl (by intro j u hj; match j, hj with | 0, hj => simp at hj; subst hj; simp [Addr.add] | 1, hj => simp at hj; subst hj; simp [Addr.add]) (by intro u hu; simp at hu; subst hu; rfl) (by omega) (by unfold maxLen; omega) (by omega) (Nat.zero_le _) _ rfl ?_; intro g8 c8 w8 ho8 hg8 ha8 _
      have T10 := hide ((T9.out.alloc _).growL (a := 0) (b := 0) ho8 hg8 ha8)
      clear ho8 hg8 ha8
      refine hK.out _ _ (fun _ _ => (mid_cells (H.out.mid T10.out)).1) ?_
      clear hK K
      obtain ⟨⟨d1, d2⟩, y1, y2⟩ := mid_cells (H.out.mid T10.out)
      try simp only [Act.put, List.setIfInBounds_toArray, List.set_cons_zero, List.set_cons_succ]
      refine' wpAnyJ_takeW (i := 16) (oi := { dst := some 31, op := Op.nilCheck (Operand.tmp 15), type := 0, pos := "ids.go:136", after := #[{ on := 0, ground := Ground.data }, { on := 0, ground := Ground.phase }, { on := 1, ground := Ground.textOnly Departure.lateStores }, { on := 2, ground := Ground.phase }, { on := 3, ground := Ground.phase }, { on := 4, ground := Ground.phase }, { on := 5, ground := Ground.phase }, { on := 6, ground := Ground.phase }, { on := 7, ground := Ground.phase }, { on := 8, ground := Ground.phase }, { on := 9, ground := Ground.textOnly Departure.lateStores }, { on := 10, ground := Ground.textOnly Departure.lateStoresUnsure }, { on := 11, ground := Ground.textOnly Departure.lateStoresUnsure }, { on := 12, ground := Ground.phase }, { on := 13, ground := Ground.textOnly Departure.lateStores }, { on := 14, ground := Ground.textOnly Departure.lateStoresUnsure }, { on := 15, ground := Ground.phase }], guard := none }) (v := _) rfl (by kernel_rfl) (by kernel_rfl) (by kernel_rfl) (fun _ _ _ h => h) (Or.inl ⟨by rfl, ?hyA12⟩) ?reA12
      case hyA12 => (intro W hSw; (try dsimp only at hSw); go_simp; try with_reducible rfl)
      try simp only [Act.put, List.setIfInBounds_toArray, List.set_cons_zero, List.set_cons_succ]
      refine' wpAnyJ_takeW (i := 17) (oi := { dst := some 32, op := Op.fieldAddr 59 (Operand.tmp 31) 1, type := 0, pos := "ids.go:136", after := #[{ on := 16, ground := Ground.data }, { on := 0, ground := Ground.phase }, { on := 1, ground := Ground.textOnly Departure.lateStores }, { on := 2, ground := Ground.phase }, { on := 3, ground := Ground.phase }, { on := 4, ground := Ground.phase }, { on := 5, ground := Ground.phase }, { on := 6, ground := Ground.phase }, { on := 7, ground := Ground.phase }, { on := 8, ground := Ground.phase }, { on := 9, ground := Ground.textOnly Departure.lateStores }, { on := 10, ground := Ground.textOnly Departure.lateStoresUnsure }, { on := 11, ground := Ground.textOnly Departure.lateStoresUnsure }, { on := 12, ground := Ground.phase }, { on := 13, ground := Ground.textOnly Departure.lateStores }, { on := 14, ground := Ground.textOnly Departure.lateStoresUnsure }, { on := 15, ground := Ground.phase }], guard := none }) (v := _) rfl (by kernel_rfl) (by kernel_rfl) (by kernel_rfl) (fun _ _ _ h => h) (Or.inl ⟨by rfl, ?hyA13⟩) ?reA13
      case hyA13 => (intro W hSw; (try dsimp only at hSw); go_simp; try with_reducible rfl)
      try simp only [Act.put, List.setIfInBounds_toArray, List.set_cons_zero, List.set_cons_succ]
      refine wpAnyJ_ready (rs := [18]) (by kernel_rfl) (by simp) ?_
      refine AllReadyJ.cons (o := { dst := none, op := Op.store 33 (Operand.tmp 32) (Operand.tmp 23), type := 0, pos := "ids.go:136", after := #[{ on := 17, ground := Ground.data }, { on := 8, ground := Ground.data }, { on := 15, ground := Ground.chain }, { on := 0, ground := Ground.phase }, { on := 1, ground := Ground.textOnly Departure.lateStores }, { on := 2, ground := Ground.phase }, { on := 3, ground := Ground.phase }, { on := 4, ground := Ground.phase }, { on := 5, ground := Ground.phase }, { on := 6, ground := Ground.phase }, { on := 7, ground := Ground.phase }, { on := 8, ground := Ground.phase }, { on := 9, ground := Ground.textOnly Departure.lateStores }, { on := 10, ground := Ground.textOnly Departure.lateStoresUnsure }, { on := 11, ground := Ground.textOnly Departure.lateStoresUnsure }, { on := 12, ground := Ground.phase }, { on := 13, ground := Ground.textOnly Departure.lateStores }, { on := 14, ground := Ground.textOnly Departure.lateStoresUnsure }, { on := 15, ground := Ground.phase }], guard := none }) rfl (fun K hK => ?_) AllReadyJ.nil
      go_simp
      refine hK.out _ _ (fun h => absurd h (by decide)) ?_
      clear hK K
      try simp only [Act.put, List.setIfInBounds_toArray, List.set_cons_zero, List.set_cons_succ]
      refine' wpAnyJ_takeW (i := 19) (oi := { dst := some 33, op := Op.nilCheck (Operand.tmp 16), type := 0, pos := "ids.go:136", after := #[{ on := 1, ground := Ground.data }, { on := 0, ground := Ground.phase }, { on := 1, ground := Ground.phase }, { on := 2, ground := Ground.phase }, { on := 3, ground := Ground.phase }, { on := 4, ground := Ground.phase }, { on := 5, ground := Ground.phase }, { on := 6, ground := Ground.phase }, { on := 7, ground := Ground.phase }, { on := 8, ground := Ground.phase }, { on := 9, ground := Ground.phase }, { on := 10, ground := Ground.phase }, { on := 11, ground := Ground.phase }, { on := 12, ground := Ground.phase }, { on := 13, ground := Ground.phase }, { on := 14, ground := Ground.phase }, { on := 15, ground := Ground.phase }, { on := 16, ground := Ground.phase }, { on := 17, ground := Ground.phase }, { on := 18, ground := Ground.phase }], guard := none }) (v := _) rfl (by kernel_rfl) (by kernel_rfl) (by kernel_rfl) (fun _ _ _ h => h) (Or.inl ⟨by rfl, ?hyA14⟩) ?reA14
      case hyA14 => (intro W hSw; (try dsimp only at hSw); go_simp; try with_reducible rfl)
      try simp only [Act.put, List.setIfInBounds_toArray, List.set_cons_zero, List.set_cons_succ]
      refine' wpAnyJ_takeW (i := 20) (oi := { dst := some 34, op := Op.fieldAddr 59 (Operand.tmp 33) 2, type := 0, pos := "ids.go:136", after := #[{ on := 19, ground := Ground.data }, { on := 0, ground := Ground.phase }, { on := 1, ground := Ground.phase }, { on := 2, ground := Ground.phase }, { on := 3, ground := Ground.phase }, { on := 4, ground := Ground.phase }, { on := 5, ground := Ground.phase }, { on := 6, ground := Ground.phase }, { on := 7, ground := Ground.phase }, { on := 8, ground := Ground.phase }, { on := 9, ground := Ground.phase }, { on := 10, ground := Ground.phase }, { on := 11, ground := Ground.phase }, { on := 12, ground := Ground.phase }, { on := 13, ground := Ground.phase }, { on := 14, ground := Ground.phase }, { on := 15, ground := Ground.phase }, { on := 16, ground := Ground.phase }, { on := 17, ground := Ground.phase }, { on := 18, ground := Ground.phase }], guard := none }) (v := _) rfl (by kernel_rfl) (by kernel_rfl) (by kernel_rfl) (fun _ _ _ h => h) (Or.inl ⟨by rfl, ?hyA15⟩) ?reA15
      case hyA15 => (intro W hSw; (try dsimp only at hSw); go_simp; try with_reducible rfl)
      try simp only [Act.put, List.setIfInBounds_toArray, List.set_cons_zero, List.set_cons_succ]
      refine wpAnyJ_ready (rs := [21]) (by kernel_rfl) (by simp) ?_
      refine AllReadyJ.cons (o := { dst := none, op := Op.store 47 (Operand.tmp 34) (Operand.tmp 30), type := 0, pos := "ids.go:136", after := #[{ on := 20, ground := Ground.data }, { on := 15, ground := Ground.data }, { on := 18, ground := Ground.chain }, { on := 0, ground := Ground.phase }, { on := 1, ground := Ground.phase }, { on := 2, ground := Ground.phase }, { on := 3, ground := Ground.phase }, { on := 4, ground := Ground.phase }, { on := 5, ground := Ground.phase }, { on := 6, ground := Ground.phase }, { on := 7, ground := Ground.phase }, { on := 8, ground := Ground.phase }, { on := 9, ground := Ground.phase }, { on := 10, ground := Ground.phase }, { on := 11, ground := Ground.phase }, { on := 12, ground := Ground.phase }, { on := 13, ground := Ground.phase }, { on := 14, ground := Ground.phase }, { on := 15, ground := Ground.phase }, { on := 16, ground := Ground.phase }, { on := 17, ground := Ground.phase }, { on := 18, ground := Ground.phase }], guard := none }) rfl (fun K hK => ?_) AllReadyJ.nil
      go_simp
      refine hK.out _ _ (fun h => absurd h (by decide)) ?_
      clear hK K
      try simp only [Act.put, List.setIfInBounds_toArray, List.set_cons_zero, List.set_cons_succ]
      refine wpAnyJ_done (by kernel_rfl) ?_ _
      refine NoPanic.normal ?_
      go_wp2_with fail
      go_end0
      have F := H.out.fin T10.out
      exact ⟨rfl, CV.out _ ⟨_, _, F.1, T10.out.2.2.2.1, T10.out.2.2.2.2.1, F.2⟩⟩
    refine AllReadyJ.cons (o := { dst := some 28, op := Op.load 41 (Operand.tmp 4), type := 41, pos := "ids.go:136", after := #[], guard := none }) rfl (fun K hK => ?_) AllReadyJ.nil
    go_simp
    refine hK.out _ _ (fun _ h => h) ?_
    clear hK K
    try simp only [Act.put, List.setIfInBounds_toArray, List.set_cons_zero, List.set_cons_succ]
    refine wpAnyJ_ready (rs := [8, 14]) (by kernel_rfl) (by simp) ?_
    refine AllReadyJ.cons (o := { dst := some 23, op := Op.call { callee := Callee.builtin Builtin.append, args := #[Operand.tmp 20, Operand.tmp 22], argTypes := #[33, 33] }, type := 33, pos := "ids.go:136", after := #[{ on := 5, ground := Ground.data }, { on := 7, ground := Ground.data }], guard := none }) rfl (fun K hK => ?_) ?_
    · refine step_append_lies _ rfl (.tmp 20) (.tmp 22) 33 rfl 0 3 i3 (.int .i64 0) 1 8 Try.underlying33 hi3 hx0 hx1 hx2 rfl (by decide) (.slice aog gs.length cg) gs.length (ic gs) (by simp [Act.eval]) (T0.out.alloc _).1 ⟨w1.heap.size, 0, none⟩ 1 1 [.int .i64 (x : Int)] (by simp [Act.eval]) rfl (by intro j u hj; match j, hj with | 0, hj => simp at hj; subst hj; simp [Addr.add]) (by intro u hu; simp at hu; subst hu; rfl) (by omega) (by unfold maxLen; omega) (by omega) (Nat.zero_le _) _ rfl ?_; intro g9 c9 w9 ho9 hg9 ha9 _
      have T9 := hide ((T0.out.alloc _).growG (x := x) ho9 hg9 ha9)
      clear ho9 hg9 ha9
      refine hK.out _ _ (fun _ _ => (mid_cells (H.out.mid T9.out)).1) ?_
      clear hK K
      try simp only [Act.put, List.setIfInBounds_toArray, List.set_cons_zero, List.set_cons_succ]
      refine wpAnyJ_ready (rs := [14]) (by kernel_rfl) (by simp) ?_
      refine AllReadyJ.cons (o := { dst := some 29, op := Op.buildSlice 47 1 #[(0, Operand.tmp 28)], type := 47, pos := "ids.go:136", after := #[{ on := 13, ground := Ground.data }], guard := none }) rfl (fun K hK => ?_) AllReadyJ.nil
      go_simp
      refine hK.out _ _ (fun _ _ => (mid_cells (H.out.mid (T9.out.alloc _))).1) ?_
      clear hK K
      try simp only [Act.put, List.setIfInBounds_toArray, List.set_cons_zero, List.set_cons_succ]
      refine wpAnyJ_ready (rs := [15]) (by kernel_rfl) (by simp) ?_
      refine AllReadyJ.cons (o := { dst := some 30, op := Op.call { callee := Callee.builtin Builtin.append, args := #[Operand.tmp 27, Operand.tmp 29], argTypes := #[47, 47] }, type := 47, pos := "ids.go:136", after := #[{ on := 12, ground := Ground.data }, { on := 14, ground := Ground.data }, { on := 8, ground := Ground.chain }], guard := none }) rfl (fun K hK => ?_) AllReadyJ.nil
      refine step_append_lies _ rfl (.tmp 27) (.tmp 29) 47 rfl 0 41 i41 (.agg #[.int .i64 0, .int .i64 0]) 2 16 Try.underlying47 hi41 hy0 hy1 hy2 rfl (by decide) (.slice aol lv.length cl) lv.length (ec lv) (by simp [Act.eval]) (T9.out.alloc _).2.1 ⟨w9.heap.size, 0, none⟩ 1 1 [.int .i64 0, .int .i64 0] (by simp [Act.eval]) rfl (by intro j u hj; match j, hj with | 0, hj => simp at hj; subst hj; simp [Addr.add] | 1, hj => simp at hj; subst hj; simp [Addr.add]) (by intro u hu; simp at hu; subst hu; rfl) (by omega) (by unfold maxLen; omega) (by omega) (Nat.zero_le _) _ rfl ?_; intro g8 c8 w8 ho8 hg8 ha8 _
      have T10 := hide ((T9.out.alloc _).growL (a := 0) (b := 0) ho8 hg8 ha8)
      clear ho8 hg8 ha8
      refine hK.out _ _ (fun _ _ => (mid_cells (H.out.mid T10.out)).1) ?_
      clear hK K
      obtain ⟨⟨d1, d2⟩, y1, y2⟩ := mid_cells (H.out.mid T10.out)
      try simp only [Act.put, List.setIfInBounds_toArray, List.set_cons_zero, List.set_cons_succ]
      refine' wpAnyJ_takeW (i := 16) (oi := { dst := some 31, op := Op.nilCheck (Operand.tmp 15), type := 0, pos := "ids.go:136", after := #[{ on := 0, ground := Ground.data }, { on := 0, ground := Ground.phase }, { on := 1, ground := Ground.textOnly Departure.lateStores }, { on := 2, ground := Ground.phase }, { on := 3, ground := Ground.phase }, { on := 4, ground := Ground.phase }, { on := 5, ground := Ground.phase }, { on := 6, ground := Ground.phase }, { on := 7, ground := Ground.phase }, { on := 8, ground := Ground.phase }, { on := 9, ground := Ground.textOnly Departure.lateStores }, { on := 10, ground := Ground.textOnly Departure.lateStoresUnsure }, { on := 11, ground := Ground.textOnly Departure.lateStoresUnsure }, { on := 12, ground := Ground.phase }, { on := 13, ground := Ground.textOnly Departure.lateStores }, { on := 14, ground := Ground.textOnly Departure.lateStoresUnsure }, { on := 15, ground := Ground.phase }], guard := none }) (v := _) rfl (by kernel_rfl) (by kernel_rfl) (by kernel_rfl) (fun _ _ _ h => h) (Or.inl ⟨by rfl, ?hyA16⟩) ?reA16
      case hyA16 => (intro W hSw; (try dsimp only at hSw); go_simp; try with_reducible rfl)
      try simp only [Act.put, List.setIfInBounds_toArray, List.set_cons_zero, List.set_cons_succ]
      refine' wpAnyJ_takeW (i := 17) (oi := { dst := some 32, op := Op.fieldAddr 59 (Operand.tmp 31) 1, type := 0, pos := "ids.go:136", after := #[{ on := 16, ground := Ground.data }, { on := 0, ground := Ground.phase }, { on := 1, ground := Ground.textOnly Departure.lateStores }, { on := 2, ground := Ground.phase }, { on := 3, ground := Ground.phase }, { on := 4, ground := Ground.phase }, { on := 5, ground := Ground.phase }, { on := 6, ground := Ground.phase }, { on := 7, ground := Ground.phase }, { on := 8, ground := Ground.phase }, { on := 9, ground := Ground.textOnly Departure.lateStores }, { on := 10, ground := Ground.textOnly Departure.lateStoresUnsure }, { on := 11, ground := Ground.textOnly Departure.lateStoresUnsure }, { on := 12, ground := Ground.phase }, { on := 13, ground := Ground.textOnly Departure.lateStores }, { on := 14, ground := Ground.textOnly Departure.lateStoresUnsure }, { on := 15, ground := Ground.phase }], guard := none }) (v := _) rfl (by kernel_rfl) (by kernel_rfl) (by kernel_rfl) (fun _ _ _ h => h) (Or.inl ⟨by rfl, ?hyA17⟩) ?reA17
      case hyA17 => (intro W hSw; (try dsimp only at hSw); go_simp; try with_reducible rfl)
      try simp only [Act.put, List.setIfInBounds_toArray, List.set_cons_zero, List.set_cons_succ]
      refine wpAnyJ_ready (rs := [18]) (by kernel_rfl) (by simp) ?_
      refine AllReadyJ.cons (o := { dst := none, op := Op.store 33 (Operand.tmp 32) (Operand.tmp 23), type := 0, pos := "ids.go:136", after := #[{ on := 17, ground := Ground.data }, { on := 8, ground := Ground.data }, { on := 15, ground := Ground.chain }, { on := 0, ground := Ground.phase }, { on := 1, ground := Ground.textOnly Departure.lateStores }, { on := 2, ground := Ground.phase }, { on := 3, ground := Ground.phase }, { on := 4, ground := Ground.phase }, { on := 5, ground := Ground.phase }, { on := 6, ground := Ground.phase }, { on := 7, ground := Ground.phase }, { on := 8, ground := Ground.phase }, { on := 9, ground := Ground.textOnly Departure.lateStores }, { on := 10, ground := Ground.textOnly Departure.lateStoresUnsure }, { on := 11, ground := Ground.textOnly Departure.lateStoresUnsure }, { on := 12, ground := Ground.phase }, { on := 13, ground := Ground.textOnly Departure.lateStores }, { on := 14, ground := Ground.textOnly Departure.lateStoresUnsure }, { on := 15, ground := Ground.phase }], guard := none }) rfl (fun K hK => ?_) AllReadyJ.nil
      go_simp
      refine hK.out _ _ (fun h => absurd h (by decide)) ?_
      clear hK K
      try simp only [Act.put, List.setIfInBounds_toArray, List.set_cons_zero, List.set_cons_succ]
      refine' wpAnyJ_takeW (i := 19) (oi := { dst := some 33, op := Op.nilCheck (Operand.tmp 16), type := 0, pos := "ids.go:136", after := #[{ on := 1, ground := Ground.data }, { on := 0, ground := Ground.phase }, { on := 1, ground := Ground.phase }, { on := 2, ground := Ground.phase }, { on := 3, ground := Ground.phase }, { on := 4, ground := Ground.phase }, { on := 5, ground := Ground.phase }, { on := 6, ground := Ground.phase }, { on := 7, ground := Ground.phase }, { on := 8, ground := Ground.phase }, { on := 9, ground := Ground.phase }, { on := 10, ground := Ground.phase }, { on := 11, ground := Ground.phase }, { on := 12, ground := Ground.phase }, { on := 13, ground := Ground.phase }, { on := 14, ground := Ground.phase }, { on := 15, ground := Ground.phase }, { on := 16, ground := Ground.phase }, { on := 17, ground := Ground.phase }, { on := 18, ground := Ground.phase }], guard := none }) (v := _) rfl (by kernel_rfl) (by kernel_rfl) (by kernel_rfl) (fun _ _ _ h => h) (Or.inl ⟨by rfl, ?hyA18⟩) ?reA18
      case hyA18 => (intro W hSw; (try dsimp only at hSw); go_simp; try with_reducible rfl)
      try simp only [Act.put, List.setIfInBounds_toArray, List.set_cons_zero, List.set_cons_succ]
      refine' wpAnyJ_takeW (i := 20) (oi := { dst := some 34, op := Op.fieldAddr 59 (Operand.tmp 33) 2, type := 0, pos := "ids.go:136", after := #[{ on := 19, ground := Ground.data }, { on := 0, ground := Ground.phase }, { on := 1, ground := Ground.phase }, { on := 2, ground := Ground.phase }, { on := 3, ground := Ground.phase }, { on := 4, ground := Ground.phase }, { on := 5, ground := Ground.phase }, { on := 6, ground := Ground.phase }, { on := 7, ground := Ground.phase }, { on := 8, ground := Ground.phase }, { on := 9, ground := Ground.phase }, { on := 10, ground := Ground.phase }, { on := 11, ground := Ground.phase }, { on := 12, ground := Ground.phase }, { on := 13, ground := Ground.phase }, { on := 14, ground := Ground.phase }, { on := 15, ground := Ground.phase }, { on := 16, ground := Ground.phase }, { on := 17, ground := Ground.phase }, { on := 18, ground := Ground.phase }], guard := none }) (v := _) rfl (by kernel_rfl) (by kernel_rfl) (by kernel_rfl) (fun _ _ _ h => h) (Or.inl ⟨by rfl, ?hyA19⟩) ?reA19
      case hyA19 => (intro W hSw; (try dsimp only at hSw); go_simp; try with_reducible rfl)
      try simp only [Act.put, List.setIfInBounds_toArray, List.set_cons_zero, List.set_cons_succ]
      refine wpAnyJ_ready (rs := [21]) (by kernel_rfl) (by simp) ?_
      refine AllReadyJ.cons (o := { dst := none, op := Op.store 47 (Operand.tmp 34) (Operand.tmp 30), type := 0, pos := "ids.go:136", after := #[{ on := 20, ground := Ground.data }, { on := 15, ground := Ground.data }, { on := 18, ground := Ground.chain }, { on := 0, ground := Ground.phase }, { on := 1, ground := Ground.phase }, { on := 2, ground := Ground.phase }, { on := 3, ground := Ground.phase }, { on := 4, ground := Ground.phase }, { on := 5, ground := Ground.phase }, { on := 6, ground := Ground.phase }, { on := 7, ground := Ground.phase }, { on := 8, ground := Ground.phase }, { on := 9, ground := Ground.phase }, { on := 10, ground := Ground.phase }, { on := 11, ground := Ground.phase }, { on := 12, ground := Ground.phase }, { on := 13, ground := Ground.phase }, { on := 14, ground := Ground.phase }, { on := 15, ground := Ground.phase }, { on := 16, ground := Ground.phase }, { on := 17, ground := Ground.phase }, { on := 18, ground := Ground.phase }], guard := none }) rfl (fun K hK => ?_) AllReadyJ.nil
      go_simp
      refine hK.out _ _ (fun h => absurd h (by decide)) ?_
      clear hK K
      try simp only [Act.put, List.setIfInBounds_toArray, List.set_cons_zero, List.set_cons_succ]
      refine wpAnyJ_done (by kernel_rfl) ?_ _
      refine NoPanic.normal ?_
      go_wp2_with fail
      go_end0
      have F := H.out.fin T10.out
      exact ⟨rfl, CV.out _ ⟨_, _, F.1, T10.out.2.2.2.1, T10.out.2.2.2.2.1, F.2⟩⟩
    refine AllReadyJ.cons (o := { dst := some 29, op := Op.buildSlice 47 1 #[(0, Operand.tmp 28)], type := 47, pos := "ids.go:136", after := #[{ on := 13, ground := Ground.data }], guard := none }) rfl (fun K hK => ?_) AllReadyJ.nil
    go_simp
    refine hK.out _ _ (fun _ _ => (mid_cells (H.out.mid ((T0.out.alloc _).alloc _))).1) ?_
    clear hK K
    try simp only [Act.put, List.setIfInBounds_toArray, List.set_cons_zero, List.set_cons_succ]
    refine wpAnyJ_ready (rs := [8]) (by kernel_rfl) (by simp) ?_
    refine AllReadyJ.cons (o := { dst := some 23, op := Op.call { callee := Callee.builtin Builtin.append, args := #[Operand.tmp 20, Operand.tmp 22], argTypes := #[33, 33] }, type := 33, pos := "ids.go:136", after := #[{ on := 5, ground := Ground.data }, { on := 7, ground := Ground.data }], guard := none }) rfl (fun K hK => ?_) AllReadyJ.nil
    refine step_append_lies _ rfl (.tmp 20) (.tmp 22) 33 rfl 0 3 i3 (.int .i64 0) 1 8 Try.underlying33 hi3 hx0 hx1 hx2 rfl (by decide) (.slice aog gs.length cg) gs.length (ic gs) (by simp [Act.eval]) ((T0.out.alloc _).alloc _).1 ⟨w1.heap.size, 0, none⟩ 1 1 [.int .i64 (x : Int)] (by simp [Act.eval]) rfl (by intro j u hj; match j, hj with | 0, hj => simp at hj; subst hj; simp [Addr.add]) (by intro u hu; simp at hu; subst hu; rfl) (by omega) (by unfold maxLen; omega) (by omega) (Nat.zero_le _) _ rfl ?_; intro g9 c9 w9 ho9 hg9 ha9 _
    have T9 := hide (((T0.out.alloc _).alloc _).growG (x := x) ho9 hg9 ha9)
    have s0 : w9.cell? ⟨w1.heap.size + 1, 0, none⟩ = some (.int .i64 0) := hg9.cell (by simp) (fun e => by have := (HGL.out _ e.symm).2; first | omega | (simp at this <;> omega))
    have s1 : w9.cell? ⟨w1.heap.size + 1, 1, none⟩ = some (.int .i64 0) := hg9.cell (by simp) (fun e => by have := (HGL.out _ e.symm).2; first | omega | (simp at this <;> omega))
    clear ho9 hg9 ha9
    refine hK.out _ _ (fun _ _ => (mid_cells (H.out.mid T9.out)).1) ?_
    clear hK K
    try simp only [Act.put, List.setIfInBounds_toArray, List.set_cons_zero, List.set_cons_succ]
    refine wpAnyJ_ready (rs := [15]) (by kernel_rfl) (by simp) ?_
    refine AllReadyJ.cons (o := { dst := some 30, op := Op.call { callee := Callee.builtin Builtin.append, args := #[Operand.tmp 27, Operand.tmp 29], argTypes := #[47, 47] }, type := 47, pos := "ids.go:136", after := #[{ on := 12, ground := Ground.data }, { on := 14, ground := Ground.data }, { on := 8, ground := Ground.chain }], guard := none }) rfl (fun K hK => ?_) AllReadyJ.nil
    refine step_append_lies _ rfl (.tmp 27) (.tmp 29) 47 rfl 0 41 i41 (.agg #[.int .i64 0, .int .i64 0]) 2 16 Try.underlying47 hi41 hy0 hy1 hy2 rfl (by decide) (.slice aol lv.length cl) lv.length (ec lv) (by simp [Act.eval]) T9.out.2.1 ⟨w1.heap.size + 1, 0, none⟩ 1 1 [.int .i64 0, .int .i64 0] (by simp [Act.eval]) rfl (by intro j u hj; match j, hj with | 0, hj => simp at hj; subst hj; simpa [Addr.add] using s0 | 1, hj => simp at hj; subst hj; simpa [Addr.add] using s1) (by intro u hu; simp at hu; subst hu; rfl) (by omega) (by unfold maxLen; omega) (by omega) (Nat.zero_le _) _ rfl ?_; intro g8 c8 w8 ho8 hg8 ha8 _
    have T10 := hide (T9.out.growL (a := 0) (b := 0) ho8 hg8 ha8)
    clear ho8 hg8 ha8
    refine hK.out _ _ (fun _ _ => (mid_cells (H.out.mid T10.out)).1) ?_
    clear hK K
    obtain ⟨⟨d1, d2⟩, y1, y2⟩ := mid_cells (H.out.mid T10.out)
    try simp only [Act.put, List.setIfInBounds_toArray, List.set_cons_zero, List.set_cons_succ]
    refine' wpAnyJ_takeW (i := 16) (oi := { dst := some 31, op := Op.nilCheck (Operand.tmp 15), type := 0, pos := "ids.go:136", after := #[{ on := 0, ground := Ground.data }, { on := 0, ground := Ground.phase }, { on := 1, ground := Ground.textOnly Departure.lateStores }, { on := 2, ground := Ground.phase }, { on := 3, ground := Ground.phase }, { on := 4, ground := Ground.phase }, { on := 5, ground := Ground.phase }, { on := 6, ground := Ground.phase }, { on := 7, ground := Ground.phase }, { on := 8, ground := Ground.phase }, { on := 9, ground := Ground.textOnly Departure.lateStores }, { on := 10, ground := Ground.textOnly Departure.lateStoresUnsure }, { on := 11, ground := Ground.textOnly Departure.lateStoresUnsure }, { on := 12, ground := Ground.phase }, { on := 13, ground := Ground.textOnly Departure.lateStores }, { on := 14, ground := Ground.textOnly Departure.lateStoresUnsure }, { on := 15, ground := Ground.phase }], guard := none }) (v := _) rfl (by kernel_rfl) (by kernel_rfl) (by kernel_rfl) (fun _ _ _ h => h) (Or.inl ⟨by rfl, ?hyA20⟩) ?reA20
    case hyA20 => (intro W hSw; (try dsimp only at hSw); go_simp; try with_reducible rfl)
    try simp only [Act.put, List.setIfInBounds_toArray, List.set_cons_zero, List.set_cons_succ]
    refine' wpAnyJ_takeW (i := 17) (oi := { dst := some 32, op := Op.fieldAddr 59 (Operand.tmp 31) 1, type := 0, pos := "ids.go:136", after := #[{ on := 16, ground := Ground.data }, { on := 0, ground := Ground.phase }, { on := 1, ground := Ground.textOnly Departure.lateStores }, { on := 2, ground := Ground.phase }, { on := 3, ground := Ground.phase }, { on := 4, ground := Ground.phase }, { on := 5, ground := Ground.phase }, { on := 6, ground := Ground.phase }, { on := 7, ground := Ground.phase }, { on := 8, ground := Ground.phase }, { on := 9, ground := Ground.textOnly Departure.lateStores }, { on := 10, ground := Ground.textOnly Departure.lateStoresUnsure }, { on := 11, ground := Ground.textOnly Departure.lateStoresUnsure }, { on := 12, ground := Ground.phase }, { on := 13, ground := Ground.textOnly Departure.lateStores }, { on := 14, ground := Ground.textOnly Departure.lateStoresUnsure }, { on := 15, ground := Ground.phase }], guard := none }) (v := _) rfl (by kernel_rfl) (by kernel_rfl) (by kernel_rfl) (fun _ _ _ h => h) (Or.inl ⟨by rfl, ?hyA21⟩) ?reA21
    case hyA21 => (intro W hSw; (try dsimp only at hSw); go_simp; try with_reducible rfl)
    try simp only [Act.put, List.setIfInBounds_toArray, List.set_cons_zero, List.set_cons_succ]
    refine wpAnyJ_ready (rs := [18]) (by kernel_rfl) (by simp) ?_
    refine AllReadyJ.cons (o := { dst := none, op := Op.store 33 (Operand.tmp 32) (Operand.tmp 23), type := 0, pos := "ids.go:136", after := #[{ on := 17, ground := Ground.data }, { on := 8, ground := Ground.data }, { on := 15, ground := Ground.chain }, { on := 0, ground := Ground.phase }, { on := 1, ground := Ground.textOnly Departure.lateStores }, { on := 2, ground := Ground.phase }, { on := 3, ground := Ground.phase }, { on := 4, ground := Ground.phase }, { on := 5, ground := Ground.phase }, { on := 6, ground := Ground.phase }, { on := 7, ground := Ground.phase }, { on := 8, ground := Ground.phase }, { on := 9, ground := Ground.textOnly Departure.lateStores }, { on := 10, ground := Ground.textOnly Departure.lateStoresUnsure }, { on := 11, ground := Ground.textOnly Departure.lateStoresUnsure }, { on := 12, ground := Ground.phase }, { on := 13, ground := Ground.textOnly Departure.lateStores }, { on := 14, ground := Ground.textOnly Departure.lateStoresUnsure }, { on := 15, ground := Ground.phase }], guard := none }) rfl (fun K hK => ?_) AllReadyJ.nil
    go_simp
    refine hK.out _ _ (fun h => absurd h (by decide)) ?_
    clear hK K
    try simp only [Act.put, List.setIfInBounds_toArray, List.set_cons_zero, List.set_cons_succ]
    refine' wpAnyJ_takeW (i := 19) (oi := { dst := some 33, op := Op.nilCheck (Operand.tmp 16), type := 0, pos := "ids.go:136", after := #[{ on := 1, ground := Ground.data }, { on := 0, ground := Ground.phase }, { on := 1, ground := Ground.phase }, { on := 2, ground := Ground.phase }, { on := 3, ground := Ground.phase }, { on := 4, ground := Ground.phase }, { on := 5, ground := Ground.phase }, { on := 6, ground := Ground.phase }, { on := 7, ground := Ground.phase }, { on := 8, ground := Ground.phase }, { on := 9, ground := Ground.phase }, { on := 10, ground := Ground.phase }, { on := 11, ground := Ground.phase }, { on := 12, ground := Ground.phase }, { on := 13, ground := Ground.phase }, { on := 14, ground := Ground.phase }, { on := 15, ground := Ground.phase }, { on := 16, ground := Ground.phase }, { on := 17, ground := Ground.phase }, { on := 18, ground := Ground.phase }], guard := none }) (v := _) rfl (by kernel_rfl) (by kernel_rfl) (by kernel_rfl) (fun _ _ _ h => h) (Or.inl ⟨by rfl, ?hyA22⟩) ?reA22
    case hyA22 => (intro W hSw; (try dsimp only at hSw); go_simp; try with_reducible rfl)
    try simp only [Act.put, List.setIfInBounds_toArray, List.set_cons_zero, List.set_cons_succ]
    refine' wpAnyJ_takeW (i := 20) (oi := { dst := some 34, op := Op.fieldAddr 59 (Operand.tmp 33) 2, type := 0, pos := "ids.go:136", after := #[{ on := 19, ground := Ground.data }, { on := 0, ground := Ground.phase }, { on := 1, ground := Ground.phase }, { on := 2, ground := Ground.phase }, { on := 3, ground := Ground.phase }, { on := 4, ground := Ground.phase }, { on := 5, ground := Ground.phase }, { on := 6, ground := Ground.phase }, { on := 7, ground := Ground.phase }, { on := 8, ground := Ground.phase }, { on := 9, ground := Ground.phase }, { on := 10, ground := Ground.phase }, { on := 11, ground := Ground.phase }, { on := 12, ground := Ground.phase }, { on := 13, ground := Ground.phase }, { on := 14, ground := Ground.phase }, { on := 15, ground := Ground.phase }, { on := 16, ground := Ground.phase }, { on := 17, ground := Ground.phase }, { on := 18, ground := Ground.phase }], guard := none }) (v := _) rfl (by kernel_rfl) (by kernel_rfl) (by kernel_rfl) (fun _ _ _ h => h) (Or.inl ⟨by rfl, ?hyA23⟩) ?reA23
    case hyA23 => (intro W hSw; (try dsimp only at hSw); go_simp; try with_reducible rfl)
    try simp only [Act.put, List.setIfInBounds_toArray, List.set_cons_zero, List.set_cons_succ]
    refine wpAnyJ_ready (rs := [21]) (by kernel_rfl) (by simp) ?_
    refine AllReadyJ.cons (o := { dst := none, op := Op.store 47 (Operand.tmp 34) (Operand.tmp 30), type := 0, pos := "ids.go:136", after := #[{ on := 20, ground := Ground.data }, { on := 15, ground := Ground.data }, { on := 18, ground := Ground.chain }, { on := 0, ground := Ground.phase }, { on := 1, ground := Ground.phase }, { on := 2, ground := Ground.phase }, { on := 3, ground := Ground.phase }, { on := 4, ground := Ground.phase }, { on := 5, ground := Ground.phase }, { on := 6, ground := Ground.phase }, { on := 7, ground := Ground.phase }, { on := 8, ground := Ground.phase }, { on := 9, ground := Ground.phase }, { on := 10, ground := Ground.phase }, { on := 11, ground := Ground.phase }, { on := 12, ground := Ground.phase }, { on := 13, ground := Ground.phase }, { on := 14, ground := Ground.phase }, { on := 15, ground := Ground.phase }, { on := 16, ground := Ground.phase }, { on := 17, ground := Ground.phase }, { on := 18, ground := Ground.phase }], guard := none }) rfl (fun K hK => ?_) AllReadyJ.nil
    go_simp
    refine hK.out _ _ (fun h => absurd h (by decide)) ?_
    clear hK K
    try simp only [Act.put, List.setIfInBounds_toArray, List.set_cons_zero, List.set_cons_succ]
    refine wpAnyJ_done (by kernel_rfl) ?_ _
    refine NoPanic.normal ?_
    go_wp2_with fail
    go_end0
    have F := H.out.fin T10.out
    exact ⟨rfl, CV.out _ ⟨_, _, F.1, T10.out.2.2.2.1, T10.out.2.2.2.2.1, F.2⟩⟩
  refine AllReadyJ.cons (o := { dst := some 28, op := Op.load 41 (Operand.tmp 4), type := 41, pos := "ids.go:136", after := #[], guard := none }) rfl (fun K hK => ?_) AllReadyJ.nil
  obtain ⟨q0, q1⟩ := WH.out _ T0.out.2.2.2.2.2
  go_simp
  refine hK.out _ _ (fun _ h => h) ?_
  clear hK K q0 q1
  try simp only [Act.put, List.setIfInBounds_toArray, List.set_cons_zero, List.set_cons_succ]
  refine wpAnyJ_ready (rs := [7, 14]) (by kernel_rfl) (by simp) ?_
  refine AllReadyJ.cons (o := { dst := some 22, op := Op.buildSlice 33 1 #[(0, Operand.tmp 21)], type := 33, pos := "ids.go:136", after := #[{ on := 6, ground := Ground.data }], guard := none }) rfl (fun K hK => ?_) ?_
  · go_simp
    refine hK.out _ _ (fun _ _ => (mid_cells (H.out.mid (T0.out.alloc _))).1) ?_
    clear hK K
    try simp only [Act.put, List.setIfInBounds_toArray, List.set_cons_zero, List.set_cons_succ]
    refine wpAnyJ_ready (rs := [8, 14]) (by kernel_rfl) (by simp) ?_
    refine AllReadyJ.cons (o := { dst := some 23, op := Op.call { callee := Callee.builtin Builtin.append, args := #[Operand.tmp 20, Operand.tmp 22], argTypes := #[33, 33] }, type := 33, pos := "ids.go:136", after := #[{ on := 5, ground := Ground.data }, { on := 7, ground := Ground.data }], guard := none }) rfl (fun K hK => ?_) ?_
    · refine step_append_lies _ rfl (.tmp 20) (.tmp 22) 33 rfl 0 3 i3 (.int .i64 0) 1 8 Try.underlying33 hi3 hx0 hx1 hx2 rfl (by decide) (.slice aog gs.length cg) gs.length (ic gs) (by simp [Act.eval]) (T0.out.alloc _).1 ⟨w1.heap.size, 0, none⟩ 1 1 [.int .i64 (x : Int)] (by simp [Act.eval]) rfl (by intro j u hj; match j, hj with | 0, hj => simp at hj; subst hj; simp [Addr.add]) (by intro u hu; simp at hu; subst hu; rfl) (by omega) (by unfold maxLen; omega) (by omega) (Nat.zero_le _) _ rfl ?_; intro g9 c9 w9 ho9 hg9 ha9 _
      have T9 := hide ((T0.out.alloc _).growG (x := x) ho9 hg9 ha9)
      clear ho9 hg9 ha9
      refine hK.out _ _ (fun _ _ => (mid_cells (H.out.mid T9.out)).1) ?_
      clear hK K
      try simp only [Act.put, List.setIfInBounds_toArray, List.set_cons_zero, List.set_cons_succ]
      refine wpAnyJ_ready (rs := [14]) (by kernel_rfl) (by simp) ?_
      refine AllReadyJ.cons (o := { dst := some 29, op := Op.buildSlice 47 1 #[(0, Operand.tmp 28)], type := 47, pos := "ids.go:136", after := #[{ on := 13, ground := Ground.data }], guard := none }) rfl (fun K hK => ?_) AllReadyJ.nil
      go_simp
      refine hK.out _ _ (fun _ _ => (mid_cells (H.out.mid (T9.out.alloc _))).1) ?_
      clear hK K
      try simp only [Act.put, List.setIfInBounds_toArray, List.set_cons_zero, List.set_cons_succ]
      refine wpAnyJ_ready (rs := [15]) (by kernel_rfl) (by simp) ?_
      refine AllReadyJ.cons (o := { dst := some 30, op := Op.call { callee := Callee.builtin Builtin.append, args := #[Operand.tmp 27, Operand.tmp 29], argTypes := #[47, 47] }, type := 47, pos := "ids.go:136", after := #[{ on := 12, ground := Ground.data }, { on := 14, ground := Ground.data }, { on := 8, ground := Ground.chain }], guard := none }) rfl (fun K hK => ?_) AllReadyJ.nil
      refine step_append_lies _ rfl (.tmp 27) (.tmp 29) 47 rfl 0 41 i41 (.agg #[.int .i64 0, .int .i64 0]) 2 16 Try.underlying47 hi41 hy0 hy1 hy2 rfl (by decide) (.slice aol lv.length cl) lv.length (ec lv) (by simp [Act.eval]) (T9.out.alloc _).2.1 ⟨w9.heap.size, 0, none⟩ 1 1 [.int .i64 0, .int .i64 0] (by simp [Act.eval]) rfl (by intro j u hj; match j, hj with | 0, hj => simp at hj; subst hj; simp [Addr.add] | 1, hj => simp at hj; subst hj; simp [Addr.add]) (by intro u hu; simp at hu; subst hu; rfl) (by omega) (by unfold maxLen; omega) (by omega) (Nat.zero_le _) _ rfl ?_; intro g8 c8 w8 ho8 hg8 ha8 _
      have T10 := hide ((T9.out.alloc _).growL (a := 0) (b := 0) ho8 hg8 ha8)
      clear ho8 hg8 ha8
      refine hK.out _ _ (fun _ _ => (mid_cells (H.out.mid T10.out)).1) ?_
      clear hK K
      obtain ⟨⟨d1, d2⟩, y1, y2⟩ := mid_cells (H.out.mid T10.out)
      try simp only [Act.put, List.setIfInBounds_toArray, List.set_cons_zero, List.set_cons_succ]
      refine' wpAnyJ_takeW (i := 16) (oi := { dst := some 31, op := Op.nilCheck (Operand.tmp 15), type := 0, pos := "ids.go:136", after := #[{ on := 0, ground := Ground.data }, { on := 0, ground := Ground.phase }, { on := 1, ground := Ground.textOnly Departure.lateStores }, { on := 2, ground := Ground.phase }, { on := 3, ground := Ground.phase }, { on := 4, ground := Ground.phase }, { on := 5, ground := Ground.phase }, { on := 6, ground := Ground.phase }, { on := 7, ground := Ground.phase }, { on := 8, ground := Ground.phase }, { on := 9, ground := Ground.textOnly Departure.lateStores }, { on := 10, ground := Ground.textOnly Departure.lateStoresUnsure }, { on := 11, ground := Ground.textOnly Departure.lateStoresUnsure }, { on := 12, ground := Ground.phase }, { on := 13, ground := Ground.textOnly Departure.lateStores }, { on := 14, ground := Ground.textOnly Departure.lateStoresUnsure }, { on := 15, ground := Ground.phase }], guard := none }) (v := _) rfl (by kernel_rfl) (by kernel_rfl) (by kernel_rfl) (fun _ _ _ h => h) (Or.inl ⟨by rfl, ?hyA24⟩) ?reA24
      case hyA24 => (intro W hSw; (try dsimp only at hSw); go_simp; try with_reducible rfl)
      try simp only [Act.put, List.setIfInBounds_toArray, List.set_cons_zero, List.set_cons_succ]
      refine' wpAnyJ_takeW (i := 17) (oi := { dst := some 32, op := Op.fieldAddr 59 (Operand.tmp 31) 1, type := 0, pos := "ids.go:136", after := #[{ on := 16, ground := Ground.data }, { on := 0, ground := Ground.phase }, { on := 1, ground := Ground.textOnly Departure.lateStores }, { on := 2, ground := Ground.phase }, { on := 3, ground := Ground.phase }, { on := 4, ground := Ground.phase }, { on := 5, ground := Ground.phase }, { on := 6, ground := Ground.phase }, { on := 7, ground := Ground.phase }, { on := 8, ground := Ground.phase }, { on := 9, ground := Ground.textOnly Departure.lateStores }, { on := 10, ground := Ground.textOnly Departure.lateStoresUnsure }, { on := 11, ground := Ground.textOnly Departure.lateStoresUnsure }, { on := 12, ground := Ground.phase }, { on := 13, ground := Ground.textOnly Departure.lateStores }, { on := 14, ground := Ground.textOnly Departure.lateStoresUnsure }, { on := 15, ground := Ground.phase }], guard := none }) (v := _) rfl (by kernel_rfl) (by kernel_rfl) (by kernel_rfl) (fun _ _ _ h => h) (Or.inl ⟨by rfl, ?hyA25⟩) ?reA25
      case hyA25 => (intro W hSw; (try dsimp only at hSw); go_simp; try with_reducible rfl)
      try simp only [Act.put, List.setIfInBounds_toArray, List.set_cons_zero, List.set_cons_succ]
      refine wpAnyJ_ready (rs := [18]) (by kernel_rfl) (by simp) ?_
      refine AllReadyJ.cons (o := { dst := none, op := Op.store 33 (Operand.tmp 32) (Operand.tmp 23), type := 0, pos := "ids.go:136", after := #[{ on := 17, ground := Ground.data }, { on := 8, ground := Ground.data }, { on := 15, ground := Ground.chain }, { on := 0, ground := Ground.phase }, { on := 1, ground := Ground.textOnly Departure.lateStores }, { on := 2, ground := Ground.phase }, { on := 3, ground := Ground.phase }, { on := 4, ground := Ground.phase }, { on := 5, ground := Ground.phase }, { on := 6, ground := Ground.phase }, { on := 7, ground := Ground.phase }, { on := 8, ground := Ground.phase }, { on := 9, ground := Ground.textOnly Departure.lateStores }, { on := 10, ground := Ground.textOnly Departure.lateStoresUnsure }, { on := 11, ground := Ground.textOnly Departure.lateStoresUnsure }, { on := 12, ground := Ground.phase }, { on := 13, ground := Ground.textOnly Departure.lateStores }, { on := 14, ground := Ground.textOnly Departure.lateStoresUnsure }, { on := 15, ground := Ground.phase }], guard := none }) rfl (fun K hK => ?_) AllReadyJ.nil
      go_simp
      refine hK.out _ _ (fun h => absurd h (by decide)) ?_
      clear hK K
      try simp only [Act.put, List.setIfInBounds_toArray, List.set_cons_zero, List.set_cons_succ]
      refine' wpAnyJ_takeW (i := 19) (oi := { dst := some 33, op := Op.nilCheck (Operand.tmp 16), type := 0, pos := "ids.go:136", after := #[{ on := 1, ground := Ground.data }, { on := 0, ground := Ground.phase }, { on := 1, ground := Ground.phase }, { on := 2, ground := Ground.phase }, { on := 3, ground := Ground.phase }, { on := 4, ground := Ground.phase }, { on := 5, ground := Ground.phase }, { on := 6, ground := Ground.phase }, { on := 7, ground := Ground.phase }, { on := 8, ground := Ground.phase }, { on := 9, ground := Ground.phase }, { on := 10, ground := Ground.phase }, { on := 11, ground := Ground.phase }, { on := 12, ground := Ground.phase }, { on := 13, ground := Ground.phase }, { on := 14, ground := Ground.phase }, { on := 15, ground := Ground.phase }, { on := 16, ground := Ground.phase }, { on := 17, ground := Ground.phase }, { on := 18, ground := Ground.phase }], guard := none }) (v := _) rfl (by kernel_rfl) (by kernel_rfl) (by kernel_rfl) (fun _ _ _ h => h) (Or.inl ⟨by rfl, ?hyA26⟩) ?reA26
      case hyA26 => (intro W hSw; (try dsimp only at hSw); go_simp; try with_reducible rfl)
      try simp only [Act.put, List.setIfInBounds_toArray, List.set_cons_zero, List.set_cons_succ]
      refine' wpAnyJ_takeW (i := 20) (oi := { dst := some 34, op := Op.fieldAddr 59 (Operand.tmp 33) 2, type := 0, pos := "ids.go:136", after := #[{ on := 19, ground := Ground.data }, { on := 0, ground := Ground.phase }, { on := 1, ground := Ground.phase }, { on := 2, ground := Ground.phase }, { on := 3, ground := Ground.phase }, { on := 4, ground := Ground.phase }, { on := 5, ground := Ground.phase }, { on := 6, ground := Ground.phase }, { on := 7, ground := Ground.phase }, { on := 8, ground := Ground.phase }, { on := 9, ground := Ground.phase }, { on := 10, ground := Ground.phase }, { on := 11, ground := Ground.phase }, { on := 12, ground := Ground.phase }, { on := 13, ground := Ground.phase }, { on := 14, ground := Ground.phase }, { on := 15, ground := Ground.phase }, { on := 16, ground := Ground.phase }, { on := 17, ground := Ground.phase }, { on := 18, ground := Ground.phase }], guard := none }) (v := _) rfl (by kernel_rfl) (by kernel_rfl) (by kernel_rfl) (fun _ _ _ h => h) (Or.inl ⟨by rfl, ?hyA27⟩) ?reA27
      case hyA27 => (intro W hSw; (try dsimp only at hSw); go_simp; try with_reducible rfl)
      try simp only [Act.put, List.setIfInBounds_toArray, List.set_cons_zero, List.set_cons_succ]
      refine wpAnyJ_ready (rs := [21]) (by kernel_rfl) (by simp) ?_
      refine AllReadyJ.cons (o := { dst := none, op := Op.store 47 (Operand.tmp 34) (Operand.tmp 30), type := 0, pos := "ids.go:136", after := #[{ on := 20, ground := Ground.data }, { on := 15, ground := Ground.data }, { on := 18, ground := Ground.chain }, { on := 0, ground := Ground.phase }, { on := 1, ground := Ground.phase }, { on := 2, ground := Ground.phase }, { on := 3, ground := Ground.phase }, { on := 4, ground := Ground.phase }, { on := 5, ground := Ground.phase }, { on := 6, ground := Ground.phase }, { on := 7, ground := Ground.phase }, { on := 8, ground := Ground.phase }, { on := 9, ground := Ground.phase }, { on := 10, ground := Ground.phase }, { on := 11, ground := Ground.phase }, { on := 12, ground := Ground.phase }, { on := 13, ground := Ground.phase }, { on := 14, ground := Ground.phase }, { on := 15, ground := Ground.phase }, { on := 16, ground := Ground.phase }, { on := 17, ground := Ground.phase }, { on := 18, ground := Ground.phase }], guard := none }) rfl (fun K hK => ?_) AllReadyJ.nil
      go_simp
      refine hK.out _ _ (fun h => absurd h (by decide)) ?_
      clear hK K
      try simp only [Act.put, List.setIfInBounds_toArray, List.set_cons_zero, List.set_cons_succ]
      refine wpAnyJ_done (by kernel_rfl) ?_ _
      refine NoPanic.normal ?_
      go_wp2_with fail
      go_end0
      have F := H.out.fin T10.out
      exact ⟨rfl, CV.out _ ⟨_, _, F.1, T10.out.2.2.2.1, T10.out.2.2.2.2.1, F.2⟩⟩
    refine AllReadyJ.cons (o := { dst := some 29, op := Op.buildSlice 47 1 #[(0, Operand.tmp 28)], type := 47, pos := "ids.go:136", after := #[{ on := 13, ground := Ground.data }], guard := none }) rfl (fun K hK => ?_) AllReadyJ.nil
    go_simp
    refine hK.out _ _ (fun _ _ => (mid_cells (H.out.mid ((T0.out.alloc _).alloc _))).1) ?_
    clear hK K
    try simp only [Act.put, List.setIfInBounds_toArray, List.set_cons_zero, List.set_cons_succ]
    refine wpAnyJ_ready (rs := [8]) (by kernel_rfl) (by simp) ?_
    refine AllReadyJ.cons (o := { dst := some 23, op := Op.call { callee := Callee.builtin Builtin.append, args := #[Operand.tmp 20, Operand.tmp 22], argTypes := #[33, 33] }, type := 33, pos := "ids.go:136", after := #[{ on := 5, ground := Ground.data }, { on := 7, ground := Ground.data }], guard := none }) rfl (fun K hK => ?_) AllReadyJ.nil
    refine step_append_lies _ rfl (.tmp 20) (.tmp 22) 33 rfl 0 3 i3 (.int .i64 0) 1 8 Try.underlying33 hi3 hx0 hx1 hx2 rfl (by decide) (.slice aog gs.length cg) gs.length (ic gs) (by simp [Act.eval]) ((T0.out.alloc _).alloc _).1 ⟨w1.heap.size, 0, none⟩ 1 1 [.int .i64 (x : Int)] (by simp [Act.eval]) rfl (by intro j u hj; match j, hj with | 0, hj => simp at hj; subst hj; simp [Addr.add]) (by intro u hu; simp at hu; subst hu; rfl) (by omega) (by unfold maxLen; omega) (by omega) (Nat.zero_le _) _ rfl ?_; intro g9 c9 w9 ho9 hg9 ha9 _
    have T9 := hide (((T0.out.alloc _).alloc _).growG (x := x) ho9 hg9 ha9)
    have s0 : w9.cell? ⟨w1.heap.size + 1, 0, none⟩ = some (.int .i64 0) := hg9.cell (by simp) (fun e => by have := (HGL.out _ e.symm).2; first | omega | (simp at this <;> omega))
    have s1 : w9.cell? ⟨w1.heap.size + 1, 1, none⟩ = some (.int .i64 0) := hg9.cell (by simp) (fun e => by have := (HGL.out _ e.symm).2; first | omega | (simp at this <;> omega))
    clear ho9 hg9 ha9
    refine hK.out _ _ (fun _ _ => (mid_cells (H.out.mid T9.out)).1) ?_
    clear hK K
    try simp only [Act.put, List.setIfInBounds_toArray, List.set_cons_zero, List.set_cons_succ]
    refine wpAnyJ_ready (rs := [15]) (by kernel_rfl) (by simp) ?_
    refine AllReadyJ.cons (o := { dst := some 30, op := Op.call { callee := Callee.builtin Builtin.append, args := #[Operand.tmp 27, Operand.tmp 29], argTypes := #[47, 47] }, type := 47, pos := "ids.go:136", after := #[{ on := 12, ground := Ground.data }, { on := 14, ground := Ground.data }, { on := 8, ground := Ground.chain }], guard := none }) rfl (fun K hK => ?_) AllReadyJ.nil
    refine step_append_lies _ rfl (.tmp 27) (.tmp 29) 47 rfl 0 41 i41 (.agg #[.int .i64 0, .int .i64 0]) 2 16 Try.underlying47 hi41 hy0 hy1 hy2 rfl (by decide) (.slice aol lv.length cl) lv.length (ec lv) (by simp [Act.eval]) T9.out.2.1 ⟨w1.heap.size + 1, 0, none⟩ 1 1 [.int .i64 0, .int .i64 0] (by simp [Act.eval]) rfl (by intro j u hj; match j, hj with | 0, hj => simp at hj; subst hj; simpa [Addr.add] using s0 | 1, hj => simp at hj; subst hj; simpa [Addr.add] using s1) (by intro u hu; simp at hu; subst hu; rfl) (by omega) (by unfold maxLen; omega) (by omega) (Nat.zero_le _) _ rfl ?_; intro g8 c8 w8 ho8 hg8 ha8 _
    have T10 := hide (T9.out.growL (a := 0) (b := 0) ho8 hg8 ha8)
    clear ho8 hg8 ha8
    refine hK.out _ _ (fun _ _ => (mid_cells (H.out.mid T10.out)).1) ?_
    clear hK K
    obtain ⟨⟨d1, d2⟩, y1, y2⟩ := mid_cells (H.out.mid T10.out)
    try simp only [Act.put, List.setIfInBounds_toArray, List.set_cons_zero, List.set_cons_succ]
    refine' wpAnyJ_takeW (i := 16) (oi := { dst := some 31, op := Op.nilCheck (Operand.tmp 15), type := 0, pos := "ids.go:136", after := #[{ on := 0, ground := Ground.data }, { on := 0, ground := Ground.phase }, { on := 1, ground := Ground.textOnly Departure.lateStores }, { on := 2, ground := Ground.phase }, { on := 3, ground := Ground.phase }, { on := 4, ground := Ground.phase }, { on := 5, ground := Ground.phase }, { on := 6, ground := Ground.phase }, { on := 7, ground := Ground.phase }, { on := 8, ground := Ground.phase }, { on := 9, ground := Ground.textOnly Departure.lateStores }, { on := 10, ground := Ground.textOnly Departure.lateStoresUnsure }, { on := 11, ground := Ground.textOnly Departure.lateStoresUnsure }, { on := 12, ground := Ground.phase }, { on := 13, ground := Ground.textOnly Departure.lateStores }, { on := 14, ground := Ground.textOnly Departure.lateStoresUnsure }, { on := 15, ground := Ground.phase }], guard := none }) (v := _) rfl (by kernel_rfl) (by kernel_rfl) (by kernel_rfl) (fun _ _ _ h => h) (Or.inl ⟨by rfl, ?hyA28⟩) ?reA28
    case hyA28 => (intro W hSw; (try dsimp only at hSw); go_simp; try with_reducible rfl)
    try simp only [Act.put, List.setIfInBounds_toArray, List.set_cons_zero, List.set_cons_succ]
    refine' wpAnyJ_takeW (i := 17) (oi := { dst := some 32, op := Op.fieldAddr 59 (Operand.tmp 31) 1, type := 0, pos := "ids.go:136", after := #[{ on := 16, ground := Ground.data }, { on := 0, ground := Ground.phase }, { on := 1, ground := Ground.textOnly Departure.lateStores }, { on := 2, ground := Ground.phase }, { on := 3, ground := Ground.phase }, { on := 4, ground := Ground.phase }, { on := 5, ground := Ground.phase }, { on := 6, ground := Ground.phase }, { on := 7, ground := Ground.phase }, { on := 8, ground := Ground.phase }, { on := 9, ground := Ground.textOnly Departure.lateStores }, { on := 10, ground := Ground.textOnly Departure.lateStoresUnsure }, { on := 11, ground := Ground.textOnly Departure.lateStoresUnsure }, { on := 12, ground := Ground.phase }, { on := 13, ground := Ground.textOnly Departure.lateStores }, { on := 14, ground := Ground.textOnly Departure.lateStoresUnsure }, { on := 15, ground := Ground.phase }], guard := none }) (v := _) rfl (by kernel_rfl) (by kernel_rfl) (by kernel_rfl) (fun _ _ _ h => h) (Or.inl ⟨by rfl, ?hyA29⟩) ?reA29
    case hyA29 => (intro W hSw; (try dsimp only at hSw); go_simp; try with_reducible rfl)
    try simp only [Act.put, List.setIfInBounds_toArray, List.set_cons_zero, List.set_cons_succ]
    refine wpAnyJ_ready (rs := [18]) (by kernel_rfl) (by simp) ?_
    refine AllReadyJ.cons (o := { dst := none, op := Op.store 33 (Operand.tmp 32) (Operand.tmp 23), type := 0, pos := "ids.go:136", after := #[{ on := 17, ground := Ground.data }, { on := 8, ground := Ground.data }, { on := 15, ground := Ground.chain }, { on := 0, ground := Ground.phase }, { on := 1, ground := Ground.textOnly Departure.lateStores }, { on := 2, ground := Ground.phase }, { on := 3, ground := Ground.phase }, { on := 4, ground := Ground.phase }, { on := 5, ground := Ground.phase }, { on := 6, ground := Ground.phase }, { on := 7, ground := Ground.phase }, { on := 8, ground := Ground.phase }, { on := 9, ground := Ground.textOnly Departure.lateStores }, { on := 10, ground := Ground.textOnly Departure.lateStoresUnsure }, { on := 11, ground := Ground.textOnly Departure.lateStoresUnsure }, { on := 12, ground := Ground.phase }, { on := 13, ground := Ground.textOnly Departure.lateStores }, { on := 14, ground := Ground.textOnly Departure.lateStoresUnsure }, { on := 15, ground := Ground.phase }], guard := none }) rfl (fun K hK => ?_) AllReadyJ.nil
    go_simp
    refine hK.out _ _ (fun h => absurd h (by decide)) ?_
    clear hK K
    try simp only [Act.put, List.setIfInBounds_toArray, List.set_cons_zero, List.set_cons_succ]
    refine' wpAnyJ_takeW (i := 19) (oi := { dst := some 33, op := Op.nilCheck (Operand.tmp 16), type := 0, pos := "ids.go:136", after := #[{ on := 1, ground := Ground.data }, { on := 0, ground := Ground.phase }, { on := 1, ground := Ground.phase }, { on := 2, ground := Ground.phase }, { on := 3, ground := Ground.phase }, { on := 4, ground := Ground.phase }, { on := 5, ground := Ground.phase }, { on := 6, ground := Ground.phase }, { on := 7, ground := Ground.phase }, { on := 8, ground := Ground.phase }, { on := 9, ground := Ground.phase }, { on := 10, ground := Ground.phase }, { on := 11, ground := Ground.phase }, { on := 12, ground := Ground.phase }, { on := 13, ground := Ground.phase }, { on := 14, ground := Ground.phase }, { on := 15, ground := Ground.phase }, { on := 16, ground := Ground.phase }, { on := 17, ground := Ground.phase }, { on := 18, ground := Ground.phase }], guard := none }) (v := _) rfl (by kernel_rfl) (by kernel_rfl) (by kernel_rfl) (fun _ _ _ h => h) (Or.inl ⟨by rfl, ?hyA30⟩) ?reA30
    case hyA30 => (intro W hSw; (try dsimp only at hSw); go_simp; try with_reducible rfl)
    try simp only [Act.put, List.setIfInBounds_toArray, List.set_cons_zero, List.set_cons_succ]
    refine' wpAnyJ_takeW (i := 20) (oi := { dst := some 34, op := Op.fieldAddr 59 (Operand.tmp 33) 2, type := 0, pos := "ids.go:136", after := #[{ on := 19, ground := Ground.data }, { on := 0, ground := Ground.phase }, { on := 1, ground := Ground.phase }, { on := 2, ground := Ground.phase }, { on := 3, ground := Ground.phase }, { on := 4, ground := Ground.phase }, { on := 5, ground := Ground.phase }, { on := 6, ground := Ground.phase }, { on := 7, ground := Ground.phase }, { on := 8, ground := Ground.phase }, { on := 9, ground := Ground.phase }, { on := 10, ground := Ground.phase }, { on := 11, ground := Ground.phase }, { on := 12, ground := Ground.phase }, { on := 13, ground := Ground.phase }, { on := 14, ground := Ground.phase }, { on := 15, ground := Ground.phase }, { on := 16, ground := Ground.phase }, { on := 17, ground := Ground.phase }, { on := 18, ground := Ground.phase }], guard := none }) (v := _) rfl (by kernel_rfl) (by kernel_rfl) (by kernel_rfl) (fun _ _ _ h => h) (Or.inl ⟨by rfl, ?hyA31⟩) ?reA31
    case hyA31 => (intro W hSw; (try dsimp only at hSw); go_simp; try with_reducible rfl)
    try simp only [Act.put, List.setIfInBounds_toArray, List.set_cons_zero, List.set_cons_succ]
    refine wpAnyJ_ready (rs := [21]) (by kernel_rfl) (by simp) ?_
    refine AllReadyJ.cons (o := { dst := none, op := Op.store 47 (Operand.tmp 34) (Operand.tmp 30), type := 0, pos := "ids.go:136", after := #[{ on := 20, ground := Ground.data }, { on := 15, ground := Ground.data }, { on := 18, ground := Ground.chain }, { on := 0, ground := Ground.phase }, { on := 1, ground := Ground.phase }, { on := 2, ground := Ground.phase }, { on := 3, ground := Ground.phase }, { on := 4, ground := Ground.phase }, { on := 5, ground := Ground.phase }, { on := 6, ground := Ground.phase }, { on := 7, ground := Ground.phase }, { on := 8, ground := Ground.phase }, { on := 9, ground := Ground.phase }, { on := 10, ground := Ground.phase }, { on := 11, ground := Ground.phase }, { on := 12, ground := Ground.phase }, { on := 13, ground := Ground.phase }, { on := 14, ground := Ground.phase }, { on := 15, ground := Ground.phase }, { on := 16, ground := Ground.phase }, { on := 17, ground := Ground.phase }, { on := 18, ground := Ground.phase }], guard := none }) rfl (fun K hK => ?_) AllReadyJ.nil
    go_simp
    refine hK.out _ _ (fun h => absurd h (by decide)) ?_
    clear hK K
    try simp only [Act.put, List.setIfInBounds_toArray, List.set_cons_zero, List.set_cons_succ]
    refine wpAnyJ_done (by kernel_rfl) ?_ _
    refine NoPanic.normal ?_
    go_wp2_with fail
    go_end0
    have F := H.out.fin T10.out
    exact ⟨rfl, CV.out _ ⟨_, _, F.1, T10.out.2.2.2.1, T10.out.2.2.2.2.1, F.2⟩⟩
  refine AllReadyJ.cons (o := { dst := some 29, op := Op.buildSlice 47 1 #[(0, Operand.tmp 28)], type := 47, pos := "ids.go:136", after := #[{ on := 13, ground := Ground.data }], guard := none }) rfl (fun K hK => ?_) AllReadyJ.nil
  go_simp
  refine hK.out _ _ (fun _ _ => (mid_cells (H.out.mid (T0.out.alloc _))).1) ?_
  clear hK K
  try simp only [Act.put, List.setIfInBounds_toArray, List.set_cons_zero, List.set_cons_succ]
  refine wpAnyJ_ready (rs := [7]) (by kernel_rfl) (by simp) ?_
  refine AllReadyJ.cons (o := { dst := some 22, op := Op.buildSlice 33 1 #[(0, Operand.tmp 21)], type := 33, pos := "ids.go:136", after := #[{ on := 6, ground := Ground.data }], guard := none }) rfl (fun K hK => ?_) AllReadyJ.nil
  go_simp
  refine hK.out _ _ (fun _ _ => (mid_cells (H.out.mid ((T0.out.alloc _).alloc _))).1) ?_
  clear hK K
  try simp only [Act.put, List.setIfInBounds_toArray, List.set_cons_zero, List.set_cons_succ]
  refine wpAnyJ_ready (rs := [8]) (by kernel_rfl) (by simp) ?_
  refine AllReadyJ.cons (o := { dst := some 23, op := Op.call { callee := Callee.builtin Builtin.append, args := #[Operand.tmp 20, Operand.tmp 22], argTypes := #[33, 33] }, type := 33, pos := "ids.go:136", after := #[{ on := 5, ground := Ground.data }, { on := 7, ground := Ground.data }], guard := none }) rfl (fun K hK => ?_) AllReadyJ.nil
  refine step_append_lies _ rfl (.tmp 20) (.tmp 22) 33 rfl 0 3 i3 (.int .i64 0) 1 8 Try.underlying33 hi3 hx0 hx1 hx2 rfl (by decide) (.slice aog gs.length cg) gs.length (ic gs) (by simp [Act.eval]) ((T0.out.alloc _).alloc _).1 ⟨w1.heap.size + 1, 0, none⟩ 1 1 [.int .i64 (x : Int)] (by simp [Act.eval]) rfl (by intro j u hj; match j, hj with | 0, hj => simp at hj; subst hj; simp [Addr.add]) (by intro u hu; simp at hu; subst hu; rfl) (by omega) (by unfold maxLen; omega) (by omega) (Nat.zero_le _) _ rfl ?_; intro g9 c9 w9 ho9 hg9 ha9 _
  have T9 := hide (((T0.out.alloc _).alloc _).growG (x := x) ho9 hg9 ha9)
  have s0 : w9.cell? ⟨w1.heap.size, 0, none⟩ = some (.int .i64 0) := hg9.cell (by simp) (fun e => by have := (HGL.out _ e.symm).2; first | omega | (simp at this <;> omega))
  have s1 : w9.cell? ⟨w1.heap.size, 1, none⟩ = some (.int .i64 0) := hg9.cell (by simp) (fun e => by have := (HGL.out _ e.symm).2; first | omega | (simp at this <;> omega))
  clear ho9 hg9 ha9
  refine hK.out _ _ (fun _ _ => (mid_cells (H.out.mid T9.out)).1) ?_
  clear hK K
  try simp only [Act.put, List.setIfInBounds_toArray, List.set_cons_zero, List.set_cons_succ]
  refine wpAnyJ_ready (rs := [15]) (by kernel_rfl) (by simp) ?_
  refine AllReadyJ.cons (o := { dst := some 30, op := Op.call { callee := Callee.builtin Builtin.append, args := #[Operand.tmp 27, Operand.tmp 29], argTypes := #[47, 47] }, type := 47, pos := "ids.go:136", after := #[{ on := 12, ground := Ground.data }, { on := 14, ground := Ground.data }, { on := 8, ground := Ground.chain }], guard := none }) rfl (fun K hK => ?_) AllReadyJ.nil
  refine step_append_lies _ rfl (.tmp 27) (.tmp 29) 47 rfl 0 41 i41 (.agg #[.int .i64 0, .int .i64 0]) 2 16 Try.underlying47 hi41 hy0 hy1 hy2 rfl (by decide) (.slice aol lv.length cl) lv.length (ec lv) (by simp [Act.eval]) T9.out.2.1 ⟨w1.heap.size, 0, none⟩ 1 1 [.int .i64 0, .int .i64 0] (by simp [Act.eval]) rfl (by intro j u hj; match j, hj with | 0, hj => simp at hj; subst hj; simpa [Addr.add] using s0 | 1, hj => simp at hj; subst hj; simpa [Addr.add] using s1) (by intro u hu; simp at hu; subst hu; rfl) (by omega) (by unfold maxLen; omega) (by omega) (Nat.zero_le _) _ rfl ?_; intro g8 c8 w8 ho8 hg8 ha8 _
  have T10 := hide (T9.out.growL (a := 0) (b := 0) ho8 hg8 ha8)
  clear ho8 hg8 ha8
  refine hK.out _ _ (fun _ _ => (mid_cells (H.out.mid T10.out)).1) ?_
  clear hK K
  obtain ⟨⟨d1, d2⟩, y1, y2⟩ := mid_cells (H.out.mid T10.out)
  try simp only [Act.put, List.setIfInBounds_toArray, List.set_cons_zero, List.set_cons_succ]
  refine' wpAnyJ_takeW (i := 16) (oi := { dst := some 31, op := Op.nilCheck (Operand.tmp 15), type := 0, pos := "ids.go:136", after := #[{ on := 0, ground := Ground.data }, { on := 0, ground := Ground.phase }, { on := 1, ground := Ground.textOnly Departure.lateStores }, { on := 2, ground := Ground.phase }, { on := 3, ground := Ground.phase }, { on := 4, ground := Ground.phase }, { on := 5, ground := Ground.phase }, { on := 6, ground := Ground.phase }, { on := 7, ground := Ground.phase }, { on := 8, ground := Ground.phase }, { on := 9, ground := Ground.textOnly Departure.lateStores }, { on := 10, ground := Ground.textOnly Departure.lateStoresUnsure }, { on := 11, ground := Ground.textOnly Departure.lateStoresUnsure }, { on := 12, ground := Ground.phase }, { on := 13, ground := Ground.textOnly Departure.lateStores }, { on := 14, ground := Ground.textOnly Departure.lateStoresUnsure }, { on := 15, ground := Ground.phase }], guard := none }) (v := _) rfl (by kernel_rfl) (by kernel_rfl) (by kernel_rfl) (fun _ _ _ h => h) (Or.inl ⟨by rfl, ?hyA32⟩) ?reA32
  case hyA32 => (intro W hSw; (try dsimp only at hSw); go_simp; try with_reducible rfl)
  try simp only [Act.put, List.setIfInBounds_toArray, List.set_cons_zero, List.set_cons_succ]
  refine' wpAnyJ_takeW (i := 17) (oi := { dst := some 32, op := Op.fieldAddr 59 (Operand.tmp 31) 1, type := 0, pos := "ids.go:136", after := #[{ on := 16, ground := Ground.data }, { on := 0, ground := Ground.phase }, { on := 1, ground := Ground.textOnly Departure.lateStores }, { on := 2, ground := Ground.phase }, { on := 3, ground := Ground.phase }, { on := 4, ground := Ground.phase }, { on := 5, ground := Ground.phase }, { on := 6, ground := Ground.phase }, { on := 7, ground := Ground.phase }, { on := 8, ground := Ground.phase }, { on := 9, ground := Ground.textOnly Departure.lateStores }, { on := 10, ground := Ground.textOnly Departure.lateStoresUnsure }, { on := 11, ground := Ground.textOnly Departure.lateStoresUnsure }, { on := 12, ground := Ground.phase }, { on := 13, ground := Ground.textOnly Departure.lateStores }, { on := 14, ground := Ground.textOnly Departure.lateStoresUnsure }, { on := 15, ground := Ground.phase }], guard := none }) (v := _) rfl (by kernel_rfl) (by kernel_rfl) (by kernel_rfl) (fun _ _ _ h => h) (Or.inl ⟨by rfl, ?hyA33⟩) ?reA33
  case hyA33 => (intro W hSw; (try dsimp only at hSw); go_simp; try with_reducible rfl)
  try simp only [Act.put, List.setIfInBounds_toArray, List.set_cons_zero, List.set_cons_succ]
  refine wpAnyJ_ready (rs := [18]) (by kernel_rfl) (by simp) ?_
  refine AllReadyJ.cons (o := { dst := none, op := Op.store 33 (Operand.tmp 32) (Operand.tmp 23), type := 0, pos := "ids.go:136", after := #[{ on := 17, ground := Ground.data }, { on := 8, ground := Ground.data }, { on := 15, ground := Ground.chain }, { on := 0, ground := Ground.phase }, { on := 1, ground := Ground.textOnly Departure.lateStores }, { on := 2, ground := Ground.phase }, { on := 3, ground := Ground.phase }, { on := 4, ground := Ground.phase }, { on := 5, ground := Ground.phase }, { on := 6, ground := Ground.phase }, { on := 7, ground := Ground.phase }, { on := 8, ground := Ground.phase }, { on := 9, ground := Ground.textOnly Departure.lateStores }, { on := 10, ground := Ground.textOnly Departure.lateStoresUnsure }, { on := 11, ground := Ground.textOnly Departure.lateStoresUnsure }, { on := 12, ground := Ground.phase }, { on := 13, ground := Ground.textOnly Departure.lateStores }, { on := 14, ground := Ground.textOnly Departure.lateStoresUnsure }, { on := 15, ground := Ground.phase }], guard := none }) rfl (fun K hK => ?_) AllReadyJ.nil
  go_simp
  refine hK.out _ _ (fun h => absurd h (by decide)) ?_
  clear hK K
  try simp only [Act.put, List.setIfInBounds_toArray, List.set_cons_zero, List.set_cons_succ]
  refine' wpAnyJ_takeW (i := 19) (oi := { dst := some 33, op := Op.nilCheck (Operand.tmp 16), type := 0, pos := "ids.go:136", after := #[{ on := 1, ground := Ground.data }, { on := 0, ground := Ground.phase }, { on := 1, ground := Ground.phase }, { on := 2, ground := Ground.phase }, { on := 3, ground := Ground.phase }, { on := 4, ground := Ground.phase }, { on := 5, ground := Ground.phase }, { on := 6, ground := Ground.phase }, { on := 7, ground := Ground.phase }, { on := 8, ground := Ground.phase }, { on := 9, ground := Ground.phase }, { on := 10, ground := Ground.phase }, { on := 11, ground := Ground.phase }, { on := 12, ground := Ground.phase }, { on := 13, ground := Ground.phase }, { on := 14, ground := Ground.phase }, { on := 15, ground := Ground.phase }, { on := 16, ground := Ground.phase }, { on := 17, ground := Ground.phase }, { on := 18, ground := Ground.phase }], guard := none }) (v := _) rfl (by kernel_rfl) (by kernel_rfl) (by kernel_rfl) (fun _ _ _ h => h) (Or.inl ⟨by rfl, ?hyA34⟩) ?reA34
  case hyA34 => (intro W hSw; (try dsimp only at hSw); go_simp; try with_reducible rfl)
  try simp only [Act.put, List.setIfInBounds_toArray, List.set_cons_zero, List.set_cons_succ]
  refine' wpAnyJ_takeW (i := 20) (oi := { dst := some 34, op := Op.fieldAddr 59 (Operand.tmp 33) 2, type := 0, pos := "ids.go:136", after := #[{ on := 19, ground := Ground.data }, { on := 0, ground := Ground.phase }, { on := 1, ground := Ground.phase }, { on := 2, ground := Ground.phase }, { on := 3, ground := Ground.phase }, { on := 4, ground := Ground.phase }, { on := 5, ground := Ground.phase }, { on := 6, ground := Ground.phase }, { on := 7, ground := Ground.phase }, { on := 8, ground := Ground.phase }, { on := 9, ground := Ground.phase }, { on := 10, ground := Ground.phase }, { on := 11, ground := Ground.phase }, { on := 12, ground := Ground.phase }, { on := 13, ground := Ground.phase }, { on := 14, ground := Ground.phase }, { on := 15, ground := Ground.phase }, { on := 16, ground := Ground.phase }, { on := 17, ground := Ground.phase }, { on := 18, ground := Ground.phase }], guard := none }) (v := _) rfl (by kernel_rfl) (by kernel_rfl) (by kernel_rfl) (fun _ _ _ h => h) (Or.inl ⟨by rfl, ?hyA35⟩) ?reA35
  case hyA35 => (intro W hSw; (try dsimp only at hSw); go_simp; try with_reducible rfl)
  try simp only [Act.put, List.setIfInBounds_toArray, List.set_cons_zero, List.set_cons_succ]
  refine wpAnyJ_ready (rs := [21]) (by kernel_rfl) (by simp) ?_
  refine AllReadyJ.cons (o := { dst := none, op := Op.store 47 (Operand.tmp 34) (Operand.tmp 30), type := 0, pos := "ids.go:136", after := #[{ on := 20, ground := Ground.data }, { on := 15, ground := Ground.data }, { on := 18, ground := Ground.chain }, { on := 0, ground := Ground.phase }, { on := 1, ground := Ground.phase }, { on := 2, ground := Ground.phase }, { on := 3, ground := Ground.phase }, { on := 4, ground := Ground.phase }, { on := 5, ground := Ground.phase }, { on := 6, ground := Ground.phase }, { on := 7, ground := Ground.phase }, { on := 8, ground := Ground.phase }, { on := 9, ground := Ground.phase }, { on := 10, ground := Ground.phase }, { on := 11, ground := Ground.phase }, { on := 12, ground := Ground.phase }, { on := 13, ground := Ground.phase }, { on := 14, ground := Ground.phase }, { on := 15, ground := Ground.phase }, { on := 16, ground := Ground.phase }, { on := 17, ground := Ground.phase }, { on := 18, ground := Ground.phase }], guard := none }) rfl (fun K hK => ?_) AllReadyJ.nil
  go_simp
  refine hK.out _ _ (fun h => absurd h (by decide)) ?_
  clear hK K
  try simp only [Act.put, List.setIfInBounds_toArray, List.set_cons_zero, List.set_cons_succ]
  refine wpAnyJ_done (by kernel_rfl) ?_ _
  refine NoPanic.normal ?_
  go_wp2_with fail
  go_end0
  have F := H.out.fin T10.out
  exact ⟨rfl, CV.out _ ⟨_, _, F.1, T10.out.2.2.2.1, T10.out.2.2.2.2.1, F.2⟩⟩
end Go.Proofs.Ytejbdhbphbgckaa
