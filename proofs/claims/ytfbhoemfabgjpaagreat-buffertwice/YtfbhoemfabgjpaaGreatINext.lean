/-
  The number that comes next.
-/
import Derived.Test.YtfbhoemfabgjpaaGreatMgAE
import Derived.Test.YtfbhoemfabgjpaaGreatMgAI
namespace Go.Proofs.YtfbhoemfabgjpaaGreat
open Go.RowKit
set_option maxRecDepth 100000
set_option maxHeartbeats 2000000 in
set_option maxRecDepth 100000 in
theorem next_free (g n i : Nat) (vg vl vf : Value) (gs fr : List Nat) (lv : List (Nat × Nat)) (w : World) (h : Pm w g n vg vl vf gs (i :: fr) lv) (hf : fr.length ≤ 1000000) :
    Calls Tryz.prog 88 #[.pointer (some ⟨g, 0, none⟩)] w fun e w' => e = .returned (.tuple #[.int .i64 (i : Int), .int .i64 0]) ∧ ∃ vf', Pm w' g n vg vl vf' gs fr lv ∧ vf'.ownBlock = vf.ownBlock ∧ Mv w w' (fun k => k = g ∨ vf.ownBlock = some k) := by
  obtain ⟨c0, c1, c2, c3⟩ := h.cell
  obtain ⟨gf, c, rfl, hc1, hc2⟩ := own_form h.2.2.2.1 (by simp)
  have HD := hide (delete_first gf c i fr w h.2.2.2.1 hf)
  have e0 := own_int h.2.2.2.1 0 (by simp)
  have hn5 := h.2.2.2.2.1.2.2
  have H := hide h
  simp only [List.length_cons, List.getElem_cons_zero] at *
  have t1 : (fr.length : Int) + 1 > 0 := by omega
  clear h
  go_enter Tryz.func88, Tryz.ntmps88
  go_wp2_with fail
  refine HD.out.mono ?_
  rintro e w1 ⟨rfl, ho1, hm1⟩
  have hb1 := hm1.at H.out.1 (fun e => hn5 (by rw [e]; rfl))
  have d3 : w1.cell? ⟨g, 3, none⟩ = some (.slice (some ⟨gf, 0, none⟩) (fr.length + 1) c) := by rw [cell_of_row w1 g _ _ 91 (0, 0) hb1]; rfl
  have f3 : w1.frozen? ⟨g, 3, none⟩ = false := frozen_of_row w1 g 3 _ 91 hb1
  have HO1 := hide ho1
  have HM1 := hide hm1
  have HB1 := hide hb1
  clear ho1 hm1 hb1 HD
  go_wp2_with fail
  go_ret2
  obtain ⟨a1, a2, a3, a4, ⟨a5, a6, a7⟩, a8, a9, a10⟩ := H.out
  refine ⟨rfl, .slice (some ⟨gf, 0, none⟩) fr.length c, ⟨?_, own_set (HM1.out.own a2 (fun k e1 e2 => a9 k e1 (by rw [e2]; rfl))) a5, own_set (HM1.out.own a3 (fun k e1 e2 => a10 k e1 (by rw [e2]; rfl))) a6, own_set HO1.out a7, ⟨a5, a6, a7⟩, a8, a9, a10⟩, rfl, (HM1.out.mono (fun k _ e => .inr (by rw [e]; rfl))).set (.inl rfl) _ _⟩
  rw [heap_setCell_same w1 g 3 _ 91 _ HB1.out]
  rfl
set_option maxHeartbeats 2000000 in
theorem next_full (g : Nat) (vg vl vf : Value) (gs : List Nat) (lv : List (Nat × Nat)) (w : World) (h : Pm w g gs.length vg vl vf gs [] lv) :
    Calls Tryz.prog 88 #[.pointer (some ⟨g, 0, none⟩)] w fun e w' => e = .returned (.tuple #[.int .i64 0, .int .i64 40]) ∧ w' = w := by
  obtain ⟨c0, c1, c2, c3⟩ := h.cell
  obtain ⟨aof, cf, rfl⟩ := own_len h.2.2.2.1
  obtain ⟨aog, cg, rfl⟩ := own_len h.2.1
  clear h
  go_enter Tryz.func88, Tryz.ntmps88
  go_wp2_with fail
  go_ret2
  exact ⟨rfl, rfl⟩
/-- Two rows of a pool that grow, since the world w. -/
def Tw (w : World) (vg vl vg' vl' : Value) (gs : List Nat) (lv : List (Nat × Nat)) (W : World) : Prop :=
  W.ownsRow 0 3 1 vg' gs.length (ic gs) ∧ W.ownsRow 0 34 2 vl' lv.length (ec lv) ∧ Ap vg' vl' ∧ (∀ k, vg'.ownBlock = some k → vg.ownBlock = some k ∨ w.heap.size ≤ k) ∧ (∀ k, vl'.ownBlock = some k → vl.ownBlock = some k ∨ w.heap.size ≤ k) ∧ Mv w W (fun k => vg.ownBlock = some k ∨ vl.ownBlock = some k)
section
variable {w W W' : World} {vg vl vg' vl' : Value} {gs : List Nat} {lv : List (Nat × Nat)}
theorem Tw.later (h : Tw w vg vl vg' vl' gs lv W) (hb : Below W.heap.size W W') : Tw w vg vl vg' vl' gs lv W' :=
  ⟨own_later h.1 hb, own_later h.2.1 hb, h.2.2.1, h.2.2.2.1, h.2.2.2.2.1, h.2.2.2.2.2.later hb⟩
theorem Tw.alloc (h : Tw w vg vl vg' vl' gs lv W) (o : Obj) : Tw w vg vl vg' vl' gs lv (W.alloc o) := h.later (below_alloc W o)
theorem Tw.growG {g9 c9 x : Nat} (h : Tw w vg vl vg' vl' gs lv W) (ho : W'.ownsRow 0 3 1 (.slice (some ⟨g9, 0, none⟩) (gs.length + 1) c9) (gs.length + 1) (ic gs ++ [.int .i64 (x : Int)])) (hg : W.grownBy W' vg'.ownBlock) (ha : vg'.ownBlock = some g9 ∨ g9 = W.heap.size) : Tw w vg vl (.slice (some ⟨g9, 0, none⟩) (gs.length + 1) c9) vl' (gs ++ [x]) lv W' := by
  obtain ⟨h1, h2, h3, h4, h5, h6⟩ := h
  refine ⟨?_, own_kept h2 hg (fun k e1 e2 => h3 k e2 e1), fun k e1 e2 => ?_, fun k e => ?_, h5, h6.grown hg (fun k hk e => ?_)⟩
  · rw [List.length_append, ic_append]
    exact ho
  · simp only [Value.ownBlock, Option.some.injEq] at e1
    subst e1
    rcases ha with e | e
    · exact h3 _ e e2
    · have := (h2.lt _ e2).2
      omega
  · simp only [Value.ownBlock, Option.some.injEq] at e
    subst e
    rcases ha with e | e
    · exact h4 _ e
    · have := h6.size
      exact .inr (by omega)
  · rcases h4 k e with h | h
    · exact .inl h
    · omega
theorem Tw.growL {g9 c9 a b : Nat} (h : Tw w vg vl vg' vl' gs lv W) (ho : W'.ownsRow 0 34 2 (.slice (some ⟨g9, 0, none⟩) (lv.length + 1) c9) (lv.length + 1) (ec lv ++ [.int .i64 (a : Int), .int .i64 (b : Int)])) (hg : W.grownBy W' vl'.ownBlock) (ha : vl'.ownBlock = some g9 ∨ g9 = W.heap.size) : Tw w vg vl vg' (.slice (some ⟨g9, 0, none⟩) (lv.length + 1) c9) gs (lv ++ [(a, b)]) W' := by
  obtain ⟨h1, h2, h3, h4, h5, h6⟩ := h
  refine ⟨own_kept h1 hg (fun k e1 e2 => h3 k e1 e2), ?_, fun k e2 e1 => ?_, h4, fun k e => ?_, h6.grown hg (fun k hk e => ?_)⟩
  · rw [List.length_append, ec_append]
    exact ho
  · simp only [Value.ownBlock, Option.some.injEq] at e1
    subst e1
    rcases ha with e | e
    · exact h3 _ e2 e
    · have := (h1.lt _ e2).2
      omega
  · simp only [Value.ownBlock, Option.some.injEq] at e
    subst e
    rcases ha with e | e
    · exact h5 _ e
    · have := h6.size
      exact .inr (by omega)
  · rcases h5 k e with h | h
    · exact .inr h
    · omega
theorem Pm.two {g n : Nat} {vf : Value} {fr : List Nat} (h : Pm w g n vg vl vf gs fr lv) : Tw w vg vl vg vl gs lv w := ⟨h.2.1, h.2.2.1, h.2.2.2.2.2.1, fun _ e => .inl e, fun _ e => .inl e, Mv.refl _ _⟩
/-- The pool's own cells while its rows grow. -/
theorem Pm.mid {g n : Nat} {vf : Value} {fr gs' : List Nat} {lv' : List (Nat × Nat)} (h : Pm w g n vg vl vf gs fr lv) (hT : Tw w vg vl vg' vl' gs' lv' W) : W.heap[g]? = some (.cells #[.int .i64 (n : Int), vg, vl, vf] 91 (0, 0)) := hT.2.2.2.2.2.at h.1 (fun e => by
  rcases e with e | e
  · exact h.2.2.2.2.1.1 e
  · exact h.2.2.2.2.1.2.1 e)
theorem mid_cells {g n : Nat} {vf : Value} (h : W.heap[g]? = some (.cells #[.int .i64 (n : Int), vg, vl, vf] 91 (0, 0))) : (W.cell? ⟨g, 1, none⟩ = some vg ∧ W.cell? ⟨g, 2, none⟩ = some vl) ∧ W.frozen? ⟨g, 1, none⟩ = false ∧ W.frozen? ⟨g, 2, none⟩ = false := by
  refine ⟨⟨?_, ?_⟩, frozen_of_row W g 1 _ 91 h, frozen_of_row W g 2 _ 91 h⟩ <;> rw [cell_of_row W g _ _ 91 (0, 0) h] <;> rfl
/-- They are put down. -/
theorem Pm.fin {g n : Nat} {vf : Value} {fr gs' : List Nat} {lv' : List (Nat × Nat)} (h : Pm w g n vg vl vf gs fr lv) (hT : Tw w vg vl vg' vl' gs' lv' W) :
    Pm ((W.setCell ⟨g, 1, none⟩ vg').setCell ⟨g, 2, none⟩ vl') g n vg' vl' vf gs' fr lv' ∧ Mv w ((W.setCell ⟨g, 1, none⟩ vg').setCell ⟨g, 2, none⟩ vl') (fun k => k = g ∨ vg.ownBlock = some k ∨ vl.ownBlock = some k) := by
  have hb := h.mid hT
  have hlt := h.lt
  obtain ⟨h1, h2, h3, h4, h5, h6⟩ := hT
  obtain ⟨a1, a2, a3, a4, ⟨a5, a6, a7⟩, a8, a9, a10⟩ := h
  have n1 : vg'.ownBlock ≠ some g := fun e => by
    rcases h4 g e with h | h
    · exact a5 h
    · omega
  have n2 : vl'.ownBlock ≠ some g := fun e => by
    rcases h5 g e with h | h
    · exact a6 h
    · omega
  have hf : W.ownsRow 0 3 1 vf fr.length (ic fr) := h6.own a4 (fun k e1 e2 => by
    rcases e2 with e2 | e2
    · exact a9 k e2 e1
    · exact a10 k e2 e1)
  refine ⟨⟨?_, own_set (own_set h1 n1) n1, own_set (own_set h2 n2) n2, own_set (own_set hf a7) a7, ⟨n1, n2, a7⟩, h3, fun k e1 e2 => ?_, fun k e1 e2 => ?_⟩, ((h6.mono (fun k _ e => .inr e)).set (.inl rfl) _ _).set (.inl rfl) _ _⟩
  · rw [heap_setCell_same _ g 2 _ 91 _ (heap_setCell_same W g 1 _ 91 _ hb)]
    rfl
  · rcases h4 k e1 with h | h
    · exact a9 k h e2
    · have := (a4.lt k e2).2
      omega
  · rcases h5 k e1 with h | h
    · exact a10 k h e2
    · have := (a4.lt k e2).2
      omega
end
set_option maxHeartbeats 4000000 in
set_option maxRecDepth 100000 in
theorem next_new (g n : Nat) (vg vl vf : Value) (gs : List Nat) (lv : List (Nat × Nat)) (w : World) (h : Pm w g n vg vl vf gs [] lv) (hn : gs.length < n) (hnn : n ≤ 1000000) (hl : lv.length ≤ 1000000) :
    Calls Tryz.prog 88 #[.pointer (some ⟨g, 0, none⟩)] w fun e w' => e = .returned (.tuple #[.int .i64 (gs.length : Int), .int .i64 0]) ∧ ∃ vg' vl', Pm w' g n vg' vl' vf (gs ++ [0]) [] (lv ++ [(0, 0)]) ∧ (∀ k, vg'.ownBlock = some k → vg.ownBlock = some k ∨ w.heap.size ≤ k) ∧ (∀ k, vl'.ownBlock = some k → vl.ownBlock = some k ∨ w.heap.size ≤ k) ∧ Mv w w' (fun k => k = g ∨ vg.ownBlock = some k ∨ vl.ownBlock = some k) := by
  obtain ⟨i3, hi3, hx0, hx1, hx2⟩ := info_parts info3
  obtain ⟨i41, hi41, hy0, hy1, hy2⟩ := info_parts info41
  obtain ⟨c0, c1, c2, c3⟩ := h.cell
  obtain ⟨aof, cf, rfl⟩ := own_len h.2.2.2.1
  obtain ⟨aog, cg, rfl⟩ := own_len h.2.1
  obtain ⟨aol, cl, rfl⟩ := own_len h.2.2.1
  have t1 : ((gs.length : Int) == (n : Int)) = false := by rw [beq_eq_false_iff_ne]; omega
  have H := hide h
  have T0 := hide (h.two.later (below_drew w))
  have hgl := h.2.1.lt
  have HGL := hide hgl
  obtain ⟨m1, m2⟩ : gs.length ≤ 1000000 ∧ lv.length ≤ 1000000 := ⟨by omega, hl⟩
  clear h hgl
  go_enter Tryz.func88, Tryz.ntmps88
  go_wp2_with fail
  refine wp_region_noPanic ?_
  refine wp_region_late (J := fun i => i != 17 && i != 20) (S := fun W => W.cell? ⟨g, 1, none⟩ = some (.slice aog gs.length cg) ∧ W.cell? ⟨g, 2, none⟩ = some (.slice aol lv.length cl)) (by kernel_rfl) (mid_cells (H.out.mid T0.out)).1 (fun hHeld => ?_)
  refine' wpAnyJ_takeW (i := 0) (oi := { dst := some 38, op := Op.move (Operand.tmp 0), type := 57, pos := "ids.go:126", after := #[], guard := none }) (v := _) rfl (by kernel_rfl) (by kernel_rfl) (by kernel_rfl) (fun _ _ _ h => h) (Or.inl ⟨by rfl, ?hyA1⟩) ?reA1
  case hyA1 => (intro W hSw; (try dsimp only at hSw); go_simp; try with_reducible rfl)
  try simp only [Act.put, List.setIfInBounds_toArray, List.set_cons_zero, List.set_cons_succ]
  refine' wpAnyJ_takeW (i := 1) (oi := { dst := some 39, op := Op.move (Operand.tmp 0), type := 57, pos := "ids.go:126", after := #[{ on := 17, ground := Ground.gcOnly Departure.lateStores }], guard := none }) (v := _) rfl (by kernel_rfl) (by kernel_rfl) (by kernel_rfl) (fun _ _ _ h => h) (Or.inl ⟨by rfl, ?hyA2⟩) ?reA2
  case hyA2 => (intro W hSw; (try dsimp only at hSw); go_simp; try with_reducible rfl)
  try simp only [Act.put, List.setIfInBounds_toArray, List.set_cons_zero, List.set_cons_succ]
  refine' wpAnyJ_takeW (i := 2) (oi := { dst := some 40, op := Op.move (Operand.tmp 0), type := 57, pos := "ids.go:126", after := #[], guard := none }) (v := _) rfl (by kernel_rfl) (by kernel_rfl) (by kernel_rfl) (fun _ _ _ h => h) (Or.inl ⟨by rfl, ?hyA3⟩) ?reA3
  case hyA3 => (intro W hSw; (try dsimp only at hSw); go_simp; try with_reducible rfl)
  try simp only [Act.put, List.setIfInBounds_toArray, List.set_cons_zero, List.set_cons_succ]
  refine' wpAnyJ_takeW (i := 3) (oi := { dst := some 41, op := Op.nilCheck (Operand.tmp 40), type := 0, pos := "ids.go:126", after := #[{ on := 2, ground := Ground.data }], guard := none }) (v := _) rfl (by kernel_rfl) (by kernel_rfl) (by kernel_rfl) (fun _ _ _ h => h) (Or.inl ⟨by rfl, ?hyA4⟩) ?reA4
  case hyA4 => (intro W hSw; (try dsimp only at hSw); go_simp; try with_reducible rfl)
  try simp only [Act.put, List.setIfInBounds_toArray, List.set_cons_zero, List.set_cons_succ]
  refine' wpAnyJ_takeW (i := 4) (oi := { dst := some 42, op := Op.fieldAddr 91 (Operand.tmp 41) 1, type := 0, pos := "ids.go:126", after := #[{ on := 3, ground := Ground.data }], guard := none }) (v := _) rfl (by kernel_rfl) (by kernel_rfl) (by kernel_rfl) (fun _ _ _ h => h) (Or.inl ⟨by rfl, ?hyA5⟩) ?reA5
  case hyA5 => (intro W hSw; (try dsimp only at hSw); go_simp; try with_reducible rfl)
  try simp only [Act.put, List.setIfInBounds_toArray, List.set_cons_zero, List.set_cons_succ]
  refine' wpAnyJ_take (i := 5) (oi := { dst := some 43, op := Op.load 79 (Operand.tmp 42), type := 79, pos := "ids.go:126", after := #[{ on := 4, ground := Ground.data }], guard := none }) (v := _) rfl (by kernel_rfl) (by kernel_rfl) (by kernel_rfl) (by kernel_rfl) (fun _ _ _ h => h) (Or.inl ⟨by rfl, ?hyA6⟩) (by assumption) ?reA6
  case hyA6 => (intro W hSw; (try dsimp only at hSw); go_simp; try with_reducible rfl)
  try simp only [Act.put, List.setIfInBounds_toArray, List.set_cons_zero, List.set_cons_succ]
  refine' wpAnyJ_takeW (i := 8) (oi := { dst := some 46, op := Op.move (Operand.tmp 0), type := 57, pos := "ids.go:126", after := #[], guard := none }) (v := _) rfl (by kernel_rfl) (by kernel_rfl) (by kernel_rfl) (fun _ _ _ h => h) (Or.inl ⟨by rfl, ?hyA7⟩) ?reA7
  case hyA7 => (intro W hSw; (try dsimp only at hSw); go_simp; try with_reducible rfl)
  try simp only [Act.put, List.setIfInBounds_toArray, List.set_cons_zero, List.set_cons_succ]
  refine' wpAnyJ_takeW (i := 9) (oi := { dst := some 47, op := Op.nilCheck (Operand.tmp 46), type := 0, pos := "ids.go:126", after := #[{ on := 8, ground := Ground.data }], guard := none }) (v := _) rfl (by kernel_rfl) (by kernel_rfl) (by kernel_rfl) (fun _ _ _ h => h) (Or.inl ⟨by rfl, ?hyA8⟩) ?reA8
  case hyA8 => (intro W hSw; (try dsimp only at hSw); go_simp; try with_reducible rfl)
  try simp only [Act.put, List.setIfInBounds_toArray, List.set_cons_zero, List.set_cons_succ]
  refine' wpAnyJ_takeW (i := 10) (oi := { dst := some 48, op := Op.fieldAddr 91 (Operand.tmp 47) 2, type := 0, pos := "ids.go:126", after := #[{ on := 9, ground := Ground.data }], guard := none }) (v := _) rfl (by kernel_rfl) (by kernel_rfl) (by kernel_rfl) (fun _ _ _ h => h) (Or.inl ⟨by rfl, ?hyA9⟩) ?reA9
  case hyA9 => (intro W hSw; (try dsimp only at hSw); go_simp; try with_reducible rfl)
  try simp only [Act.put, List.setIfInBounds_toArray, List.set_cons_zero, List.set_cons_succ]
  refine' wpAnyJ_take (i := 11) (oi := { dst := some 49, op := Op.load 41 (Operand.tmp 48), type := 41, pos := "ids.go:126", after := #[{ on := 10, ground := Ground.data }], guard := none }) (v := _) rfl (by kernel_rfl) (by kernel_rfl) (by kernel_rfl) (by kernel_rfl) (fun _ _ _ h => h) (Or.inl ⟨by rfl, ?hyA10⟩) (by assumption) ?reA10
  case hyA10 => (intro W hSw; (try dsimp only at hSw); go_simp; try with_reducible rfl)
  try simp only [Act.put, List.setIfInBounds_toArray, List.set_cons_zero, List.set_cons_succ]
  refine' wpAnyJ_takeW (i := 12) (oi := { dst := some 50, op := Op.build 34 #[], type := 34, pos := "ids.go:126", after := #[], guard := none }) (v := _) rfl (by kernel_rfl) (by kernel_rfl) (by kernel_rfl) (fun _ _ _ h => h) (Or.inl ⟨by rfl, ?hyA11⟩) ?reA11
  case hyA11 => (intro W hSw; (try dsimp only at hSw); go_simp; try with_reducible rfl)
  try simp only [Act.put, List.setIfInBounds_toArray, List.set_cons_zero, List.set_cons_succ]
  refine wpAnyJ_ready (rs := [6, 13]) (by kernel_rfl) (by simp) ?_
  refine AllReadyJ.cons (o := { dst := some 44, op := Op.buildSlice 79 1 #[(0, Operand.const (Value.int IntKind.i64 0))], type := 79, pos := "ids.go:126", after := #[], guard := none }) rfl (fun K hK => ?_) ?_
  · go_simp
    refine hK.out _ _ (fun _ _ => (mid_cells (H.out.mid (T0.out.alloc _))).1) ?_
    clear hK K
    try simp only [Act.put, List.setIfInBounds_toArray, List.set_cons_zero, List.set_cons_succ]
    refine wpAnyJ_ready (rs := [7, 13]) (by kernel_rfl) (by simp) ?_
    refine AllReadyJ.cons (o := { dst := some 45, op := Op.call { callee := Callee.builtin Builtin.append, args := #[Operand.tmp 43, Operand.tmp 44], argTypes := #[79, 79] }, type := 79, pos := "ids.go:126", after := #[{ on := 5, ground := Ground.data }, { on := 6, ground := Ground.data }], guard := none }) rfl (fun K hK => ?_) ?_
    · refine step_append_lies _ rfl (.tmp 43) (.tmp 44) 79 rfl 0 3 i3 (.int .i64 0) 1 8 Tryz.underlying79 hi3 hx0 hx1 hx2 rfl (by decide) (.slice aog gs.length cg) gs.length (ic gs) (by simp [Act.eval]) (T0.out.alloc _).1 ⟨w.heap.size, 0, none⟩ 1 1 [.int .i64 0] (by simp [Act.eval]) rfl (by intro j u hj; match j, hj with | 0, hj => simp at hj; subst hj; simp [Addr.add]) (by intro u hu; simp at hu; subst hu; rfl) (by omega) (by unfold maxLen; omega) (by omega) (Nat.zero_le _) _ rfl ?_; intro g9 c9 w9 ho9 hg9 ha9 _
      have T9 := hide ((T0.out.alloc _).growG (x := 0) ho9 hg9 ha9)
      clear ho9 hg9 ha9
      refine hK.out _ _ (fun _ _ => (mid_cells (H.out.mid T9.out)).1) ?_
      clear hK K
      try simp only [Act.put, List.setIfInBounds_toArray, List.set_cons_zero, List.set_cons_succ]
      refine wpAnyJ_ready (rs := [13]) (by kernel_rfl) (by simp) ?_
      refine AllReadyJ.cons (o := { dst := some 51, op := Op.buildSlice 41 1 #[(0, Operand.tmp 50)], type := 41, pos := "ids.go:126", after := #[{ on := 12, ground := Ground.data }], guard := none }) rfl (fun K hK => ?_) AllReadyJ.nil
      go_simp
      refine hK.out _ _ (fun _ _ => (mid_cells (H.out.mid (T9.out.alloc _))).1) ?_
      clear hK K
      try simp only [Act.put, List.setIfInBounds_toArray, List.set_cons_zero, List.set_cons_succ]
      refine wpAnyJ_ready (rs := [14]) (by kernel_rfl) (by simp) ?_
      refine AllReadyJ.cons (o := { dst := some 52, op := Op.call { callee := Callee.builtin Builtin.append, args := #[Operand.tmp 49, Operand.tmp 51], argTypes := #[41, 41] }, type := 41, pos := "ids.go:126", after := #[{ on := 11, ground := Ground.data }, { on := 13, ground := Ground.data }, { on := 7, ground := Ground.chain }], guard := none }) rfl (fun K hK => ?_) AllReadyJ.nil
      refine step_append_lies _ rfl (.tmp 49) (.tmp 51) 41 rfl 0 34 i41 (.agg #[.int .i64 0, .int .i64 0]) 2 16 Tryz.underlying41 hi41 hy0 hy1 hy2 rfl (by decide) (.slice aol lv.length cl) lv.length (ec lv) (by simp [Act.eval]) (T9.out.alloc _).2.1 ⟨w9.heap.size, 0, none⟩ 1 1 [.int .i64 0, .int .i64 0] (by simp [Act.eval]) rfl (by intro j u hj; match j, hj with | 0, hj => simp at hj; subst hj; simp [Addr.add] | 1, hj => simp at hj; subst hj; simp [Addr.add]) (by intro u hu; simp at hu; subst hu; rfl) (by omega) (by unfold maxLen; omega) (by omega) (Nat.zero_le _) _ rfl ?_; intro g8 c8 w8 ho8 hg8 ha8 _
      have T10 := hide ((T9.out.alloc _).growL (a := 0) (b := 0) ho8 hg8 ha8)
      clear ho8 hg8 ha8
      refine hK.out _ _ (fun _ _ => (mid_cells (H.out.mid T10.out)).1) ?_
      clear hK K
      obtain ⟨⟨d1, d2⟩, y1, y2⟩ := mid_cells (H.out.mid T10.out)
      try simp only [Act.put, List.setIfInBounds_toArray, List.set_cons_zero, List.set_cons_succ]
      refine' wpAnyJ_takeW (i := 15) (oi := { dst := some 53, op := Op.nilCheck (Operand.tmp 38), type := 0, pos := "ids.go:126", after := #[{ on := 0, ground := Ground.data }, { on := 0, ground := Ground.phase }, { on := 1, ground := Ground.textOnly Departure.lateStores }, { on := 2, ground := Ground.phase }, { on := 3, ground := Ground.phase }, { on := 4, ground := Ground.phase }, { on := 5, ground := Ground.phase }, { on := 6, ground := Ground.phase }, { on := 7, ground := Ground.phase }, { on := 8, ground := Ground.textOnly Departure.lateStores }, { on := 9, ground := Ground.textOnly Departure.lateStoresUnsure }, { on := 10, ground := Ground.textOnly Departure.lateStoresUnsure }, { on := 11, ground := Ground.phase }, { on := 12, ground := Ground.textOnly Departure.lateStoresUnsure }, { on := 13, ground := Ground.textOnly Departure.lateStoresUnsure }, { on := 14, ground := Ground.phase }], guard := none }) (v := _) rfl (by kernel_rfl) (by kernel_rfl) (by kernel_rfl) (fun _ _ _ h => h) (Or.inl ⟨by rfl, ?hyA12⟩) ?reA12
      case hyA12 => (intro W hSw; (try dsimp only at hSw); go_simp; try with_reducible rfl)
      try simp only [Act.put, List.setIfInBounds_toArray, List.set_cons_zero, List.set_cons_succ]
      refine' wpAnyJ_takeW (i := 16) (oi := { dst := some 54, op := Op.fieldAddr 91 (Operand.tmp 53) 1, type := 0, pos := "ids.go:126", after := #[{ on := 15, ground := Ground.data }, { on := 0, ground := Ground.phase }, { on := 1, ground := Ground.textOnly Departure.lateStores }, { on := 2, ground := Ground.phase }, { on := 3, ground := Ground.phase }, { on := 4, ground := Ground.phase }, { on := 5, ground := Ground.phase }, { on := 6, ground := Ground.phase }, { on := 7, ground := Ground.phase }, { on := 8, ground := Ground.textOnly Departure.lateStores }, { on := 9, ground := Ground.textOnly Departure.lateStoresUnsure }, { on := 10, ground := Ground.textOnly Departure.lateStoresUnsure }, { on := 11, ground := Ground.phase }, { on := 12, ground := Ground.textOnly Departure.lateStoresUnsure }, { on := 13, ground := Ground.textOnly Departure.lateStoresUnsure }, { on := 14, ground := Ground.phase }], guard := none }) (v := _) rfl (by kernel_rfl) (by kernel_rfl) (by kernel_rfl) (fun _ _ _ h => h) (Or.inl ⟨by rfl, ?hyA13⟩) ?reA13
      case hyA13 => (intro W hSw; (try dsimp only at hSw); go_simp; try with_reducible rfl)
      try simp only [Act.put, List.setIfInBounds_toArray, List.set_cons_zero, List.set_cons_succ]
      refine wpAnyJ_ready (rs := [17]) (by kernel_rfl) (by simp) ?_
      refine AllReadyJ.cons (o := { dst := none, op := Op.store 79 (Operand.tmp 54) (Operand.tmp 45), type := 0, pos := "ids.go:126", after := #[{ on := 16, ground := Ground.data }, { on := 7, ground := Ground.data }, { on := 14, ground := Ground.chain }, { on := 0, ground := Ground.phase }, { on := 1, ground := Ground.textOnly Departure.lateStores }, { on := 2, ground := Ground.phase }, { on := 3, ground := Ground.phase }, { on := 4, ground := Ground.phase }, { on := 5, ground := Ground.phase }, { on := 6, ground := Ground.phase }, { on := 7, ground := Ground.phase }, { on := 8, ground := Ground.textOnly Departure.lateStores }, { on := 9, ground := Ground.textOnly Departure.lateStoresUnsure }, { on := 10, ground := Ground.textOnly Departure.lateStoresUnsure }, { on := 11, ground := Ground.phase }, { on := 12, ground := Ground.textOnly Departure.lateStoresUnsure }, { on := 13, ground := Ground.textOnly Departure.lateStoresUnsure }, { on := 14, ground := Ground.phase }], guard := none }) rfl (fun K hK => ?_) AllReadyJ.nil
      go_simp
      refine hK.out _ _ (fun h => absurd h (by decide)) ?_
      clear hK K
      try simp only [Act.put, List.setIfInBounds_toArray, List.set_cons_zero, List.set_cons_succ]
      refine' wpAnyJ_takeW (i := 18) (oi := { dst := some 55, op := Op.nilCheck (Operand.tmp 39), type := 0, pos := "ids.go:126", after := #[{ on := 1, ground := Ground.data }, { on := 0, ground := Ground.phase }, { on := 1, ground := Ground.phase }, { on := 2, ground := Ground.phase }, { on := 3, ground := Ground.phase }, { on := 4, ground := Ground.phase }, { on := 5, ground := Ground.phase }, { on := 6, ground := Ground.phase }, { on := 7, ground := Ground.phase }, { on := 8, ground := Ground.phase }, { on := 9, ground := Ground.phase }, { on := 10, ground := Ground.phase }, { on := 11, ground := Ground.phase }, { on := 12, ground := Ground.phase }, { on := 13, ground := Ground.phase }, { on := 14, ground := Ground.phase }, { on := 15, ground := Ground.phase }, { on := 16, ground := Ground.phase }, { on := 17, ground := Ground.phase }], guard := none }) (v := _) rfl (by kernel_rfl) (by kernel_rfl) (by kernel_rfl) (fun _ _ _ h => h) (Or.inl ⟨by rfl, ?hyA14⟩) ?reA14
      case hyA14 => (intro W hSw; (try dsimp only at hSw); go_simp; try with_reducible rfl)
      try simp only [Act.put, List.setIfInBounds_toArray, List.set_cons_zero, List.set_cons_succ]
      refine' wpAnyJ_takeW (i := 19) (oi := { dst := some 56, op := Op.fieldAddr 91 (Operand.tmp 55) 2, type := 0, pos := "ids.go:126", after := #[{ on := 18, ground := Ground.data }, { on := 0, ground := Ground.phase }, { on := 1, ground := Ground.phase }, { on := 2, ground := Ground.phase }, { on := 3, ground := Ground.phase }, { on := 4, ground := Ground.phase }, { on := 5, ground := Ground.phase }, { on := 6, ground := Ground.phase }, { on := 7, ground := Ground.phase }, { on := 8, ground := Ground.phase }, { on := 9, ground := Ground.phase }, { on := 10, ground := Ground.phase }, { on := 11, ground := Ground.phase }, { on := 12, ground := Ground.phase }, { on := 13, ground := Ground.phase }, { on := 14, ground := Ground.phase }, { on := 15, ground := Ground.phase }, { on := 16, ground := Ground.phase }, { on := 17, ground := Ground.phase }], guard := none }) (v := _) rfl (by kernel_rfl) (by kernel_rfl) (by kernel_rfl) (fun _ _ _ h => h) (Or.inl ⟨by rfl, ?hyA15⟩) ?reA15
      case hyA15 => (intro W hSw; (try dsimp only at hSw); go_simp; try with_reducible rfl)
      try simp only [Act.put, List.setIfInBounds_toArray, List.set_cons_zero, List.set_cons_succ]
      refine wpAnyJ_ready (rs := [20]) (by kernel_rfl) (by simp) ?_
      refine AllReadyJ.cons (o := { dst := none, op := Op.store 41 (Operand.tmp 56) (Operand.tmp 52), type := 0, pos := "ids.go:126", after := #[{ on := 19, ground := Ground.data }, { on := 14, ground := Ground.data }, { on := 17, ground := Ground.chain }, { on := 0, ground := Ground.phase }, { on := 1, ground := Ground.phase }, { on := 2, ground := Ground.phase }, { on := 3, ground := Ground.phase }, { on := 4, ground := Ground.phase }, { on := 5, ground := Ground.phase }, { on := 6, ground := Ground.phase }, { on := 7, ground := Ground.phase }, { on := 8, ground := Ground.phase }, { on := 9, ground := Ground.phase }, { on := 10, ground := Ground.phase }, { on := 11, ground := Ground.phase }, { on := 12, ground := Ground.phase }, { on := 13, ground := Ground.phase }, { on := 14, ground := Ground.phase }, { on := 15, ground := Ground.phase }, { on := 16, ground := Ground.phase }, { on := 17, ground := Ground.phase }], guard := none }) rfl (fun K hK => ?_) AllReadyJ.nil
      go_simp
      refine hK.out _ _ (fun h => absurd h (by decide)) ?_
      clear hK K
      try simp only [Act.put, List.setIfInBounds_toArray, List.set_cons_zero, List.set_cons_succ]
      refine wpAnyJ_done (by kernel_rfl) ?_ _
      refine NoPanic.normal ?_
      go_wp2_with fail
      go_ret2
      have F := H.out.fin T10.out
      exact ⟨rfl, _, _, F.1, T10.out.2.2.2.1, T10.out.2.2.2.2.1, F.2⟩
    refine AllReadyJ.cons (o := { dst := some 51, op := Op.buildSlice 41 1 #[(0, Operand.tmp 50)], type := 41, pos := "ids.go:126", after := #[{ on := 12, ground := Ground.data }], guard := none }) rfl (fun K hK => ?_) AllReadyJ.nil
    go_simp
    refine hK.out _ _ (fun _ _ => (mid_cells (H.out.mid ((T0.out.alloc _).alloc _))).1) ?_
    clear hK K
    try simp only [Act.put, List.setIfInBounds_toArray, List.set_cons_zero, List.set_cons_succ]
    refine wpAnyJ_ready (rs := [7]) (by kernel_rfl) (by simp) ?_
    refine AllReadyJ.cons (o := { dst := some 45, op := Op.call { callee := Callee.builtin Builtin.append, args := #[Operand.tmp 43, Operand.tmp 44], argTypes := #[79, 79] }, type := 79, pos := "ids.go:126", after := #[{ on := 5, ground := Ground.data }, { on := 6, ground := Ground.data }], guard := none }) rfl (fun K hK => ?_) AllReadyJ.nil
    refine step_append_lies _ rfl (.tmp 43) (.tmp 44) 79 rfl 0 3 i3 (.int .i64 0) 1 8 Tryz.underlying79 hi3 hx0 hx1 hx2 rfl (by decide) (.slice aog gs.length cg) gs.length (ic gs) (by simp [Act.eval]) ((T0.out.alloc _).alloc _).1 ⟨w.heap.size, 0, none⟩ 1 1 [.int .i64 0] (by simp [Act.eval]) rfl (by intro j u hj; match j, hj with | 0, hj => simp at hj; subst hj; simp [Addr.add]) (by intro u hu; simp at hu; subst hu; rfl) (by omega) (by unfold maxLen; omega) (by omega) (Nat.zero_le _) _ rfl ?_; intro g9 c9 w9 ho9 hg9 ha9 _
    have T9 := hide (((T0.out.alloc _).alloc _).growG (x := 0) ho9 hg9 ha9)
    have s0 : w9.cell? ⟨w.heap.size + 1, 0, none⟩ = some (.int .i64 0) := hg9.cell (by simp) (fun e => by have := (HGL.out _ e.symm).2; first | omega | (simp at this <;> omega))
    have s1 : w9.cell? ⟨w.heap.size + 1, 1, none⟩ = some (.int .i64 0) := hg9.cell (by simp) (fun e => by have := (HGL.out _ e.symm).2; first | omega | (simp at this <;> omega))
    clear ho9 hg9 ha9
    refine hK.out _ _ (fun _ _ => (mid_cells (H.out.mid T9.out)).1) ?_
    clear hK K
    try simp only [Act.put, List.setIfInBounds_toArray, List.set_cons_zero, List.set_cons_succ]
    refine wpAnyJ_ready (rs := [14]) (by kernel_rfl) (by simp) ?_
    refine AllReadyJ.cons (o := { dst := some 52, op := Op.call { callee := Callee.builtin Builtin.append, args := #[Operand.tmp 49, Operand.tmp 51], argTypes := #[41, 41] }, type := 41, pos := "ids.go:126", after := #[{ on := 11, ground := Ground.data }, { on := 13, ground := Ground.data }, { on := 7, ground := Ground.chain }], guard := none }) rfl (fun K hK => ?_) AllReadyJ.nil
    refine step_append_lies _ rfl (.tmp 49) (.tmp 51) 41 rfl 0 34 i41 (.agg #[.int .i64 0, .int .i64 0]) 2 16 Tryz.underlying41 hi41 hy0 hy1 hy2 rfl (by decide) (.slice aol lv.length cl) lv.length (ec lv) (by simp [Act.eval]) T9.out.2.1 ⟨w.heap.size + 1, 0, none⟩ 1 1 [.int .i64 0, .int .i64 0] (by simp [Act.eval]) rfl (by intro j u hj; match j, hj with | 0, hj => simp at hj; subst hj; simpa [Addr.add] using s0 | 1, hj => simp at hj; subst hj; simpa [Addr.add] using s1) (by intro u hu; simp at hu; subst hu; rfl) (by omega) (by unfold maxLen; omega) (by omega) (Nat.zero_le _) _ rfl ?_; intro g8 c8 w8 ho8 hg8 ha8 _
    have T10 := hide (T9.out.growL (a := 0) (b := 0) ho8 hg8 ha8)
    clear ho8 hg8 ha8
    refine hK.out _ _ (fun _ _ => (mid_cells (H.out.mid T10.out)).1) ?_
    clear hK K
    obtain ⟨⟨d1, d2⟩, y1, y2⟩ := mid_cells (H.out.mid T10.out)
    try simp only [Act.put, List.setIfInBounds_toArray, List.set_cons_zero, List.set_cons_succ]
    refine' wpAnyJ_takeW (i := 15) (oi := { dst := some 53, op := Op.nilCheck (Operand.tmp 38), type := 0, pos := "ids.go:126", after := #[{ on := 0, ground := Ground.data }, { on := 0, ground := Ground.phase }, { on := 1, ground := Ground.textOnly Departure.lateStores }, { on := 2, ground := Ground.phase }, { on := 3, ground := Ground.phase }, { on := 4, ground := Ground.phase }, { on := 5, ground := Ground.phase }, { on := 6, ground := Ground.phase }, { on := 7, ground := Ground.phase }, { on := 8, ground := Ground.textOnly Departure.lateStores }, { on := 9, ground := Ground.textOnly Departure.lateStoresUnsure }, { on := 10, ground := Ground.textOnly Departure.lateStoresUnsure }, { on := 11, ground := Ground.phase }, { on := 12, ground := Ground.textOnly Departure.lateStoresUnsure }, { on := 13, ground := Ground.textOnly Departure.lateStoresUnsure }, { on := 14, ground := Ground.phase }], guard := none }) (v := _) rfl (by kernel_rfl) (by kernel_rfl) (by kernel_rfl) (fun _ _ _ h => h) (Or.inl ⟨by rfl, ?hyA16⟩) ?reA16
    case hyA16 => (intro W hSw; (try dsimp only at hSw); go_simp; try with_reducible rfl)
    try simp only [Act.put, List.setIfInBounds_toArray, List.set_cons_zero, List.set_cons_succ]
    refine' wpAnyJ_takeW (i := 16) (oi := { dst := some 54, op := Op.fieldAddr 91 (Operand.tmp 53) 1, type := 0, pos := "ids.go:126", after := #[{ on := 15, ground := Ground.data }, { on := 0, ground := Ground.phase }, { on := 1, ground := Ground.textOnly Departure.lateStores }, { on := 2, ground := Ground.phase }, { on := 3, ground := Ground.phase }, { on := 4, ground := Ground.phase }, { on := 5, ground := Ground.phase }, { on := 6, ground := Ground.phase }, { on := 7, ground := Ground.phase }, { on := 8, ground := Ground.textOnly Departure.lateStores }, { on := 9, ground := Ground.textOnly Departure.lateStoresUnsure }, { on := 10, ground := Ground.textOnly Departure.lateStoresUnsure }, { on := 11, ground := Ground.phase }, { on := 12, ground := Ground.textOnly Departure.lateStoresUnsure }, { on := 13, ground := Ground.textOnly Departure.lateStoresUnsure }, { on := 14, ground := Ground.phase }], guard := none }) (v := _) rfl (by kernel_rfl) (by kernel_rfl) (by kernel_rfl) (fun _ _ _ h => h) (Or.inl ⟨by rfl, ?hyA17⟩) ?reA17
    case hyA17 => (intro W hSw; (try dsimp only at hSw); go_simp; try with_reducible rfl)
    try simp only [Act.put, List.setIfInBounds_toArray, List.set_cons_zero, List.set_cons_succ]
    refine wpAnyJ_ready (rs := [17]) (by kernel_rfl) (by simp) ?_
    refine AllReadyJ.cons (o := { dst := none, op := Op.store 79 (Operand.tmp 54) (Operand.tmp 45), type := 0, pos := "ids.go:126", after := #[{ on := 16, ground := Ground.data }, { on := 7, ground := Ground.data }, { on := 14, ground := Ground.chain }, { on := 0, ground := Ground.phase }, { on := 1, ground := Ground.textOnly Departure.lateStores }, { on := 2, ground := Ground.phase }, { on := 3, ground := Ground.phase }, { on := 4, ground := Ground.phase }, { on := 5, ground := Ground.phase }, { on := 6, ground := Ground.phase }, { on := 7, ground := Ground.phase }, { on := 8, ground := Ground.textOnly Departure.lateStores }, { on := 9, ground := Ground.textOnly Departure.lateStoresUnsure }, { on := 10, ground := Ground.textOnly Departure.lateStoresUnsure }, { on := 11, ground := Ground.phase }, { on := 12, ground := Ground.textOnly Departure.lateStoresUnsure }, { on := 13, ground := Ground.textOnly Departure.lateStoresUnsure }, { on := 14, ground := Ground.phase }], guard := none }) rfl (fun K hK => ?_) AllReadyJ.nil
    go_simp
    refine hK.out _ _ (fun h => absurd h (by decide)) ?_
    clear hK K
    try simp only [Act.put, List.setIfInBounds_toArray, List.set_cons_zero, List.set_cons_succ]
    refine' wpAnyJ_takeW (i := 18) (oi := { dst := some 55, op := Op.nilCheck (Operand.tmp 39), type := 0, pos := "ids.go:126", after := #[{ on := 1, ground := Ground.data }, { on := 0, ground := Ground.phase }, { on := 1, ground := Ground.phase }, { on := 2, ground := Ground.phase }, { on := 3, ground := Ground.phase }, { on := 4, ground := Ground.phase }, { on := 5, ground := Ground.phase }, { on := 6, ground := Ground.phase }, { on := 7, ground := Ground.phase }, { on := 8, ground := Ground.phase }, { on := 9, ground := Ground.phase }, { on := 10, ground := Ground.phase }, { on := 11, ground := Ground.phase }, { on := 12, ground := Ground.phase }, { on := 13, ground := Ground.phase }, { on := 14, ground := Ground.phase }, { on := 15, ground := Ground.phase }, { on := 16, ground := Ground.phase }, { on := 17, ground := Ground.phase }], guard := none }) (v := _) rfl (by kernel_rfl) (by kernel_rfl) (by kernel_rfl) (fun _ _ _ h => h) (Or.inl ⟨by rfl, ?hyA18⟩) ?reA18
    case hyA18 => (intro W hSw; (try dsimp only at hSw); go_simp; try with_reducible rfl)
    try simp only [Act.put, List.setIfInBounds_toArray, List.set_cons_zero, List.set_cons_succ]
    refine' wpAnyJ_takeW (i := 19) (oi := { dst := some 56, op := Op.fieldAddr 91 (Operand.tmp 55) 2, type := 0, pos := "ids.go:126", after := #[{ on := 18, ground := Ground.data }, { on := 0, ground := Ground.phase }, { on := 1, ground := Ground.phase }, { on := 2, ground := Ground.phase }, { on := 3, ground := Ground.phase }, { on := 4, ground := Ground.phase }, { on := 5, ground := Ground.phase }, { on := 6, ground := Ground.phase }, { on := 7, ground := Ground.phase }, { on := 8, ground := Ground.phase }, { on := 9, ground := Ground.phase }, { on := 10, ground := Ground.phase }, { on := 11, ground := Ground.phase }, { on := 12, ground := Ground.phase }, { on := 13, ground := Ground.phase }, { on := 14, ground := Ground.phase }, { on := 15, ground := Ground.phase }, { on := 16, ground := Ground.phase }, { on := 17, ground := Ground.phase }], guard := none }) (v := _) rfl (by kernel_rfl) (by kernel_rfl) (by kernel_rfl) (fun _ _ _ h => h) (Or.inl ⟨by rfl, ?hyA19⟩) ?reA19
    case hyA19 => (intro W hSw; (try dsimp only at hSw); go_simp; try with_reducible rfl)
    try simp only [Act.put, List.setIfInBounds_toArray, List.set_cons_zero, List.set_cons_succ]
    refine wpAnyJ_ready (rs := [20]) (by kernel_rfl) (by simp) ?_
    refine AllReadyJ.cons (o := { dst := none, op := Op.store 41 (Operand.tmp 56) (Operand.tmp 52), type := 0, pos := "ids.go:126", after := #[{ on := 19, ground := Ground.data }, { on := 14, ground := Ground.data }, { on := 17, ground := Ground.chain }, { on := 0, ground := Ground.phase }, { on := 1, ground := Ground.phase }, { on := 2, ground := Ground.phase }, { on := 3, ground := Ground.phase }, { on := 4, ground := Ground.phase }, { on := 5, ground := Ground.phase }, { on := 6, ground := Ground.phase }, { on := 7, ground := Ground.phase }, { on := 8, ground := Ground.phase }, { on := 9, ground := Ground.phase }, { on := 10, ground := Ground.phase }, { on := 11, ground := Ground.phase }, { on := 12, ground := Ground.phase }, { on := 13, ground := Ground.phase }, { on := 14, ground := Ground.phase }, { on := 15, ground := Ground.phase }, { on := 16, ground := Ground.phase }, { on := 17, ground := Ground.phase }], guard := none }) rfl (fun K hK => ?_) AllReadyJ.nil
    go_simp
    refine hK.out _ _ (fun h => absurd h (by decide)) ?_
    clear hK K
    try simp only [Act.put, List.setIfInBounds_toArray, List.set_cons_zero, List.set_cons_succ]
    refine wpAnyJ_done (by kernel_rfl) ?_ _
    refine NoPanic.normal ?_
    go_wp2_with fail
    go_ret2
    have F := H.out.fin T10.out
    exact ⟨rfl, _, _, F.1, T10.out.2.2.2.1, T10.out.2.2.2.2.1, F.2⟩
  refine AllReadyJ.cons (o := { dst := some 51, op := Op.buildSlice 41 1 #[(0, Operand.tmp 50)], type := 41, pos := "ids.go:126", after := #[{ on := 12, ground := Ground.data }], guard := none }) rfl (fun K hK => ?_) AllReadyJ.nil
  go_simp
  refine hK.out _ _ (fun _ _ => (mid_cells (H.out.mid (T0.out.alloc _))).1) ?_
  clear hK K
  try simp only [Act.put, List.setIfInBounds_toArray, List.set_cons_zero, List.set_cons_succ]
  refine wpAnyJ_ready (rs := [6]) (by kernel_rfl) (by simp) ?_
  refine AllReadyJ.cons (o := { dst := some 44, op := Op.buildSlice 79 1 #[(0, Operand.const (Value.int IntKind.i64 0))], type := 79, pos := "ids.go:126", after := #[], guard := none }) rfl (fun K hK => ?_) AllReadyJ.nil
  go_simp
  refine hK.out _ _ (fun _ _ => (mid_cells (H.out.mid ((T0.out.alloc _).alloc _))).1) ?_
  clear hK K
  try simp only [Act.put, List.setIfInBounds_toArray, List.set_cons_zero, List.set_cons_succ]
  refine wpAnyJ_ready (rs := [7]) (by kernel_rfl) (by simp) ?_
  refine AllReadyJ.cons (o := { dst := some 45, op := Op.call { callee := Callee.builtin Builtin.append, args := #[Operand.tmp 43, Operand.tmp 44], argTypes := #[79, 79] }, type := 79, pos := "ids.go:126", after := #[{ on := 5, ground := Ground.data }, { on := 6, ground := Ground.data }], guard := none }) rfl (fun K hK => ?_) AllReadyJ.nil
  refine step_append_lies _ rfl (.tmp 43) (.tmp 44) 79 rfl 0 3 i3 (.int .i64 0) 1 8 Tryz.underlying79 hi3 hx0 hx1 hx2 rfl (by decide) (.slice aog gs.length cg) gs.length (ic gs) (by simp [Act.eval]) ((T0.out.alloc _).alloc _).1 ⟨w.heap.size + 1, 0, none⟩ 1 1 [.int .i64 0] (by simp [Act.eval]) rfl (by intro j u hj; match j, hj with | 0, hj => simp at hj; subst hj; simp [Addr.add]) (by intro u hu; simp at hu; subst hu; rfl) (by omega) (by unfold maxLen; omega) (by omega) (Nat.zero_le _) _ rfl ?_; intro g9 c9 w9 ho9 hg9 ha9 _
  have T9 := hide (((T0.out.alloc _).alloc _).growG (x := 0) ho9 hg9 ha9)
  have s0 : w9.cell? ⟨w.heap.size, 0, none⟩ = some (.int .i64 0) := hg9.cell (by simp) (fun e => by have := (HGL.out _ e.symm).2; first | omega | (simp at this <;> omega))
  have s1 : w9.cell? ⟨w.heap.size, 1, none⟩ = some (.int .i64 0) := hg9.cell (by simp) (fun e => by have := (HGL.out _ e.symm).2; first | omega | (simp at this <;> omega))
  clear ho9 hg9 ha9
  refine hK.out _ _ (fun _ _ => (mid_cells (H.out.mid T9.out)).1) ?_
  clear hK K
  try simp only [Act.put, List.setIfInBounds_toArray, List.set_cons_zero, List.set_cons_succ]
  refine wpAnyJ_ready (rs := [14]) (by kernel_rfl) (by simp) ?_
  refine AllReadyJ.cons (o := { dst := some 52, op := Op.call { callee := Callee.builtin Builtin.append, args := #[Operand.tmp 49, Operand.tmp 51], argTypes := #[41, 41] }, type := 41, pos := "ids.go:126", after := #[{ on := 11, ground := Ground.data }, { on := 13, ground := Ground.data }, { on := 7, ground := Ground.chain }], guard := none }) rfl (fun K hK => ?_) AllReadyJ.nil
  refine step_append_lies _ rfl (.tmp 49) (.tmp 51) 41 rfl 0 34 i41 (.agg #[.int .i64 0, .int .i64 0]) 2 16 Tryz.underlying41 hi41 hy0 hy1 hy2 rfl (by decide) (.slice aol lv.length cl) lv.length (ec lv) (by simp [Act.eval]) T9.out.2.1 ⟨w.heap.size, 0, none⟩ 1 1 [.int .i64 0, .int .i64 0] (by simp [Act.eval]) rfl (by intro j u hj; match j, hj with | 0, hj => simp at hj; subst hj; simpa [Addr.add] using s0 | 1, hj => simp at hj; subst hj; simpa [Addr.add] using s1) (by intro u hu; simp at hu; subst hu; rfl) (by omega) (by unfold maxLen; omega) (by omega) (Nat.zero_le _) _ rfl ?_; intro g8 c8 w8 ho8 hg8 ha8 _
  have T10 := hide (T9.out.growL (a := 0) (b := 0) ho8 hg8 ha8)
  clear ho8 hg8 ha8
  refine hK.out _ _ (fun _ _ => (mid_cells (H.out.mid T10.out)).1) ?_
  clear hK K
  obtain ⟨⟨d1, d2⟩, y1, y2⟩ := mid_cells (H.out.mid T10.out)
  try simp only [Act.put, List.setIfInBounds_toArray, List.set_cons_zero, List.set_cons_succ]
  refine' wpAnyJ_takeW (i := 15) (oi := { dst := some 53, op := Op.nilCheck (Operand.tmp 38), type := 0, pos := "ids.go:126", after := #[{ on := 0, ground := Ground.data }, { on := 0, ground := Ground.phase }, { on := 1, ground := Ground.textOnly Departure.lateStores }, { on := 2, ground := Ground.phase }, { on := 3, ground := Ground.phase }, { on := 4, ground := Ground.phase }, { on := 5, ground := Ground.phase }, { on := 6, ground := Ground.phase }, { on := 7, ground := Ground.phase }, { on := 8, ground := Ground.textOnly Departure.lateStores }, { on := 9, ground := Ground.textOnly Departure.lateStoresUnsure }, { on := 10, ground := Ground.textOnly Departure.lateStoresUnsure }, { on := 11, ground := Ground.phase }, { on := 12, ground := Ground.textOnly Departure.lateStoresUnsure }, { on := 13, ground := Ground.textOnly Departure.lateStoresUnsure }, { on := 14, ground := Ground.phase }], guard := none }) (v := _) rfl (by kernel_rfl) (by kernel_rfl) (by kernel_rfl) (fun _ _ _ h => h) (Or.inl ⟨by rfl, ?hyA20⟩) ?reA20
  case hyA20 => (intro W hSw; (try dsimp only at hSw); go_simp; try with_reducible rfl)
  try simp only [Act.put, List.setIfInBounds_toArray, List.set_cons_zero, List.set_cons_succ]
  refine' wpAnyJ_takeW (i := 16) (oi := { dst := some 54, op := Op.fieldAddr 91 (Operand.tmp 53) 1, type := 0, pos := "ids.go:126", after := #[{ on := 15, ground := Ground.data }, { on := 0, ground := Ground.phase }, { on := 1, ground := Ground.textOnly Departure.lateStores }, { on := 2, ground := Ground.phase }, { on := 3, ground := Ground.phase }, { on := 4, ground := Ground.phase }, { on := 5, ground := Ground.phase }, { on := 6, ground := Ground.phase }, { on := 7, ground := Ground.phase }, { on := 8, ground := Ground.textOnly Departure.lateStores }, { on := 9, ground := Ground.textOnly Departure.lateStoresUnsure }, { on := 10, ground := Ground.textOnly Departure.lateStoresUnsure }, { on := 11, ground := Ground.phase }, { on := 12, ground := Ground.textOnly Departure.lateStoresUnsure }, { on := 13, ground := Ground.textOnly Departure.lateStoresUnsure }, { on := 14, ground := Ground.phase }], guard := none }) (v := _) rfl (by kernel_rfl) (by kernel_rfl) (by kernel_rfl) (fun _ _ _ h => h) (Or.inl ⟨by rfl, ?hyA21⟩) ?reA21
  case hyA21 => (intro W hSw; (try dsimp only at hSw); go_simp; try with_reducible rfl)
  try simp only [Act.put, List.setIfInBounds_toArray, List.set_cons_zero, List.set_cons_succ]
  refine wpAnyJ_ready (rs := [17]) (by kernel_rfl) (by simp) ?_
  refine AllReadyJ.cons (o := { dst := none, op := Op.store 79 (Operand.tmp 54) (Operand.tmp 45), type := 0, pos := "ids.go:126", after := #[{ on := 16, ground := Ground.data }, { on := 7, ground := Ground.data }, { on := 14, ground := Ground.chain }, { on := 0, ground := Ground.phase }, { on := 1, ground := Ground.textOnly Departure.lateStores }, { on := 2, ground := Ground.phase }, { on := 3, ground := Ground.phase }, { on := 4, ground := Ground.phase }, { on := 5, ground := Ground.phase }, { on := 6, ground := Ground.phase }, { on := 7, ground := Ground.phase }, { on := 8, ground := Ground.textOnly Departure.lateStores }, { on := 9, ground := Ground.textOnly Departure.lateStoresUnsure }, { on := 10, ground := Ground.textOnly Departure.lateStoresUnsure }, { on := 11, ground := Ground.phase }, { on := 12, ground := Ground.textOnly Departure.lateStoresUnsure }, { on := 13, ground := Ground.textOnly Departure.lateStoresUnsure }, { on := 14, ground := Ground.phase }], guard := none }) rfl (fun K hK => ?_) AllReadyJ.nil
  go_simp
  refine hK.out _ _ (fun h => absurd h (by decide)) ?_
  clear hK K
  try simp only [Act.put, List.setIfInBounds_toArray, List.set_cons_zero, List.set_cons_succ]
  refine' wpAnyJ_takeW (i := 18) (oi := { dst := some 55, op := Op.nilCheck (Operand.tmp 39), type := 0, pos := "ids.go:126", after := #[{ on := 1, ground := Ground.data }, { on := 0, ground := Ground.phase }, { on := 1, ground := Ground.phase }, { on := 2, ground := Ground.phase }, { on := 3, ground := Ground.phase }, { on := 4, ground := Ground.phase }, { on := 5, ground := Ground.phase }, { on := 6, ground := Ground.phase }, { on := 7, ground := Ground.phase }, { on := 8, ground := Ground.phase }, { on := 9, ground := Ground.phase }, { on := 10, ground := Ground.phase }, { on := 11, ground := Ground.phase }, { on := 12, ground := Ground.phase }, { on := 13, ground := Ground.phase }, { on := 14, ground := Ground.phase }, { on := 15, ground := Ground.phase }, { on := 16, ground := Ground.phase }, { on := 17, ground := Ground.phase }], guard := none }) (v := _) rfl (by kernel_rfl) (by kernel_rfl) (by kernel_rfl) (fun _ _ _ h => h) (Or.inl ⟨by rfl, ?hyA22⟩) ?reA22
  case hyA22 => (intro W hSw; (try dsimp only at hSw); go_simp; try with_reducible rfl)
  try simp only [Act.put, List.setIfInBounds_toArray, List.set_cons_zero, List.set_cons_succ]
  refine' wpAnyJ_takeW (i := 19) (oi := { dst := some 56, op := Op.fieldAddr 91 (Operand.tmp 55) 2, type := 0, pos := "ids.go:126", after := #[{ on := 18, ground := Ground.data }, { on := 0, ground := Ground.phase }, { on := 1, ground := Ground.phase }, { on := 2, ground := Ground.phase }, { on := 3, ground := Ground.phase }, { on := 4, ground := Ground.phase }, { on := 5, ground := Ground.phase }, { on := 6, ground := Ground.phase }, { on := 7, ground := Ground.phase }, { on := 8, ground := Ground.phase }, { on := 9, ground := Ground.phase }, { on := 10, ground := Ground.phase }, { on := 11, ground := Ground.phase }, { on := 12, ground := Ground.phase }, { on := 13, ground := Ground.phase }, { on := 14, ground := Ground.phase }, { on := 15, ground := Ground.phase }, { on := 16, ground := Ground.phase }, { on := 17, ground := Ground.phase }], guard := none }) (v := _) rfl (by kernel_rfl) (by kernel_rfl) (by kernel_rfl) (fun _ _ _ h => h) (Or.inl ⟨by rfl, ?hyA23⟩) ?reA23
  case hyA23 => (intro W hSw; (try dsimp only at hSw); go_simp; try with_reducible rfl)
  try simp only [Act.put, List.setIfInBounds_toArray, List.set_cons_zero, List.set_cons_succ]
  refine wpAnyJ_ready (rs := [20]) (by kernel_rfl) (by simp) ?_
  refine AllReadyJ.cons (o := { dst := none, op := Op.store 41 (Operand.tmp 56) (Operand.tmp 52), type := 0, pos := "ids.go:126", after := #[{ on := 19, ground := Ground.data }, { on := 14, ground := Ground.data }, { on := 17, ground := Ground.chain }, { on := 0, ground := Ground.phase }, { on := 1, ground := Ground.phase }, { on := 2, ground := Ground.phase }, { on := 3, ground := Ground.phase }, { on := 4, ground := Ground.phase }, { on := 5, ground := Ground.phase }, { on := 6, ground := Ground.phase }, { on := 7, ground := Ground.phase }, { on := 8, ground := Ground.phase }, { on := 9, ground := Ground.phase }, { on := 10, ground := Ground.phase }, { on := 11, ground := Ground.phase }, { on := 12, ground := Ground.phase }, { on := 13, ground := Ground.phase }, { on := 14, ground := Ground.phase }, { on := 15, ground := Ground.phase }, { on := 16, ground := Ground.phase }, { on := 17, ground := Ground.phase }], guard := none }) rfl (fun K hK => ?_) AllReadyJ.nil
  go_simp
  refine hK.out _ _ (fun h => absurd h (by decide)) ?_
  clear hK K
  try simp only [Act.put, List.setIfInBounds_toArray, List.set_cons_zero, List.set_cons_succ]
  refine wpAnyJ_done (by kernel_rfl) ?_ _
  refine NoPanic.normal ?_
  go_wp2_with fail
  go_ret2
  have F := H.out.fin T10.out
  exact ⟨rfl, _, _, F.1, T10.out.2.2.2.1, T10.out.2.2.2.2.1, F.2⟩
end Go.Proofs.YtfbhoemfabgjpaaGreat
