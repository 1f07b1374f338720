import Derived.Test.YtafmiolehlagkaaGreatOd03
import Derived.Test.YtafmiolehlagkaaGreatOd04
import Derived.Laws.ResultCell
/-
  The number that comes next.
-/
namespace Go.Proofs.YtafmiolehlagkaaGreat
open Go.RowKit
set_option maxRecDepth 100000
set_option maxHeartbeats 2000000 in
set_option maxRecDepth 100000 in
theorem next_free (g n i : Nat) (vg vl vf : Value) (gs fr : List Nat) (lv : List (Nat × Nat)) (w : World) (h : Pm w g n vg vl vf gs (i :: fr) lv) (hf : fr.length ≤ 1000000) :
    Calls Tryz.prog 147 #[.pointer (some ⟨g, 0, none⟩)] w fun e w' => e = .returned (.tuple #[.int .i64 (i : Int), .int .i64 0]) ∧ ∃ vf', Pm w' g n vg vl vf' gs fr lv ∧ vf'.ownBlock = vf.ownBlock ∧ Mv w w' (fun k => k = g ∨ vf.ownBlock = some k) := by
  obtain ⟨c0, c1, c2, c3⟩ := h.cell
  obtain ⟨gf, c, rfl, hc1, hc2⟩ := own_form h.2.2.2.1 (by simp)
  have HD := hide (delete_first gf c i fr w h.2.2.2.1 hf)
  have e0 := own_int h.2.2.2.1 0 (by simp)
  have hn5 := h.2.2.2.2.1.2.2
  have H := hide h
  simp only [List.length_cons, List.getElem_cons_zero] at *
  have t1 : (fr.length : Int) + 1 > 0 := by omega
  clear h
  go_enter Tryz.func147, Tryz.ntmps147
  go_wp2_with fail
  refine HD.out.mono ?_
  rintro e w1 ⟨rfl, ho1, hm1⟩
  have hb1 := hm1.at H.out.1 (fun e => hn5 (by rw [e]; rfl))
  have d3 : w1.cell? ⟨g, 3, none⟩ = some (.slice (some ⟨gf, 0, none⟩) (fr.length + 1) c) := by rw [cell_of_row w1 g _ _ 163 (0, 0) hb1]; rfl
  have f3 : w1.frozen? ⟨g, 3, none⟩ = false := frozen_of_row w1 g 3 _ 163 hb1
  have HO1 := hide ho1
  have HM1 := hide hm1
  have HB1 := hide hb1
  clear ho1 hm1 hb1 HD
  go_wp2_with fail
  go_ret2
  obtain ⟨a1, a2, a3, a4, ⟨a5, a6, a7⟩, a8, a9, a10⟩ := H.out
  refine ⟨rfl, .slice (some ⟨gf, 0, none⟩) fr.length c, ⟨?_, own_set (HM1.out.own a2 (fun k e1 e2 => a9 k e1 (by rw [e2]; rfl))) a5, own_set (HM1.out.own a3 (fun k e1 e2 => a10 k e1 (by rw [e2]; rfl))) a6, own_set HO1.out a7, ⟨a5, a6, a7⟩, a8, a9, a10⟩, rfl, (HM1.out.mono (fun k _ e => .inr (by rw [e]; rfl))).set (.inl rfl) _ _⟩
  rw [heap_setCell_same w1 g 3 _ 163 _ HB1.out]
  rfl
set_option maxHeartbeats 2000000 in
theorem next_full (g : Nat) (vg vl vf : Value) (gs : List Nat) (lv : List (Nat × Nat)) (w : World) (h : Pm w g gs.length vg vl vf gs [] lv) :
    Calls Tryz.prog 147 #[.pointer (some ⟨g, 0, none⟩)] w fun e w' => e = .returned (.tuple #[.int .i64 0, .int .i64 40]) ∧ w' = w := by
  obtain ⟨c0, c1, c2, c3⟩ := h.cell
  obtain ⟨aof, cf, rfl⟩ := own_len h.2.2.2.1
  obtain ⟨aog, cg, rfl⟩ := own_len h.2.1
  clear h
  go_enter Tryz.func147, Tryz.ntmps147
  go_wp2_with fail
  go_ret2
  exact ⟨rfl, rfl⟩
/-- Two rows of a pool that grow, since the world w. -/
def Tw (w : World) (vg vl vg' vl' : Value) (gs : List Nat) (lv : List (Nat × Nat)) (W : World) : Prop :=
  W.ownsRow 0 3 1 vg' gs.length (ic gs) ∧ W.ownsRow 0 29 2 vl' lv.length (ec lv) ∧ Ap vg' vl' ∧ (∀ k, vg'.ownBlock = some k → vg.ownBlock = some k ∨ w.heap.size ≤ k) ∧ (∀ k, vl'.ownBlock = some k → vl.ownBlock = some k ∨ w.heap.size ≤ k) ∧ Mv w W (fun k => vg.ownBlock = some k ∨ vl.ownBlock = some k)
section
variable {w W W' : World} {vg vl vg' vl' : Value} {gs : List Nat} {lv : List (Nat × Nat)}
theorem Tw.later (h : Tw w vg vl vg' vl' gs lv W) (hb : Below W.heap.size W W') : Tw w vg vl vg' vl' gs lv W' :=
  ⟨own_later h.1 hb, own_later h.2.1 hb, h.2.2.1, h.2.2.2.1, h.2.2.2.2.1, h.2.2.2.2.2.later hb⟩
theorem Tw.alloc (h : Tw w vg vl vg' vl' gs lv W) (o : Obj) : Tw w vg vl vg' vl' gs lv (W.alloc o) := h.later (below_alloc W o)
theorem Tw.growG {g9 c9 x : Nat} (h : Tw w vg vl vg' vl' gs lv W) (ho : W'.ownsRow 0 3 1 (.slice (some ⟨g9, 0, none⟩) (gs.length + 1) c9) (gs.length + 1) (ic gs ++ [.int .i64 (x : Int)])) (hg : W.grownBy W' vg'.ownBlock) (ha : vg'.ownBlock = some g9 ∨ g9 = W.heap.size) : Tw w vg vl (.slice (some ⟨g9, 0, none⟩) (gs.length + 1) c9) vl' (gs ++ [x]) lv W' := by
  obtain ⟨h1, h2, h3, h4, h5, h6⟩ := h
  refine ⟨?_, own_kept h2 hg (fun k e1 e2 => h3 k e2 e1), fun k e1 e2 => ?_, fun k e => ?_, h5, h6.grown hg (fun k hk e => ?_)⟩
  · rw [List.length_append, ic_append]
    exact ho
  · simp only [Value.ownBlock, Option.some.injEq] at e1
    subst e1
    rcases ha with e | e
    · exact h3 _ e e2
    · have := (h2.lt _ e2).2
      omega
  · simp only [Value.ownBlock, Option.some.injEq] at e
    subst e
    rcases ha with e | e
    · exact h4 _ e
    · have := h6.size
      exact .inr (by omega)
  · rcases h4 k e with h | h
    · exact .inl h
    · omega
theorem Tw.growL {g9 c9 a b : Nat} (h : Tw w vg vl vg' vl' gs lv W) (ho : W'.ownsRow 0 29 2 (.slice (some ⟨g9, 0, none⟩) (lv.length + 1) c9) (lv.length + 1) (ec lv ++ [.int .i64 (a : Int), .int .i64 (b : Int)])) (hg : W.grownBy W' vl'.ownBlock) (ha : vl'.ownBlock = some g9 ∨ g9 = W.heap.size) : Tw w vg vl vg' (.slice (some ⟨g9, 0, none⟩) (lv.length + 1) c9) gs (lv ++ [(a, b)]) W' := by
  obtain ⟨h1, h2, h3, h4, h5, h6⟩ := h
  refine ⟨own_kept h1 hg (fun k e1 e2 => h3 k e1 e2), ?_, fun k e2 e1 => ?_, h4, fun k e => ?_, h6.grown hg (fun k hk e => ?_)⟩
  · rw [List.length_append, ec_append]
    exact ho
  · simp only [Value.ownBlock, Option.some.injEq] at e1
    subst e1
    rcases ha with e | e
    · exact h3 _ e2 e
    · have := (h1.lt _ e2).2
      omega
  · simp only [Value.ownBlock, Option.some.injEq] at e
    subst e
    rcases ha with e | e
    · exact h5 _ e
    · have := h6.size
      exact .inr (by omega)
  · rcases h5 k e with h | h
    · exact .inr h
    · omega
theorem Pm.two {g n : Nat} {vf : Value} {fr : List Nat} (h : Pm w g n vg vl vf gs fr lv) : Tw w vg vl vg vl gs lv w := ⟨h.2.1, h.2.2.1, h.2.2.2.2.2.1, fun _ e => .inl e, fun _ e => .inl e, Mv.refl _ _⟩
/-- The pool's own cells while its rows grow. -/
theorem Pm.mid {g n : Nat} {vf : Value} {fr gs' : List Nat} {lv' : List (Nat × Nat)} (h : Pm w g n vg vl vf gs fr lv) (hT : Tw w vg vl vg' vl' gs' lv' W) : W.heap[g]? = some (.cells #[.int .i64 (n : Int), vg, vl, vf] 163 (0, 0)) := hT.2.2.2.2.2.at h.1 (fun e => by
  rcases e with e | e
  · exact h.2.2.2.2.1.1 e
  · exact h.2.2.2.2.1.2.1 e)
theorem mid_cells {g n : Nat} {vf : Value} (h : W.heap[g]? = some (.cells #[.int .i64 (n : Int), vg, vl, vf] 163 (0, 0))) : (W.cell? ⟨g, 1, none⟩ = some vg ∧ W.cell? ⟨g, 2, none⟩ = some vl) ∧ W.frozen? ⟨g, 1, none⟩ = false ∧ W.frozen? ⟨g, 2, none⟩ = false := by
  refine ⟨⟨?_, ?_⟩, frozen_of_row W g 1 _ 163 h, frozen_of_row W g 2 _ 163 h⟩ <;> rw [cell_of_row W g _ _ 163 (0, 0) h] <;> rfl
/-- They are put down. -/
theorem Pm.fin {g n : Nat} {vf : Value} {fr gs' : List Nat} {lv' : List (Nat × Nat)} (h : Pm w g n vg vl vf gs fr lv) (hT : Tw w vg vl vg' vl' gs' lv' W) :
    Pm ((W.setCell ⟨g, 1, none⟩ vg').setCell ⟨g, 2, none⟩ vl') g n vg' vl' vf gs' fr lv' ∧ Mv w ((W.setCell ⟨g, 1, none⟩ vg').setCell ⟨g, 2, none⟩ vl') (fun k => k = g ∨ vg.ownBlock = some k ∨ vl.ownBlock = some k) := by
  have hb := h.mid hT
  have hlt := h.lt
  obtain ⟨h1, h2, h3, h4, h5, h6⟩ := hT
  obtain ⟨a1, a2, a3, a4, ⟨a5, a6, a7⟩, a8, a9, a10⟩ := h
  have n1 : vg'.ownBlock ≠ some g := fun e => by
    rcases h4 g e with h | h
    · exact a5 h
    · omega
  have n2 : vl'.ownBlock ≠ some g := fun e => by
    rcases h5 g e with h | h
    · exact a6 h
    · omega
  have hf : W.ownsRow 0 3 1 vf fr.length (ic fr) := h6.own a4 (fun k e1 e2 => by
    rcases e2 with e2 | e2
    · exact a9 k e2 e1
    · exact a10 k e2 e1)
  refine ⟨⟨?_, own_set (own_set h1 n1) n1, own_set (own_set h2 n2) n2, own_set (own_set hf a7) a7, ⟨n1, n2, a7⟩, h3, fun k e1 e2 => ?_, fun k e1 e2 => ?_⟩, ((h6.mono (fun k _ e => .inr e)).set (.inl rfl) _ _).set (.inl rfl) _ _⟩
  · rw [heap_setCell_same _ g 2 _ 163 _ (heap_setCell_same W g 1 _ 163 _ hb)]
    rfl
  · rcases h4 k e1 with h | h
    · exact a9 k h e2
    · have := (a4.lt k e2).2
      omega
  · rcases h5 k e1 with h | h
    · exact a10 k h e2
    · have := (a4.lt k e2).2
      omega
end
set_option maxHeartbeats 4000000 in
set_option maxRecDepth 100000 in
theorem next_new (g n : Nat) (vg vl vf : Value) (gs : List Nat) (lv : List (Nat × Nat)) (w : World) (h : Pm w g n vg vl vf gs [] lv) (hn : gs.length < n) (hnn : n ≤ 1000000) (hl : lv.length ≤ 1000000) :
    Calls Tryz.prog 147 #[.pointer (some ⟨g, 0, none⟩)] w fun e w' => e = .returned (.tuple #[.int .i64 (gs.length : Int), .int .i64 0]) ∧ ∃ vg' vl', Pm w' g n vg' vl' vf (gs ++ [0]) [] (lv ++ [(0, 0)]) ∧ (∀ k, vg'.ownBlock = some k → vg.ownBlock = some k ∨ w.heap.size ≤ k) ∧ (∀ k, vl'.ownBlock = some k → vl.ownBlock = some k ∨ w.heap.size ≤ k) ∧ Mv w w' (fun k => k = g ∨ vg.ownBlock = some k ∨ vl.ownBlock = some k) := by
  obtain ⟨i3, hi3, hx0, hx1, hx2⟩ := info_parts info3
  obtain ⟨i41, hi41, hy0, hy1, hy2⟩ := info_parts info41
  obtain ⟨c0, c1, c2, c3⟩ := h.cell
  obtain ⟨aof, cf, rfl⟩ := own_len h.2.2.2.1
  obtain ⟨aog, cg, rfl⟩ := own_len h.2.1
  obtain ⟨aol, cl, rfl⟩ := own_len h.2.2.1
  have t1 : ((gs.length : Int) == (n : Int)) = false := by rw [beq_eq_false_iff_ne]; omega
  have H := hide h
  have T0 := hide (h.two.later (below_drew w))
  have hgl := h.2.1.lt
  have HGL := hide hgl
  obtain ⟨m1, m2⟩ : gs.length ≤ 1000000 ∧ lv.length ≤ 1000000 := ⟨by omega, hl⟩
  clear h hgl
  go_enter Tryz.func147, Tryz.ntmps147
  go_wp2_with fail
  refine wp_region_noPanic ?_
  refine wp_region_late (J := fun i => i != 17 && i != 20) (S := fun W => W.cell? ⟨g, 1, none⟩ = some (.slice aog gs.length cg) ∧ W.cell? ⟨g, 2, none⟩ = some (.slice aol lv.length cl)) (by kernel_rfl) (mid_cells (H.out.mid T0.out)).1 (fun hHeld => ?_)
  refine' wpAnyJ_takeW (i := 0) (oi := { dst := some 38, op := Op.move (Operand.tmp 0), type := 105, pos := "ids.go:126", after := #[], guard := none }) (v := _) rfl (by kernel_rfl) (by kernel_rfl) (by kernel_rfl) (fun _ _ _ h => h) (Or.inl ⟨by rfl, ?hyA1⟩) ?reA1
  case hyA1 => (intro W hSw; (try dsimp only at hSw); go_simp; try with_reducible rfl)
  try simp only [Act.put, List.setIfInBounds_toArray, List.set_cons_zero, List.set_cons_succ]
  refine' wpAnyJ_takeW (i := 1) (oi := { dst := some 39, op := Op.move (Operand.tmp 0), type := 105, pos := "ids.go:126", after := #[{ on := 17, ground := Ground.gcOnly Departure.lateStores }], guard := none }) (v := _) rfl (by kernel_rfl) (by kernel_rfl) (by kernel_rfl) (fun _ _ _ h => h) (Or.inl ⟨by rfl, ?hyA2⟩) ?reA2
  case hyA2 => (intro W hSw; (try dsimp only at hSw); go_simp; try with_reducible rfl)
  try simp only [Act.put, List.setIfInBounds_toArray, List.set_cons_zero, List.set_cons_succ]
  refine' wpAnyJ_takeW (i := 2) (oi := { dst := some 40, op := Op.move (Operand.tmp 0), type := 105, pos := "ids.go:126", after := #[], guard := none }) (v := _) rfl (by kernel_rfl) (by kernel_rfl) (by kernel_rfl) (fun _ _ _ h => h) (Or.inl ⟨by rfl, ?hyA3⟩) ?reA3
  case hyA3 => (intro W hSw; (try dsimp only at hSw); go_simp; try with_reducible rfl)
  try simp only [Act.put, List.setIfInBounds_toArray, List.set_cons_zero, List.set_cons_succ]
  refine' wpAnyJ_takeW (i := 3) (oi := { dst := some 41, op := Op.nilCheck (Operand.tmp 40), type := 0, pos := "ids.go:126", after := #[{ on := 2, ground := Ground.data }], guard := none }) (v := _) rfl (by kernel_rfl) (by kernel_rfl) (by kernel_rfl) (fun _ _ _ h => h) (Or.inl ⟨by rfl, ?hyA4⟩) ?reA4
  case hyA4 => (intro W hSw; (try dsimp only at hSw); go_simp; try with_reducible rfl)
  try simp only [Act.put, List.setIfInBounds_toArray, List.set_cons_zero, List.set_cons_succ]
  refine' wpAnyJ_takeW (i := 4) (oi := { dst := some 42, op := Op.fieldAddr 163 (Operand.tmp 41) 1, type := 0, pos := "ids.go:126", after := #[{ on := 3, ground := Ground.data }], guard := none }) (v := _) rfl (by kernel_rfl) (by kernel_rfl) (by kernel_rfl) (fun _ _ _ h => h) (Or.inl ⟨by rfl, ?hyA5⟩) ?reA5
  case hyA5 => (intro W hSw; (try dsimp only at hSw); go_simp; try with_reducible rfl)
  try simp only [Act.put, List.setIfInBounds_toArray, List.set_cons_zero, List.set_cons_succ]
  refine' wpAnyJ_take (i := 5) (oi := { dst := some 43, op := Op.load 45 (Operand.tmp 42), type := 45, pos := "ids.go:126", after := #[{ on := 4, ground := Ground.data }], guard := none }) (v := _) rfl (by kernel_rfl) (by kernel_rfl) (by kernel_rfl) (by kernel_rfl) (fun _ _ _ h => h) (Or.inl ⟨by rfl, ?hyA6⟩) (by assumption) ?reA6
  case hyA6 => (intro W hSw; (try dsimp only at hSw); go_simp; try with_reducible rfl)
  try simp only [Act.put, List.setIfInBounds_toArray, List.set_cons_zero, List.set_cons_succ]
  refine' wpAnyJ_takeW (i := 8) (oi := { dst := some 46, op := Op.move (Operand.tmp 0), type := 105, pos := "ids.go:126", after := #[], guard := none }) (v := _) rfl (by kernel_rfl) (by kernel_rfl) (by kernel_rfl) (fun _ _ _ h => h) (Or.inl ⟨by rfl, ?hyA7⟩) ?reA7
  case hyA7 => (intro W hSw; (try dsimp only at hSw); go_simp; try with_reducible rfl)
  try simp only [Act.put, List.setIfInBounds_toArray, List.set_cons_zero, List.set_cons_succ]
  refine' wpAnyJ_takeW (i := 9) (oi := { dst := some 47, op := Op.nilCheck (Operand.tmp 46), type := 0, pos := "ids.go:126", after := #[{ on := 8, ground := Ground.data }], guard := none }) (v := _) rfl (by kernel_rfl) (by kernel_rfl) (by kernel_rfl) (fun _ _ _ h => h) (Or.inl ⟨by rfl, ?hyA8⟩) ?reA8
  case hyA8 => (intro W hSw; (try dsimp only at hSw); go_simp; try with_reducible rfl)
  try simp only [Act.put, List.setIfInBounds_toArray, List.set_cons_zero, List.set_cons_succ]
  refine' wpAnyJ_takeW (i := 10) (oi := { dst := some 48, op := Op.fieldAddr 163 (Operand.tmp 47) 2, type := 0, pos := "ids.go:126", after := #[{ on := 9, ground := Ground.data }], guard := none }) (v := _) rfl (by kernel_rfl) (by kernel_rfl) (by kernel_rfl) (fun _ _ _ h => h) (Or.inl ⟨by rfl, ?hyA9⟩) ?reA9
  case hyA9 => (intro W hSw; (try dsimp only at hSw); go_simp; try with_reducible rfl)
  try simp only [Act.put, List.setIfInBounds_toArray, List.set_cons_zero, List.set_cons_succ]
  refine' wpAnyJ_take (i := 11) (oi := { dst := some 49, op := Op.load 39 (Operand.tmp 48), type := 39, pos := "ids.go:126", after := #[{ on := 10, ground := Ground.data }], guard := none }) (v := _) rfl (by kernel_rfl) (by kernel_rfl) (by kernel_rfl) (by kernel_rfl) (fun _ _ _ h => h) (Or.inl ⟨by rfl, ?hyA10⟩) (by assumption) ?reA10
  case hyA10 => (intro W hSw; (try dsimp only at hSw); go_simp; try with_reducible rfl)
  try simp only [Act.put, List.setIfInBounds_toArray, List.set_cons_zero, List.set_cons_succ]
  refine' wpAnyJ_takeW (i := 12) (oi := { dst := some 50, op := Op.build 29 #[], type := 29, pos := "ids.go:126", after := #[], guard := none }) (v := _) rfl (by kernel_rfl) (by kernel_rfl) (by kernel_rfl) (fun _ _ _ h => h) (Or.inl ⟨by rfl, ?hyA11⟩) ?reA11
  case hyA11 => (intro W hSw; (try dsimp only at hSw); go_simp; try with_reducible rfl)
  try simp only [Act.put, List.setIfInBounds_toArray, List.set_cons_zero, List.set_cons_succ]
  refine wpAnyJ_ready (rs := [6, 13]) (by kernel_rfl) (by simp) ?_
  refine AllReadyJ.cons (o := { dst := some 44, op := Op.buildSlice 45 1 #[(0, Operand.const (Value.int IntKind.i64 0))], type := 45, pos := "ids.go:126", after := #[], guard := none }) rfl (fun K hK => ?_) ?_
  · go_simp
    refine hK.out _ _ (fun _ _ => (mid_cells (H.out.mid (T0.out.alloc _))).1) ?_
    clear hK K
    try simp only [Act.put, List.setIfInBounds_toArray, List.set_cons_zero, List.set_cons_succ]
    refine wpAnyJ_ready (rs := [7, 13]) (by kernel_rfl) (by simp) ?_
    refine AllReadyJ.cons (o := { dst := some 45, op := Op.call { callee := Callee.builtin Builtin.append, args := #[Operand.tmp 43, Operand.tmp 44], argTypes := #[45, 45] }, type := 45, pos := "ids.go:126", after := #[{ on := 5, ground := Ground.data }, { on := 6, ground := Ground.data }], guard := none }) rfl (fun K hK => ?_) ?_
    · refine step_append_lies _ rfl (.tmp 43) (.tmp 44) 45 rfl 0 3 i3 (.int .i64 0) 1 8 Tryz.underlying45 hi3 hx0 hx1 hx2 rfl (by decide) (.slice aog gs.length cg) gs.length (ic gs) (by simp [Act.eval]) (T0.out.alloc _).1 ⟨w.heap.size, 0, none⟩ 1 1 [.int .i64 0] (by simp [Act.eval]) rfl (by intro j u hj; match j, hj with | 0, hj => simp at hj; subst hj; simp [Addr.add]) (by intro u hu; simp at hu; subst hu; rfl) (by omega) (by unfold maxLen; omega) (by omega) (Nat.zero_le _) _ rfl ?_; intro g9 c9 w9 ho9 hg9 ha9 _
      have T9 := hide ((T0.out.alloc _).growG (x := 0) ho9 hg9 ha9)
      clear ho9 hg9 ha9
      refine hK.out _ _ (fun _ _ => (mid_cells (H.out.mid T9.out)).1) ?_
      clear hK K
      try simp only [Act.put, List.setIfInBounds_toArray, List.set_cons_zero, List.set_cons_succ]
      refine wpAnyJ_ready (rs := [13]) (by kernel_rfl) (by simp) ?_
      refine AllReadyJ.cons (o := { dst := some 51, op := Op.buildSlice 39 1 #[(0, Operand.tmp 50)], type := 39, pos := "ids.go:126", after := #[{ on := 12, ground := Ground.data }], guard := none }) rfl (fun K hK => ?_) AllReadyJ.nil
      go_simp
      refine hK.out _ _ (fun _ _ => (mid_cells (H.out.mid (T9.out.alloc _))).1) ?_
      clear hK K
      try simp only [Act.put, List.setIfInBounds_toArray, List.set_cons_zero, List.set_cons_succ]
      refine wpAnyJ_ready (rs := [14]) (by kernel_rfl) (by simp) ?_
      refine AllReadyJ.cons (o := { dst := some 52, op := Op.call { callee := Callee.builtin Builtin.append, args := #[Operand.tmp 49, Operand.tmp 51], argTypes := #[39, 39] }, type := 39, pos := "ids.go:126", after := #[{ on := 11, ground := Ground.data }, { on := 13, ground := Ground.data }, { on := 7, ground := Ground.chain }], guard := none }) rfl (fun K hK => ?_) AllReadyJ.nil
      refine step_append_lies _ rfl (.tmp 49) (.tmp 51) 39 rfl 0 29 i41 (.agg #[.int .i64 0, .int .i64 0]) 2 16 Tryz.underlying39 hi41 hy0 hy1 hy2 rfl (by decide) (.slice aol lv.length cl) lv.length (ec lv) (by simp [Act.eval]) (T9.out.alloc _).2.1 ⟨w9.heap.size, 0, none⟩ 1 1 [.int .i64 0, .int .i64 0] (by simp [Act.eval]) rfl (by intro j u hj; match j, hj with | 0, hj => simp at hj; subst hj; simp [Addr.add] | 1, hj => simp at hj; subst hj; simp [Addr.add]) (by intro u hu; simp at hu; subst hu; rfl) (by omega) (by unfold maxLen; omega) (by omega) (Nat.zero_le _) _ rfl ?_; intro g8 c8 w8 ho8 hg8 ha8 _
      have T10 := hide ((T9.out.alloc _).growL (a := 0) (b := 0) ho8 hg8 ha8)
      clear ho8 hg8 ha8
      refine hK.out _ _ (fun _ _ => (mid_cells (H.out.mid T10.out)).1) ?_
      clear hK K
      obtain ⟨⟨d1, d2⟩, y1, y2⟩ := mid_cells (H.out.mid T10.out)
      try simp only [Act.put, List.setIfInBounds_toArray, List.set_cons_zero, List.set_cons_succ]
      refine' wpAnyJ_takeW (i := 15) (oi := { dst := some 53, op := Op.nilCheck (Operand.tmp 38), type := 0, pos := "ids.go:126", after := #[{ on := 0, ground := Ground.data }, { on := 0, ground := Ground.phase }, { on := 1, ground := Ground.textOnly Departure.lateStores }, { on := 2, ground := Ground.phase }, { on := 3, ground := Ground.phase }, { on := 4, ground := Ground.phase }, { on := 5, ground := Ground.phase }, { on := 6, ground := Ground.phase }, { on := 7, ground := Ground.phase }, { on := 8, ground := Ground.textOnly Departure.lateStores }, { on := 9, ground := Ground.textOnly Departure.lateStoresUnsure }, { on := 10, ground := Ground.textOnly Departure.lateStoresUnsure }, { on := 11, ground := Ground.phase }, { on := 12, ground := Ground.textOnly Departure.lateStoresUnsure }, { on := 13, ground := Ground.textOnly Departure.lateStoresUnsure }, { on := 14, ground := Ground.phase }], guard := none }) (v := _) rfl (by kernel_rfl) (by kernel_rfl) (by kernel_rfl) (fun _ _ _ h => h) (Or.inl ⟨by rfl, ?hyA12⟩) ?reA12
      case hyA12 => (intro W hSw; (try dsimp only at hSw); go_simp; try with_reducible rfl)
      try simp only [Act.put, List.setIfInBounds_toArray, List.set_cons_zero, List.set_cons_succ]
      refine' wpAnyJ_takeW (i := 16) (oi := { dst := some 54, op := Op.fieldAddr 163 (Operand.tmp 53) 1, type := 0, pos := "ids.go:126", after := #[{ on := 15, ground := Ground.data }, { on := 0, ground := Ground.phase }, { on := 1, ground := Ground.textOnly Departure.lateStores }, { on := 2, ground := Ground.phase }, { on := 3, ground := Ground.phase }, { on := 4, ground := Ground.phase }, { on := 5, ground := Ground.phase }, { on := 6, ground := Ground.phase }, { on := 7, ground := Ground.phase }, { on := 8, ground := Ground.textOnly Departure.lateStores }, { on := 9, ground := Ground.textOnly Departure.lateStoresUnsure }, { on := 10, ground := Ground.textOnly Departure.lateStoresUnsure }, { on := 11, ground := Ground.phase }, { on := 12, ground := Ground.textOnly Departure.lateStoresUnsure }, { on := 13, ground := Ground.textOnly Departure.lateStoresUnsure }, { on := 14, ground := Ground.phase }], guard := none }) (v := _) rfl (by kernel_rfl) (by kernel_rfl) (by kernel_rfl) (fun _ _ _ h => h) (Or.inl ⟨by rfl, ?hyA13⟩) ?reA13
      case hyA13 => (intro W hSw; (try dsimp only at hSw); go_simp; try with_reducible rfl)
      try simp only [Act.put, List.setIfInBounds_toArray, List.set_cons_zero, List.set_cons_succ]
      refine wpAnyJ_ready (rs := [17]) (by kernel_rfl) (by simp) ?_
      refine AllReadyJ.cons (o := { dst := none, op := Op.store 45 (Operand.tmp 54) (Operand.tmp 45), type := 0, pos := "ids.go:126", after := #[{ on := 16, ground := Ground.data }, { on := 7, ground := Ground.data }, { on := 14, ground := Ground.chain }, { on := 0, ground := Ground.phase }, { on := 1, ground := Ground.textOnly Departure.lateStores }, { on := 2, ground := Ground.phase }, { on := 3, ground := Ground.phase }, { on := 4, ground := Ground.phase }, { on := 5, ground := Ground.phase }, { on := 6, ground := Ground.phase }, { on := 7, ground := Ground.phase }, { on := 8, ground := Ground.textOnly Departure.lateStores }, { on := 9, ground := Ground.textOnly Departure.lateStoresUnsure }, { on := 10, ground := Ground.textOnly Departure.lateStoresUnsure }, { on := 11, ground := Ground.phase }, { on := 12, ground := Ground.textOnly Departure.lateStoresUnsure }, { on := 13, ground := Ground.textOnly Departure.lateStoresUnsure }, { on := 14, ground := Ground.phase }], guard := none }) rfl (fun K hK => ?_) AllReadyJ.nil
      go_simp
      refine hK.out _ _ (fun h => absurd h (by decide)) ?_
      clear hK K
      try simp only [Act.put, List.setIfInBounds_toArray, List.set_cons_zero, List.set_cons_succ]
      refine' wpAnyJ_takeW (i := 18) (oi := { dst := some 55, op := Op.nilCheck (Operand.tmp 39), type := 0, pos := "ids.go:126", after := #[{ on := 1, ground := Ground.data }, { on := 0, ground := Ground.phase }, { on := 1, ground := Ground.phase }, { on := 2, ground := Ground.phase }, { on := 3, ground := Ground.phase }, { on := 4, ground := Ground.phase }, { on := 5, ground := Ground.phase }, { on := 6, ground := Ground.phase }, { on := 7, ground := Ground.phase }, { on := 8, ground := Ground.phase }, { on := 9, ground := Ground.phase }, { on := 10, ground := Ground.phase }, { on := 11, ground := Ground.phase }, { on := 12, ground := Ground.phase }, { on := 13, ground := Ground.phase }, { on := 14, ground := Ground.phase }, { on := 15, ground := Ground.phase }, { on := 16, ground := Ground.phase }, { on := 17, ground := Ground.phase }], guard := none }) (v := _) rfl (by kernel_rfl) (by kernel_rfl) (by kernel_rfl) (fun _ _ _ h => h) (Or.inl ⟨by rfl, ?hyA14⟩) ?reA14
      case hyA14 => (intro W hSw; (try dsimp only at hSw); go_simp; try with_reducible rfl)
      try simp only [Act.put, List.setIfInBounds_toArray, List.set_cons_zero, List.set_cons_succ]
      refine' wpAnyJ_takeW (i := 19) (oi := { dst := some 56, op := Op.fieldAddr 163 (Operand.tmp 55) 2, type := 0, pos := "ids.go:126", after := #[{ on := 18, ground := Ground.data }, { on := 0, ground := Ground.phase }, { on := 1, ground := Ground.phase }, { on := 2, ground := Ground.phase }, { on := 3, ground := Ground.phase }, { on := 4, ground := Ground.phase }, { on := 5, ground := Ground.phase }, { on := 6, ground := Ground.phase }, { on := 7, ground := Ground.phase }, { on := 8, ground := Ground.phase }, { on := 9, ground := Ground.phase }, { on := 10, ground := Ground.phase }, { on := 11, ground := Ground.phase }, { on := 12, ground := Ground.phase }, { on := 13, ground := Ground.phase }, { on := 14, ground := Ground.phase }, { on := 15, ground := Ground.phase }, { on := 16, ground := Ground.phase }, { on := 17, ground := Ground.phase }], guard := none }) (v := _) rfl (by kernel_rfl) (by kernel_rfl) (by kernel_rfl) (fun _ _ _ h => h) (Or.inl ⟨by rfl, ?hyA15⟩) ?reA15
      case hyA15 => (intro W hSw; (try dsimp only at hSw); go_simp; try with_reducible rfl)
      try simp only [Act.put, List.setIfInBounds_toArray, List.set_cons_zero, List.set_cons_succ]
      refine wpAnyJ_ready (rs := [20]) (by kernel_rfl) (by simp) ?_
      refine AllReadyJ.cons (o := { dst := none, op := Op.store 39 (Operand.tmp 56) (Operand.tmp 52), type := 0, pos := "ids.go:126", after := #[{ on := 19, ground := Ground.data }, { on := 14, ground := Ground.data }, { on := 17, ground := Ground.chain }, { on := 0, ground := Ground.phase }, { on := 1, ground := Ground.phase }, { on := 2, ground := Ground.phase }, { on := 3, ground := Ground.phase }, { on := 4, ground := Ground.phase }, { on := 5, ground := Ground.phase }, { on := 6, ground := Ground.phase }, { on := 7, ground := Ground.phase }, { on := 8, ground := Ground.phase }, { on := 9, ground := Ground.phase }, { on := 10, ground := Ground.phase }, { on := 11, ground := Ground.phase }, { on := 12, ground := Ground.phase }, { on := 13, ground := Ground.phase }, { on := 14, ground := Ground.phase }, { on := 15, ground := Ground.phase }, { on := 16, ground := Ground.phase }, { on := 17, ground := Ground.phase }], guard := none }) rfl (fun K hK => ?_) AllReadyJ.nil
      go_simp
      refine hK.out _ _ (fun h => absurd h (by decide)) ?_
      clear hK K
      try simp only [Act.put, List.setIfInBounds_toArray, List.set_cons_zero, List.set_cons_succ]
      refine wpAnyJ_done (by kernel_rfl) ?_ _
      refine NoPanic.normal ?_
      go_wp2_with fail
      go_ret2
      have F := H.out.fin T10.out
      exact ⟨rfl, _, _, F.1, T10.out.2.2.2.1, T10.out.2.2.2.2.1, F.2⟩
    refine AllReadyJ.cons (o := { dst := some 51, op := Op.buildSlice 39 1 #[(0, Operand.tmp 50)], type := 39, pos := "ids.go:126", after := #[{ on := 12, ground := Ground.data }], guard := none }) rfl (fun K hK => ?_) AllReadyJ.nil
    go_simp
    refine hK.out _ _ (fun _ _ => (mid_cells (H.out.mid ((T0.out.alloc _).alloc _))).1) ?_
    clear hK K
    try simp only [Act.put, List.setIfInBounds_toArray, List.set_cons_zero, List.set_cons_succ]
    refine wpAnyJ_ready (rs := [7]) (by kernel_rfl) (by simp) ?_
    refine AllReadyJ.cons (o := { dst := some 45, op := Op.call { callee := Callee.builtin Builtin.append, args := #[Operand.tmp 43, Operand.tmp 44], argTypes := #[45, 45] }, type := 45, pos := "ids.go:126", after := #[{ on := 5, ground := Ground.data }, { on := 6, ground := Ground.data }], guard := none }) rfl (fun K hK => ?_) AllReadyJ.nil
    refine step_append_lies _ rfl (.tmp 43) (.tmp 44) 45 rfl 0 3 i3 (.int .i64 0) 1 8 Tryz.underlying45 hi3 hx0 hx1 hx2 rfl (by decide) (.slice aog gs.length cg) gs.length (ic gs) (by simp [Act.eval]) ((T0.out.alloc _).alloc _).1 ⟨w.heap.size, 0, none⟩ 1 1 [.int .i64 0] (by simp [Act.eval]) rfl (by intro j u hj; match j, hj with | 0, hj => simp at hj; subst hj; simp [Addr.add]) (by intro u hu; simp at hu; subst hu; rfl) (by omega) (by unfold maxLen; omega) (by omega) (Nat.zero_le _) _ rfl ?_; intro g9 c9 w9 ho9 hg9 ha9 _
    have T9 := hide (((T0.out.alloc _).alloc _).growG (x := 0) ho9 hg9 ha9)
    have s0 : w9.cell? ⟨w.heap.size + 1, 0, none⟩ = some (.int .i64 0) := hg9.cell (by simp) (fun e => by have := (HGL.out _ e.symm).2; first | omega | (simp at this <;> omega))
    have s1 : w9.cell? ⟨w.heap.size + 1, 1, none⟩ = some (.int .i64 0) := hg9.cell (by simp) (fun e => by have := (HGL.out _ e.symm).2; first | omega | (simp at this <;> omega))
    clear ho9 hg9 ha9
    refine hK.out _ _ (fun _ _ => (mid_cells (H.out.mid T9.out)).1) ?_
    clear hK K
    try simp only [Act.put, List.setIfInBounds_toArray, List.set_cons_zero, List.set_cons_succ]
    refine wpAnyJ_ready (rs := [14]) (by kernel_rfl) (by simp) ?_
    refine AllReadyJ.cons (o := { dst := some 52, op := Op.call { callee := Callee.builtin Builtin.append, args := #[Operand.tmp 49, Operand.tmp 51], argTypes := #[39, 39] }, type := 39, pos := "ids.go:126", after := #[{ on := 11, ground := Ground.data }, { on := 13, ground := Ground.data }, { on := 7, ground := Ground.chain }], guard := none }) rfl (fun K hK => ?_) AllReadyJ.nil
    refine step_append_lies _ rfl (.tmp 49) (.tmp 51) 39 rfl 0 29 i41 (.agg #[.int .i64 0, .int .i64 0]) 2 16 Tryz.underlying39 hi41 hy0 hy1 hy2 rfl (by decide) (.slice aol lv.length cl) lv.length (ec lv) (by simp [Act.eval]) T9.out.2.1 ⟨w.heap.size + 1, 0, none⟩ 1 1 [.int .i64 0, .int .i64 0] (by simp [Act.eval]) rfl (by intro j u hj; match j, hj with | 0, hj => simp at hj; subst hj; simpa [Addr.add] using s0 | 1, hj => simp at hj; subst hj; simpa [Addr.add] using s1) (by intro u hu; simp at hu; subst hu; rfl) (by omega) (by unfold maxLen; omega) (by omega) (Nat.zero_le _) _ rfl ?_; intro g8 c8 w8 ho8 hg8 ha8 _
    have T10 := hide (T9.out.growL (a := 0) (b := 0) ho8 hg8 ha8)
    clear ho8 hg8 ha8
    refine hK.out _ _ (fun _ _ => (mid_cells (H.out.mid T10.out)).1) ?_
    clear hK K
    obtain ⟨⟨d1, d2⟩, y1, y2⟩ := mid_cells (H.out.mid T10.out)
    try simp only [Act.put, List.setIfInBounds_toArray, List.set_cons_zero, List.set_cons_succ]
    refine' wpAnyJ_takeW (i := 15) (oi := { dst := some 53, op := Op.nilCheck (Operand.tmp 38), type := 0, pos := "ids.go:126", after := #[{ on := 0, ground := Ground.data }, { on := 0, ground := Ground.phase }, { on := 1, ground := Ground.textOnly Departure.lateStores }, { on := 2, ground := Ground.phase }, { on := 3, ground := Ground.phase }, { on := 4, ground := Ground.phase }, { on := 5, ground := Ground.phase }, { on := 6, ground := Ground.phase }, { on := 7, ground := Ground.phase }, { on := 8, ground := Ground.textOnly Departure.lateStores }, { on := 9, ground := Ground.textOnly Departure.lateStoresUnsure }, { on := 10, ground := Ground.textOnly Departure.lateStoresUnsure }, { on := 11, ground := Ground.phase }, { on := 12, ground := Ground.textOnly Departure.lateStoresUnsure }, { on := 13, ground := Ground.textOnly Departure.lateStoresUnsure }, { on := 14, ground := Ground.phase }], guard := none }) (v := _) rfl (by kernel_rfl) (by kernel_rfl) (by kernel_rfl) (fun _ _ _ h => h) (Or.inl ⟨by rfl, ?hyA16⟩) ?reA16
    case hyA16 => (intro W hSw; (try dsimp only at hSw); go_simp; try with_reducible rfl)
    try simp only [Act.put, List.setIfInBounds_toArray, List.set_cons_zero, List.set_cons_succ]
    refine' wpAnyJ_takeW (i := 16) (oi := { dst := some 54, op := Op.fieldAddr 163 (Operand.tmp 53) 1, type := 0, pos := "ids.go:126", after := #[{ on := 15, ground := Ground.data }, { on := 0, ground := Ground.phase }, { on := 1, ground := Ground.textOnly Departure.lateStores }, { on := 2, ground := Ground.phase }, { on := 3, ground := Ground.phase }, { on := 4, ground := Ground.phase }, { on := 5, ground := Ground.phase }, { on := 6, ground := Ground.phase }, { on := 7, ground := Ground.phase }, { on := 8, ground := Ground.textOnly Departure.lateStores }, { on := 9, ground := Ground.textOnly Departure.lateStoresUnsure }, { on := 10, ground := Ground.textOnly Departure.lateStoresUnsure }, { on := 11, ground := Ground.phase }, { on := 12, ground := Ground.textOnly Departure.lateStoresUnsure }, { on := 13, ground := Ground.textOnly Departure.lateStoresUnsure }, { on := 14, ground := Ground.phase }], guard := none }) (v := _) rfl (by kernel_rfl) (by kernel_rfl) (by kernel_rfl) (fun _ _ _ h => h) (Or.inl ⟨by rfl, ?hyA17⟩) ?reA17
    case hyA17 => (intro W hSw; (try dsimp only at hSw); go_simp; try with_reducible rfl)
    try simp only [Act.put, List.setIfInBounds_toArray, List.set_cons_zero, List.set_cons_succ]
    refine wpAnyJ_ready (rs := [17]) (by kernel_rfl) (by simp) ?_
    refine AllReadyJ.cons (o := { dst := none, op := Op.store 45 (Operand.tmp 54) (Operand.tmp 45), type := 0, pos := "ids.go:126", after := #[{ on := 16, ground := Ground.data }, { on := 7, ground := Ground.data }, { on := 14, ground := Ground.chain }, { on := 0, ground := Ground.phase }, { on := 1, ground := Ground.textOnly Departure.lateStores }, { on := 2, ground := Ground.phase }, { on := 3, ground := Ground.phase }, { on := 4, ground := Ground.phase }, { on := 5, ground := Ground.phase }, { on := 6, ground := Ground.phase }, { on := 7, ground := Ground.phase }, { on := 8, ground := Ground.textOnly Departure.lateStores }, { on := 9, ground := Ground.textOnly Departure.lateStoresUnsure }, { on := 10, ground := Ground.textOnly Departure.lateStoresUnsure }, { on := 11, ground := Ground.phase }, { on := 12, ground := Ground.textOnly Departure.lateStoresUnsure }, { on := 13, ground := Ground.textOnly Departure.lateStoresUnsure }, { on := 14, ground := Ground.phase }], guard := none }) rfl (fun K hK => ?_) AllReadyJ.nil
    go_simp
    refine hK.out _ _ (fun h => absurd h (by decide)) ?_
    clear hK K
    try simp only [Act.put, List.setIfInBounds_toArray, List.set_cons_zero, List.set_cons_succ]
    refine' wpAnyJ_takeW (i := 18) (oi := { dst := some 55, op := Op.nilCheck (Operand.tmp 39), type := 0, pos := "ids.go:126", after := #[{ on := 1, ground := Ground.data }, { on := 0, ground := Ground.phase }, { on := 1, ground := Ground.phase }, { on := 2, ground := Ground.phase }, { on := 3, ground := Ground.phase }, { on := 4, ground := Ground.phase }, { on := 5, ground := Ground.phase }, { on := 6, ground := Ground.phase }, { on := 7, ground := Ground.phase }, { on := 8, ground := Ground.phase }, { on := 9, ground := Ground.phase }, { on := 10, ground := Ground.phase }, { on := 11, ground := Ground.phase }, { on := 12, ground := Ground.phase }, { on := 13, ground := Ground.phase }, { on := 14, ground := Ground.phase }, { on := 15, ground := Ground.phase }, { on := 16, ground := Ground.phase }, { on := 17, ground := Ground.phase }], guard := none }) (v := _) rfl (by kernel_rfl) (by kernel_rfl) (by kernel_rfl) (fun _ _ _ h => h) (Or.inl ⟨by rfl, ?hyA18⟩) ?reA18
    case hyA18 => (intro W hSw; (try dsimp only at hSw); go_simp; try with_reducible rfl)
    try simp only [Act.put, List.setIfInBounds_toArray, List.set_cons_zero, List.set_cons_succ]
    refine' wpAnyJ_takeW (i := 19) (oi := { dst := some 56, op := Op.fieldAddr 163 (Operand.tmp 55) 2, type := 0, pos := "ids.go:126", after := #[{ on := 18, ground := Ground.data }, { on := 0, ground := Ground.phase }, { on := 1, ground := Ground.phase }, { on := 2, ground := Ground.phase }, { on := 3, ground := Ground.phase }, { on := 4, ground := Ground.phase }, { on := 5, ground := Ground.phase }, { on := 6, ground := Ground.phase }, { on := 7, ground := Ground.phase }, { on := 8, ground := Ground.phase }, { on := 9, ground := Ground.phase }, { on := 10, ground := Ground.phase }, { on := 11, ground := Ground.phase }, { on := 12, ground := Ground.phase }, { on := 13, ground := Ground.phase }, { on := 14, ground := Ground.phase }, { on := 15, ground := Ground.phase }, { on := 16, ground := Ground.phase }, { on := 17, ground := Ground.phase }], guard := none }) (v := _) rfl (by kernel_rfl) (by kernel_rfl) (by kernel_rfl) (fun _ _ _ h => h) (Or.inl ⟨by rfl, ?hyA19⟩) ?reA19
    case hyA19 => (intro W hSw; (try dsimp only at hSw); go_simp; try with_reducible rfl)
    try simp only [Act.put, List.setIfInBounds_toArray, List.set_cons_zero, List.set_cons_succ]
    refine wpAnyJ_ready (rs := [20]) (by kernel_rfl) (by simp) ?_
    refine AllReadyJ.cons (o := { dst := none, op := Op.store 39 (Operand.tmp 56) (Operand.tmp 52), type := 0, pos := "ids.go:126", after := #[{ on := 19, ground := Ground.data }, { on := 14, ground := Ground.data }, { on := 17, ground := Ground.chain }, { on := 0, ground := Ground.phase }, { on := 1, ground := Ground.phase }, { on := 2, ground := Ground.phase }, { on := 3, ground := Ground.phase }, { on := 4, ground := Ground.phase }, { on := 5, ground := Ground.phase }, { on := 6, ground := Ground.phase }, { on := 7, ground := Ground.phase }, { on := 8, ground := Ground.phase }, { on := 9, ground := Ground.phase }, { on := 10, ground := Ground.phase }, { on := 11, ground := Ground.phase }, { on := 12, ground := Ground.phase }, { on := 13, ground := Ground.phase }, { on := 14, ground := Ground.phase }, { on := 15, ground := Ground.phase }, { on := 16, ground := Ground.phase }, { on := 17, ground := Ground.phase }], guard := none }) rfl (fun K hK => ?_) AllReadyJ.nil
    go_simp
    refine hK.out _ _ (fun h => absurd h (by decide)) ?_
    clear hK K
    try simp only [Act.put, List.setIfInBounds_toArray, List.set_cons_zero, List.set_cons_succ]
    refine wpAnyJ_done (by kernel_rfl) ?_ _
    refine NoPanic.normal ?_
    go_wp2_with fail
    go_ret2
    have F := H.out.fin T10.out
    exact ⟨rfl, _, _, F.1, T10.out.2.2.2.1, T10.out.2.2.2.2.1, F.2⟩
  refine AllReadyJ.cons (o := { dst := some 51, op := Op.buildSlice 39 1 #[(0, Operand.tmp 50)], type := 39, pos := "ids.go:126", after := #[{ on := 12, ground := Ground.data }], guard := none }) rfl (fun K hK => ?_) AllReadyJ.nil
  go_simp
  refine hK.out _ _ (fun _ _ => (mid_cells (H.out.mid (T0.out.alloc _))).1) ?_
  clear hK K
  try simp only [Act.put, List.setIfInBounds_toArray, List.set_cons_zero, List.set_cons_succ]
  refine wpAnyJ_ready (rs := [6]) (by kernel_rfl) (by simp) ?_
  refine AllReadyJ.cons (o := { dst := some 44, op := Op.buildSlice 45 1 #[(0, Operand.const (Value.int IntKind.i64 0))], type := 45, pos := "ids.go:126", after := #[], guard := none }) rfl (fun K hK => ?_) AllReadyJ.nil
  go_simp
  refine hK.out _ _ (fun _ _ => (mid_cells (H.out.mid ((T0.out.alloc _).alloc _))).1) ?_
  clear hK K
  try simp only [Act.put, List.setIfInBounds_toArray, List.set_cons_zero, List.set_cons_succ]
  refine wpAnyJ_ready (rs := [7]) (by kernel_rfl) (by simp) ?_
  refine AllReadyJ.cons (o := { dst := some 45, op := Op.call { callee := Callee.builtin Builtin.append, args := #[Operand.tmp 43, Operand.tmp 44], argTypes := #[45, 45] }, type := 45, pos := "ids.go:126", after := #[{ on := 5, ground := Ground.data }, { on := 6, ground := Ground.data }], guard := none }) rfl (fun K hK => ?_) AllReadyJ.nil
  refine step_append_lies _ rfl (.tmp 43) (.tmp 44) 45 rfl 0 3 i3 (.int .i64 0) 1 8 Tryz.underlying45 hi3 hx0 hx1 hx2 rfl (by decide) (.slice aog gs.length cg) gs.length (ic gs) (by simp [Act.eval]) ((T0.out.alloc _).alloc _).1 ⟨w.heap.size + 1, 0, none⟩ 1 1 [.int .i64 0] (by simp [Act.eval]) rfl (by intro j u hj; match j, hj with | 0, hj => simp at hj; subst hj; simp [Addr.add]) (by intro u hu; simp at hu; subst hu; rfl) (by omega) (by unfold maxLen; omega) (by omega) (Nat.zero_le _) _ rfl ?_; intro g9 c9 w9 ho9 hg9 ha9 _
  have T9 := hide (((T0.out.alloc _).alloc _).growG (x := 0) ho9 hg9 ha9)
  have s0 : w9.cell? ⟨w.heap.size, 0, none⟩ = some (.int .i64 0) := hg9.cell (by simp) (fun e => by have := (HGL.out _ e.symm).2; first | omega | (simp at this <;> omega))
  have s1 : w9.cell? ⟨w.heap.size, 1, none⟩ = some (.int .i64 0) := hg9.cell (by simp) (fun e => by have := (HGL.out _ e.symm).2; first | omega | (simp at this <;> omega))
  clear ho9 hg9 ha9
  refine hK.out _ _ (fun _ _ => (mid_cells (H.out.mid T9.out)).1) ?_
  clear hK K
  try simp only [Act.put, List.setIfInBounds_toArray, List.set_cons_zero, List.set_cons_succ]
  refine wpAnyJ_ready (rs := [14]) (by kernel_rfl) (by simp) ?_
  refine AllReadyJ.cons (o := { dst := some 52, op := Op.call { callee := Callee.builtin Builtin.append, args := #[Operand.tmp 49, Operand.tmp 51], argTypes := #[39, 39] }, type := 39, pos := "ids.go:126", after := #[{ on := 11, ground := Ground.data }, { on := 13, ground := Ground.data }, { on := 7, ground := Ground.chain }], guard := none }) rfl (fun K hK => ?_) AllReadyJ.nil
  refine step_append_lies _ rfl (.tmp 49) (.tmp 51) 39 rfl 0 29 i41 (.agg #[.int .i64 0, .int .i64 0]) 2 16 Tryz.underlying39 hi41 hy0 hy1 hy2 rfl (by decide) (.slice aol lv.length cl) lv.length (ec lv) (by simp [Act.eval]) T9.out.2.1 ⟨w.heap.size, 0, none⟩ 1 1 [.int .i64 0, .int .i64 0] (by simp [Act.eval]) rfl (by intro j u hj; match j, hj with | 0, hj => simp at hj; subst hj; simpa [Addr.add] using s0 | 1, hj => simp at hj; subst hj; simpa [Addr.add] using s1) (by intro u hu; simp at hu; subst hu; rfl) (by omega) (by unfold maxLen; omega) (by omega) (Nat.zero_le _) _ rfl ?_; intro g8 c8 w8 ho8 hg8 ha8 _
  have T10 := hide (T9.out.growL (a := 0) (b := 0) ho8 hg8 ha8)
  clear ho8 hg8 ha8
  refine hK.out _ _ (fun _ _ => (mid_cells (H.out.mid T10.out)).1) ?_
  clear hK K
  obtain ⟨⟨d1, d2⟩, y1, y2⟩ := mid_cells (H.out.mid T10.out)
  try simp only [Act.put, List.setIfInBounds_toArray, List.set_cons_zero, List.set_cons_succ]
  refine' wpAnyJ_takeW (i := 15) (oi := { dst := some 53, op := Op.nilCheck (Operand.tmp 38), type := 0, pos := "ids.go:126", after := #[{ on := 0, ground := Ground.data }, { on := 0, ground := Ground.phase }, { on := 1, ground := Ground.textOnly Departure.lateStores }, { on := 2, ground := Ground.phase }, { on := 3, ground := Ground.phase }, { on := 4, ground := Ground.phase }, { on := 5, ground := Ground.phase }, { on := 6, ground := Ground.phase }, { on := 7, ground := Ground.phase }, { on := 8, ground := Ground.textOnly Departure.lateStores }, { on := 9, ground := Ground.textOnly Departure.lateStoresUnsure }, { on := 10, ground := Ground.textOnly Departure.lateStoresUnsure }, { on := 11, ground := Ground.phase }, { on := 12, ground := Ground.textOnly Departure.lateStoresUnsure }, { on := 13, ground := Ground.textOnly Departure.lateStoresUnsure }, { on := 14, ground := Ground.phase }], guard := none }) (v := _) rfl (by kernel_rfl) (by kernel_rfl) (by kernel_rfl) (fun _ _ _ h => h) (Or.inl ⟨by rfl, ?hyA20⟩) ?reA20
  case hyA20 => (intro W hSw; (try dsimp only at hSw); go_simp; try with_reducible rfl)
  try simp only [Act.put, List.setIfInBounds_toArray, List.set_cons_zero, List.set_cons_succ]
  refine' wpAnyJ_takeW (i := 16) (oi := { dst := some 54, op := Op.fieldAddr 163 (Operand.tmp 53) 1, type := 0, pos := "ids.go:126", after := #[{ on := 15, ground := Ground.data }, { on := 0, ground := Ground.phase }, { on := 1, ground := Ground.textOnly Departure.lateStores }, { on := 2, ground := Ground.phase }, { on := 3, ground := Ground.phase }, { on := 4, ground := Ground.phase }, { on := 5, ground := Ground.phase }, { on := 6, ground := Ground.phase }, { on := 7, ground := Ground.phase }, { on := 8, ground := Ground.textOnly Departure.lateStores }, { on := 9, ground := Ground.textOnly Departure.lateStoresUnsure }, { on := 10, ground := Ground.textOnly Departure.lateStoresUnsure }, { on := 11, ground := Ground.phase }, { on := 12, ground := Ground.textOnly Departure.lateStoresUnsure }, { on := 13, ground := Ground.textOnly Departure.lateStoresUnsure }, { on := 14, ground := Ground.phase }], guard := none }) (v := _) rfl (by kernel_rfl) (by kernel_rfl) (by kernel_rfl) (fun _ _ _ h => h) (Or.inl ⟨by rfl, ?hyA21⟩) ?reA21
  case hyA21 => (intro W hSw; (try dsimp only at hSw); go_simp; try with_reducible rfl)
  try simp only [Act.put, List.setIfInBounds_toArray, List.set_cons_zero, List.set_cons_succ]
  refine wpAnyJ_ready (rs := [17]) (by kernel_rfl) (by simp) ?_
  refine AllReadyJ.cons (o := { dst := none, op := Op.store 45 (Operand.tmp 54) (Operand.tmp 45), type := 0, pos := "ids.go:126", after := #[{ on := 16, ground := Ground.data }, { on := 7, ground := Ground.data }, { on := 14, ground := Ground.chain }, { on := 0, ground := Ground.phase }, { on := 1, ground := Ground.textOnly Departure.lateStores }, { on := 2, ground := Ground.phase }, { on := 3, ground := Ground.phase }, { on := 4, ground := Ground.phase }, { on := 5, ground := Ground.phase }, { on := 6, ground := Ground.phase }, { on := 7, ground := Ground.phase }, { on := 8, ground := Ground.textOnly Departure.lateStores }, { on := 9, ground := Ground.textOnly Departure.lateStoresUnsure }, { on := 10, ground := Ground.textOnly Departure.lateStoresUnsure }, { on := 11, ground := Ground.phase }, { on := 12, ground := Ground.textOnly Departure.lateStoresUnsure }, { on := 13, ground := Ground.textOnly Departure.lateStoresUnsure }, { on := 14, ground := Ground.phase }], guard := none }) rfl (fun K hK => ?_) AllReadyJ.nil
  go_simp
  refine hK.out _ _ (fun h => absurd h (by decide)) ?_
  clear hK K
  try simp only [Act.put, List.setIfInBounds_toArray, List.set_cons_zero, List.set_cons_succ]
  refine' wpAnyJ_takeW (i := 18) (oi := { dst := some 55, op := Op.nilCheck (Operand.tmp 39), type := 0, pos := "ids.go:126", after := #[{ on := 1, ground := Ground.data }, { on := 0, ground := Ground.phase }, { on := 1, ground := Ground.phase }, { on := 2, ground := Ground.phase }, { on := 3, ground := Ground.phase }, { on := 4, ground := Ground.phase }, { on := 5, ground := Ground.phase }, { on := 6, ground := Ground.phase }, { on := 7, ground := Ground.phase }, { on := 8, ground := Ground.phase }, { on := 9, ground := Ground.phase }, { on := 10, ground := Ground.phase }, { on := 11, ground := Ground.phase }, { on := 12, ground := Ground.phase }, { on := 13, ground := Ground.phase }, { on := 14, ground := Ground.phase }, { on := 15, ground := Ground.phase }, { on := 16, ground := Ground.phase }, { on := 17, ground := Ground.phase }], guard := none }) (v := _) rfl (by kernel_rfl) (by kernel_rfl) (by kernel_rfl) (fun _ _ _ h => h) (Or.inl ⟨by rfl, ?hyA22⟩) ?reA22
  case hyA22 => (intro W hSw; (try dsimp only at hSw); go_simp; try with_reducible rfl)
  try simp only [Act.put, List.setIfInBounds_toArray, List.set_cons_zero, List.set_cons_succ]
  refine' wpAnyJ_takeW (i := 19) (oi := { dst := some 56, op := Op.fieldAddr 163 (Operand.tmp 55) 2, type := 0, pos := "ids.go:126", after := #[{ on := 18, ground := Ground.data }, { on := 0, ground := Ground.phase }, { on := 1, ground := Ground.phase }, { on := 2, ground := Ground.phase }, { on := 3, ground := Ground.phase }, { on := 4, ground := Ground.phase }, { on := 5, ground := Ground.phase }, { on := 6, ground := Ground.phase }, { on := 7, ground := Ground.phase }, { on := 8, ground := Ground.phase }, { on := 9, ground := Ground.phase }, { on := 10, ground := Ground.phase }, { on := 11, ground := Ground.phase }, { on := 12, ground := Ground.phase }, { on := 13, ground := Ground.phase }, { on := 14, ground := Ground.phase }, { on := 15, ground := Ground.phase }, { on := 16, ground := Ground.phase }, { on := 17, ground := Ground.phase }], guard := none }) (v := _) rfl (by kernel_rfl) (by kernel_rfl) (by kernel_rfl) (fun _ _ _ h => h) (Or.inl ⟨by rfl, ?hyA23⟩) ?reA23
  case hyA23 => (intro W hSw; (try dsimp only at hSw); go_simp; try with_reducible rfl)
  try simp only [Act.put, List.setIfInBounds_toArray, List.set_cons_zero, List.set_cons_succ]
  refine wpAnyJ_ready (rs := [20]) (by kernel_rfl) (by simp) ?_
  refine AllReadyJ.cons (o := { dst := none, op := Op.store 39 (Operand.tmp 56) (Operand.tmp 52), type := 0, pos := "ids.go:126", after := #[{ on := 19, ground := Ground.data }, { on := 14, ground := Ground.data }, { on := 17, ground := Ground.chain }, { on := 0, ground := Ground.phase }, { on := 1, ground := Ground.phase }, { on := 2, ground := Ground.phase }, { on := 3, ground := Ground.phase }, { on := 4, ground := Ground.phase }, { on := 5, ground := Ground.phase }, { on := 6, ground := Ground.phase }, { on := 7, ground := Ground.phase }, { on := 8, ground := Ground.phase }, { on := 9, ground := Ground.phase }, { on := 10, ground := Ground.phase }, { on := 11, ground := Ground.phase }, { on := 12, ground := Ground.phase }, { on := 13, ground := Ground.phase }, { on := 14, ground := Ground.phase }, { on := 15, ground := Ground.phase }, { on := 16, ground := Ground.phase }, { on := 17, ground := Ground.phase }], guard := none }) rfl (fun K hK => ?_) AllReadyJ.nil
  go_simp
  refine hK.out _ _ (fun h => absurd h (by decide)) ?_
  clear hK K
  try simp only [Act.put, List.setIfInBounds_toArray, List.set_cons_zero, List.set_cons_succ]
  refine wpAnyJ_done (by kernel_rfl) ?_ _
  refine NoPanic.normal ?_
  go_wp2_with fail
  go_ret2
  have F := H.out.fin T10.out
  exact ⟨rfl, _, _, F.1, T10.out.2.2.2.1, T10.out.2.2.2.2.1, F.2⟩
end Go.Proofs.YtafmiolehlagkaaGreat

/-
  Take.
-/
namespace Go.Proofs.YtafmiolehlagkaaGreat
open Go.RowKit
set_option maxRecDepth 100000
set_option maxHeartbeats 4000000 in
set_option maxRecDepth 100000 in
theorem take_of (g n i : Nat) (gs fr : List Nat) (lv : List (Nat × Nat)) (w : World) (R : World → Value → Value → Value → Prop) (hi : i < gs.length) (hil : i < lv.length) (hx : gs[i] ≤ 1000000)
    (hn : Calls Tryz.prog 147 #[.pointer (some ⟨g, 0, none⟩)] (w.alloc (.cells #[.int .i64 0, .int .i64 0] 29)) fun e w1 => e = .returned (.tuple #[.int .i64 (i : Int), .int .i64 0]) ∧ ∃ vg vl vf, Pm w1 g n vg vl vf gs fr lv ∧ R w1 vg vl vf)
    (hR : ∀ w1 vg vl vf, Pm w1 g n vg vl vf gs fr lv → R w1 vg vl vf → w1.heap[w.heap.size]? = some (.cells #[.int .i64 0, .int .i64 0] 29 (0, 0)) ∧ vg.ownBlock ≠ some w.heap.size ∧ vl.ownBlock ≠ some w.heap.size ∧ vf.ownBlock ≠ some w.heap.size) :
    Calls Tryz.prog 75 #[.pointer (some ⟨g, 0, none⟩)] w fun e w' => e = .returned (.tuple #[ev (i, gs[i] + 1), .int .i64 0]) ∧ ∃ w1 vg vl vf, R w1 vg vl vf ∧ Pm w1 g n vg vl vf gs fr lv ∧ Pm w' g n vg vl vf (gs.set i (gs[i] + 1)) fr (lv.set i (i, gs[i] + 1)) ∧ Mv w1 w' (fun k => vg.ownBlock = some k ∨ vl.ownBlock = some k ∨ k = w.heap.size) := by
  have HN := hide hn
  have HR := hide hR
  clear hn hR
  go_enter Tryz.func75, Tryz.ntmps75
  go_wp2_with fail
  refine HN.out.mono ?_
  rintro e w1 ⟨rfl, vg, vl, vf, hp, hr⟩
  obtain ⟨r1, r2, r3, rf⟩ := HR.out w1 vg vl vf hp hr
  have hgw : g ≠ w.heap.size := fun e => by
    have := hp.1
    rw [e, r1] at this
    simp at this
  obtain ⟨gg, cg, rfl, hg1, hg2⟩ := own_form hp.2.1 (by omega)
  obtain ⟨gl, cl, rfl, hl1, hl2⟩ := own_form hp.2.2.1 (by omega)
  have hne : gg ≠ gl := fun e => hp.2.2.2.2.2.1 gg rfl (by rw [e]; rfl)
  have hgg : gg ≠ g := fun e => hp.2.2.2.2.1.1 (by rw [e]; rfl)
  have hgl : gl ≠ g := fun e => hp.2.2.2.2.1.2.1 (by rw [e]; rfl)
  have hwg : gg ≠ w.heap.size := fun e => r2 (by rw [← e]; rfl)
  have hwl : gl ≠ w.heap.size := fun e => r3 (by rw [← e]; rfl)
  obtain ⟨y, hy⟩ : ∃ y, y = gs[i] := ⟨_, rfl⟩
  obtain ⟨c0, c1, c2, c3⟩ := hp.cell
  have e1 := own_int hp.2.1 i hi
  have f1 := hp.2.1.frozenAt i
  have hp2 := hp.set_gen i (y + 1)
  obtain ⟨d0, d1, d2, d3⟩ := hp2.cell
  have ho2 := own_int_set hp.2.1 i (y + 1)
  have e2 := own_int ho2 i (by simpa using hi)
  rw [List.getElem_set_self] at e2
  obtain ⟨l1, l2⟩ := i_own_ent hp2.2.2.1 i hil
  have lf1 := hp2.2.2.1.frozenAt (i * 2)
  have lf2 := hp2.2.2.1.frozenAt (i * 2 + 1)
  have r4 : (w1.setCell ⟨gg, i, none⟩ (.int .i64 ((y + 1 : Nat) : Int))).heap[w.heap.size]? = some (.cells #[.int .i64 0, .int .i64 0] 29 (0, 0)) := (heap_setCell_other w1 ⟨gg, i, none⟩ w.heap.size _ (Ne.symm hwg)).trans r1
  have HP2 := hide hp2
  have HP1 := hide hp
  have HRR := hide hr
  have ei : ((y + 1 : Nat) : Int) = (y : Int) + 1 := by omega
  rw [← hy] at e1 hx
  have HM2 : Hid (Mv w1 (w1.setCell ⟨gg, i, none⟩ (.int .i64 ((y + 1 : Nat) : Int))) (fun k => (Value.slice (some ⟨gg, 0, none⟩) gs.length cg).ownBlock = some k ∨ (Value.slice (some ⟨gl, 0, none⟩) lv.length cl).ownBlock = some k ∨ k = w.heap.size)) := (Mv.refl w1 _).set (.inl rfl) _ _
  rw [ei] at e2 d0 d1 d2 d3 l1 l2 lf1 lf2 HP2 r4 HM2
  have t1 : (i : Int) < (gs.length : Int) := by omega
  have t2 : (i : Int) < (lv.length : Int) := by omega
  have tw : IntKind.i64.wrap ((y : Int) + 1) = (y : Int) + 1 := by rw [IntKind.wrap_i64]; omega
  have HY := hide hy
  clear hp hp2 ho2 hr HN HR ei hy
  go_upto_region 5 with fail
  obtain ⟨w2, hw2⟩ : ∃ X, X = w1.setCell ⟨gg, i, none⟩ (.int .i64 ((y : Int) + 1)) := ⟨_, rfl⟩
  rw [← hw2] at e2 d0 d1 d2 d3 l1 l2 lf1 lf2 HP2 r4 HM2 ⊢
  clear hw2 c0 c1 c2 c3 e1 f1
  have hp3 := HP2.out.set_live i i (y + 1) hil
  have r5 : ((w2.setCell ⟨gl, i * 2, none⟩ (.int .i64 (i : Int))).setCell ⟨gl, i * 2 + 1, none⟩ (.int .i64 ((y + 1 : Nat) : Int))).heap[w.heap.size]? = some (.cells #[.int .i64 0, .int .i64 0] 29 (0, 0)) := (heap_setCell_other _ ⟨gl, i * 2 + 1, none⟩ w.heap.size _ (Ne.symm hwl)).trans ((heap_setCell_other w2 ⟨gl, i * 2, none⟩ w.heap.size _ (Ne.symm hwl)).trans r4)
  have HM3 := hide ((HM2.out.set (g := gl) (.inr (.inl rfl)) (i * 2) (.int .i64 (i : Int))).set (g := gl) (.inr (.inl rfl)) (i * 2 + 1) (.int .i64 ((y + 1 : Nat) : Int)))
  have k0 := (hp3.later (below_drew _)).cell
  have ho3 := own_ent_set HP2.out.2.2.1 i i (y + 1) hil
  obtain ⟨m1, m2⟩ := i_own_ent ho3 i (by simpa using hil)
  rw [List.getElem_set_self] at m1 m2
  have HP3 := hide hp3
  have ei : ((y + 1 : Nat) : Int) = (y : Int) + 1 := by omega
  have k1 : ((w2.setCell ⟨gl, i * 2, none⟩ (.int .i64 (i : Int))).setCell ⟨gl, i * 2 + 1, none⟩ (.int .i64 ((y : Int) + 1))).cell? ⟨gg, i, none⟩ = some (.int .i64 ((y : Int) + 1)) := by
    rw [World.cell?_setCell_far _ ⟨gl, i * 2 + 1, none⟩ _ _ (Ne.symm hne), World.cell?_setCell_far _ ⟨gl, i * 2, none⟩ _ _ (Ne.symm hne)]
    exact e2
  have r6 : ((w2.setCell ⟨gl, i * 2, none⟩ (.int .i64 (i : Int))).setCell ⟨gl, i * 2 + 1, none⟩ (.int .i64 ((y : Int) + 1))).cell? ⟨w.heap.size, 0, none⟩ = some (.int .i64 0) := by
    rw [← ei, cell_of_row _ w.heap.size _ _ 29 (0, 0) r5]
    rfl
  have r7 : ((w2.setCell ⟨gl, i * 2, none⟩ (.int .i64 (i : Int))).setCell ⟨gl, i * 2 + 1, none⟩ (.int .i64 ((y : Int) + 1))).cell? ⟨w.heap.size, 1, none⟩ = some (.int .i64 0) := by
    rw [← ei, cell_of_row _ w.heap.size _ _ 29 (0, 0) r5]
    rfl
  have r8 : ∀ q, ((w2.setCell ⟨gl, i * 2, none⟩ (.int .i64 (i : Int))).setCell ⟨gl, i * 2 + 1, none⟩ (.int .i64 ((y : Int) + 1))).frozen? ⟨w.heap.size, q, none⟩ = false := fun q => by
    rw [← ei]
    exact frozen_of_row _ w.heap.size q _ 29 r5
  simp only at m1 m2
  rw [ei] at m1 m2 k0 HP3 HM3 r5
  obtain ⟨-, k2, k3, -⟩ := k0
  clear hp3 ho3 ei
  go_region_held3 (fun W => W.cell? ⟨g, 1, none⟩ = some (.slice (some ⟨gg, 0, none⟩) gs.length cg) ∧ W.cell? ⟨g, 2, none⟩ = some (.slice (some ⟨gl, 0, none⟩) lv.length cl) ∧ W.cell? ⟨gg, i, none⟩ = some (.int .i64 ((y : Int) + 1))) (go_keep) (fail)
  obtain ⟨w3, hw3⟩ : ∃ X, X = (w2.setCell ⟨gl, i * 2, none⟩ (.int .i64 (i : Int))).setCell ⟨gl, i * 2 + 1, none⟩ (.int .i64 ((y : Int) + 1)) := ⟨_, rfl⟩
  rw [← hw3] at m1 m2 k2 k3 HP3 HM3 r5 r6 r7 r8 ⊢
  clear hw3 k1 l1 l2 lf1 lf2 d0 d1 d2 d3 e2
  go_wp2_with fail
  (try simp only [Exit.inBlock, Exit.then])
  have hy := HY.out
  refine bodyPost_ret (v := .tuple #[ev (i, gs[i] + 1), .int .i64 0]) ?_ rfl ⟨rfl, w1, _, _, vf, HRR.out, HP1.out, ?_, ?_⟩
  · rw [results_cell_tmp rfl, ← hy]
    clear hy
    go_simp
    rfl
  · rw [← hy]
    refine HP3.out.frame (T := fun k => k = w.heap.size) ((((Mv.refl w3 (fun k => k = w.heap.size)).set rfl _ _).set rfl _ _).later (below_drew _)) hgw (fun k e e' => hwg ?_) (fun k e e' => hwl ?_) (fun k e e' => rf (by rw [e, e']))
    · simp only [Value.ownBlock, Option.some.injEq] at e
      exact e.trans e'
    · simp only [Value.ownBlock, Option.some.injEq] at e
      exact e.trans e'
  · exact ((HM3.out.set (.inr (.inr rfl)) _ _).set (.inr (.inr rfl)) _ _).later (below_drew _)
/-! ### Of a pool that is whole -/
theorem lv_len {n : Nat} {gs fr : List Nat} (h : Ok n gs fr) : (lvOf gs fr).length ≤ 1000000 := by rw [lvOf_len]; have := h.2.2.1; have := h.2.1; omega
theorem getD_set {gs : List Nat} {i j x : Nat} (h : i < gs.length) : (gs.set i x).getD j 0 = if i = j then x else gs.getD j 0 := by
  simp only [List.getD_eq_getElem?_getD, List.getElem?_set]
  by_cases hij : i = j
  · subst hij
    simp [h]
  · simp [hij]
theorem contains_cons_ne {i j : Nat} {fr : List Nat} (h : i ≠ j) : (i :: fr).contains j = fr.contains j := by
  simp [Ne.symm h]
/-- Who is free is given out. -/
theorem lv_take {n i : Nat} {gs fr : List Nat} (h : Ok n gs (i :: fr)) : (lvOf gs (i :: fr)).set i (i, gs.getD i 0 + 1) = lvOf (gs.set i (gs.getD i 0 + 1)) fr := by
  have hi := h.2.2.2.2.2 i (by simp)
  have hnf : i ∉ fr := (List.nodup_cons.1 h.2.2.2.2.1).1
  apply List.ext_getElem
  · simp [lvOf_len]
  · intro j h1 h2
    have hj : j < gs.length := by simpa [lvOf_len] using h1
    rw [lvOf_at _ _ j (by simpa using hj), List.getElem_set]
    by_cases hij : i = j
    · subst hij
      have e : on (gs.set i (gs.getD i 0 + 1)) fr i = true := by
        simp only [on, getD_set hi.1, if_true, Bool.and_eq_true, decide_eq_true_eq, Bool.not_eq_true', List.contains_eq_mem, decide_eq_false_iff_not]
        exact ⟨by omega, hnf⟩
      rw [if_pos rfl, e, if_pos rfl, getD_set hi.1, if_pos rfl]
    · rw [if_neg hij, lvOf_at _ _ j hj]
      have e : on (gs.set i (gs.getD i 0 + 1)) fr j = on gs (i :: fr) j := by
        simp only [on, getD_set hi.1, if_neg hij, contains_cons_ne hij]
      rw [e, getD_set hi.1, if_neg hij]
theorem ok_take {n i : Nat} {gs fr : List Nat} (h : Ok n gs (i :: fr)) : Ok n (gs.set i (gs.getD i 0 + 1)) fr := by
  obtain ⟨h1, h2, h3, h4, h5, h6⟩ := h
  have hi := h6 i (by simp)
  have hnd := List.nodup_cons.1 h5
  refine ⟨h1, h2, by simpa using h3, fun x hx => ?_, hnd.2, fun j hj => ?_⟩
  · rcases List.mem_or_eq_of_mem_set hx with h | h
    · exact h4 x h
    · subst h
      omega
  · have := h6 j (by simp [hj])
    have hij : i ≠ j := fun e => hnd.1 (e ▸ hj)
    rw [List.length_set, getD_set hi.1, if_neg hij]
    exact this
/-- A new one is given out. -/
theorem lv_new (gs : List Nat) : (lvOf gs [] ++ [(0, 0)]).set gs.length (gs.length, 1) = lvOf (gs ++ [1]) [] := by
  apply List.ext_getElem
  · simp [lvOf_len]
  · intro j h1 h2
    have hj : j < gs.length + 1 := by simpa [lvOf_len] using h1
    rw [lvOf_at _ _ j (by simpa using hj), List.getElem_set]
    by_cases hij : gs.length = j
    · subst hij
      simp [on]
    · rw [if_neg hij]
      have hj' : j < gs.length := by omega
      rw [List.getElem_append_left (by simpa [lvOf_len] using hj'), lvOf_at _ _ j hj']
      simp [on, List.getD_eq_getElem?_getD, List.getElem?_append_left hj']
theorem ok_new {n : Nat} {gs : List Nat} (h : Ok n gs []) (hn : gs.length < n) : Ok n (gs ++ [1]) [] := by
  obtain ⟨h1, h2, h3, h4, h5, h6⟩ := h
  refine ⟨h1, h2, by simp; omega, fun x hx => ?_, h5, fun j hj => by simp at hj⟩
  rcases List.mem_append.1 hx with h | h
  · exact h4 x h
  · simp at h
    omega
theorem take_free {w : World} {S : Nat → Prop} {g n i : Nat} {gs fr : List Nat} (h : Pl w S g n gs (i :: fr)) :
    Calls Tryz.prog 75 #[.pointer (some ⟨g, 0, none⟩)] w fun e w' => e = .returned (.tuple #[ev (i, gs.getD i 0 + 1), .int .i64 0]) ∧ Pl w' (Nw w S) g n (gs.set i (gs.getD i 0 + 1)) fr ∧ Mv w w' S := by
  obtain ⟨⟨vg, vl, vf, hp, s0, s1, s2, s3⟩, ho⟩ := h
  have hi := ho.2.2.2.2.2 i (by simp)
  have hgi : gs.getD i 0 = gs[i]'hi.1 := by simp [hi.1]
  have hfl := ho.free_len
  have hlen := ho.2.2.1
  have hn2 := ho.2.1
  simp only [List.length_cons] at hfl
  have hp0 := hp.later (below_alloc w (.cells #[.int .i64 0, .int .i64 0] 29))
  refine (take_of g n i gs fr (lvOf gs (i :: fr)) w (fun w1 vg' vl' vf' => vg' = vg ∧ vl' = vl ∧ vf'.ownBlock = vf.ownBlock ∧ Mv (w.alloc (.cells #[.int .i64 0, .int .i64 0] 29)) w1 (fun k => k = g ∨ vf.ownBlock = some k)) hi.1 (by rw [lvOf_len]; exact hi.1) (by rw [← hgi]; omega) ((next_free g n i vg vl vf gs fr _ _ hp0 (by omega)).mono ?_) ?_).mono ?_
  · rintro e w1 ⟨rfl, vf', q1, q2, q3⟩
    exact ⟨rfl, vg, vl, vf', q1, rfl, rfl, q2, q3⟩
  · rintro w1 vg' vl' vf' - ⟨rfl, rfl, q2, q3⟩
    refine ⟨q3.at (heap_alloc_new w _) ?_, fun e => ?_, fun e => ?_, fun e => ?_⟩
    · have := hp.lt
      rintro (e | e)
      · omega
      · have := (hp.2.2.2.1.lt _ e).2
        omega
    · have := (hp.2.1.lt _ e).2
      omega
    · have := (hp.2.2.1.lt _ e).2
      omega
    · rw [q2] at e
      have := (hp.2.2.2.1.lt _ e).2
      omega
  · rintro e w' ⟨rfl, w1, vg', vl', vf', ⟨rfl, rfl, q2, q3⟩, q4, q5, q6⟩
    rw [← hgi] at q5 ⊢
    rw [lv_take ho] at q5
    refine ⟨rfl, ⟨⟨_, _, _, q5, .inl s0, s1.mono (fun _ e => .inl e), s2.mono (fun _ e => .inl e), fun k e => .inl (s3 k (q2 ▸ e))⟩, ok_take ho⟩, ((Mv.of_below (below_alloc w _) S).trans q3 (fun k _ e => ?_)).trans q6 (fun k hk e => ?_)⟩
    · rcases e with rfl | e
      · exact s0
      · exact s3 k e
    · rcases e with e | e | e
      · exact s1 k e
      · exact s2 k e
      · omega
theorem take_full {w : World} {S : Nat → Prop} {g : Nat} {gs : List Nat} (h : Pl w S g gs.length gs []) :
    Calls Tryz.prog 75 #[.pointer (some ⟨g, 0, none⟩)] w fun e w' => e = .returned (.tuple #[ev (0, 0), .int .i64 40]) ∧ Below w.heap.size w w' := by
  obtain ⟨⟨vg, vl, vf, hp, s0, s1, s2, s3⟩, ho⟩ := h
  have HN := hide (next_full g vg vl vf gs _ _ (hp.later (below_alloc w (.cells #[.int .i64 0, .int .i64 0] 29))))
  clear hp s0 s1 s2 s3 ho
  go_enter Tryz.func75, Tryz.ntmps75
  go_wp2_with fail
  refine HN.out.mono ?_
  rintro e w1 ⟨rfl, rfl⟩
  clear HN
  go_wp2_with fail
  (try simp only [Exit.inBlock, Exit.then])
  refine bodyPost_ret (v := .tuple #[ev (0, 0), .int .i64 40]) ?_ rfl ⟨rfl, below_alloc w _⟩
  rw [results_cell_tmp rfl]
  go_simp
  rfl
theorem take_new {w : World} {S : Nat → Prop} {g n : Nat} {gs : List Nat} (h : Pl w S g n gs []) (hn : gs.length < n) :
    Calls Tryz.prog 75 #[.pointer (some ⟨g, 0, none⟩)] w fun e w' => e = .returned (.tuple #[ev (gs.length, 1), .int .i64 0]) ∧ Pl w' (Nw w S) g n (gs ++ [1]) [] ∧ Mv w w' S := by
  obtain ⟨⟨vg, vl, vf, hp, s0, s1, s2, s3⟩, ho⟩ := h
  have hn2 := ho.2.1
  have hp0 := hp.later (below_alloc w (.cells #[.int .i64 0, .int .i64 0] 29))
  have hsz : (w.alloc (.cells #[.int .i64 0, .int .i64 0] 29)).heap.size = w.heap.size + 1 := by simp
  have hgi : (gs ++ [0])[gs.length]'(by simp) = 0 := by simp
  refine (take_of g n gs.length (gs ++ [0]) [] (lvOf gs [] ++ [(0, 0)]) w (fun w1 vg' vl' vf' => vf' = vf ∧ (∀ k, vg'.ownBlock = some k → vg.ownBlock = some k ∨ w.heap.size + 1 ≤ k) ∧ (∀ k, vl'.ownBlock = some k → vl.ownBlock = some k ∨ w.heap.size + 1 ≤ k) ∧ Mv (w.alloc (.cells #[.int .i64 0, .int .i64 0] 29)) w1 (fun k => k = g ∨ vg.ownBlock = some k ∨ vl.ownBlock = some k)) (by simp) (by simp [lvOf_len]) (by rw [hgi]; omega) ((next_new g n vg vl vf gs _ _ hp0 hn (by omega) (lv_len ho)).mono ?_) ?_).mono ?_
  · rintro e w1 ⟨rfl, vg', vl', q1, q2, q3, q4⟩
    rw [hsz] at q2 q3
    exact ⟨rfl, vg', vl', vf, q1, rfl, q2, q3, q4⟩
  · rintro w1 vg' vl' vf' - ⟨rfl, q2, q3, q4⟩
    refine ⟨q4.at (heap_alloc_new w _) ?_, fun e => ?_, fun e => ?_, fun e => ?_⟩
    · have := hp.lt
      rintro (e | e | e)
      · omega
      · have := (hp.2.1.lt _ e).2
        omega
      · have := (hp.2.2.1.lt _ e).2
        omega
    · rcases q2 _ e with e | e
      · have := (hp.2.1.lt _ e).2
        omega
      · omega
    · rcases q3 _ e with e | e
      · have := (hp.2.2.1.lt _ e).2
        omega
      · omega
    · have := (hp.2.2.2.1.lt _ e).2
      omega
  · rintro e w' ⟨rfl, w1, vg', vl', vf', ⟨rfl, q2, q3, q4⟩, q5, q6, q7⟩
    rw [hgi] at q6 ⊢
    rw [Nat.zero_add, lv_new, List.set_append_right _ _ (Nat.le_refl _), Nat.sub_self, List.set_cons_zero] at q6
    refine ⟨rfl, ⟨⟨_, _, _, q6, .inl s0, fun k e => ?_, fun k e => ?_, s3.mono (fun _ e => .inl e)⟩, ok_new ho hn⟩, ((Mv.of_below (below_alloc w _) S).trans q4 (fun k _ e => ?_)).trans q7 (fun k hk e => ?_)⟩
    · rcases q2 k e with h | h
      · exact .inl (s1 k h)
      · exact .inr (by omega)
    · rcases q3 k e with h | h
      · exact .inl (s2 k h)
      · exact .inr (by omega)
    · rcases e with rfl | e | e
      · exact s0
      · exact s1 k e
      · exact s2 k e
    · rcases e with e | e | e
      · rcases q2 k e with h | h
        · exact s1 k h
        · omega
      · rcases q3 k e with h | h
        · exact s2 k h
        · omega
      · omega
end Go.Proofs.YtafmiolehlagkaaGreat
