/-
  Verify: waysOf; a program whose routines are told their depths.
-/
import Derived.Test.YtklamaibinjcmaaDoorVfU
namespace Go.Proofs.YtklamaibinjcmaaDoor
open Go.RowKit
set_option maxRecDepth 100000
theorem undWays : (Tryd.prog.underlying 67).map (fun d => match d with | .struct _ | .array _ _ => true | _ => false) = some true := by kernel_rfl
theorem res_ways {fn : Func} {p : Tmp} (hr : fn.results = #[.cell p 67]) {tmps : Array Value} {W : World} {g : Nat} {x y : Value} (hp : tmps.getD p undef = .pointer (some ⟨g, 0, none⟩)) (hg : W.heap[g]? = some (.cells #[x, y] 67 (0, 0))) : (results fn tmps).run Tryd.prog W = .ok (.agg #[x, y]) W := by
  obtain ⟨d, hu, hd⟩ := Option.map_eq_some_iff.1 undWays
  exact results_cell_row hr tmps W g 67 _ (0, 0) d hp hg hu (by cases d <;> first | rfl | cases hd) (by kernel_rfl)
theorem alloc_ways (w : World) : (Instr.alloc 67 true (.tuple #[])).run Tryd.prog w = .ok (.pointer (some ⟨w.heap.size, 0, none⟩)) (w.alloc (.cells #[.slice none 0 0, .slice none 0 0] 67)) := by kernel_rfl
set_option maxHeartbeats 4000000 in
theorem waysof_any {Q : Nat → Prop} {W : World} {B gv : Nat} {vs vf vk vr : Value} {p : Pg} {ks : List Kind} {L : List Rv} (h : Pm Q W B gv vs vf vk vr p ks L) (x : Rv) (hx : RvOk Q W x) : Calls Tryd.prog 57 #[.pointer (some ⟨gv, 0, none⟩), rvV x] W fun e w' => e = .returned (.agg #[x.vc, vf]) ∧ Below W.heap.size W w' := by
  have JF : Hid (∀ V, Below W.heap.size W V → V.cell? ⟨gv, 1, none⟩ = some vf) := fun V hV => (h.later hV).cells.2.1
  obtain ⟨af, cf, hvf, -, -⟩ := h.fns.at
  subst hvf
  generalize p.fns.length = nf at *
  have hgvW : gv < W.heap.size := lt_of_block h.blk
  clear h
  obtain ⟨ro, vc, vr', vw, vd⟩ := x
  obtain ⟨rt, pl, sy, re, wrt⟩ := ro
  obtain ⟨nm, pa, lo, code⟩ := rt
  dsimp only [rvV] at hx ⊢
  have hco : Il Q W vc code := hx.co
  have hre : Nl Q W vr' re := hx.re
  have hwr : Nl Q W vw wrt := hx.wr
  have hvd0 : ∃ a n c, vd = .slice a n c := hx.vd
  clear hx
  obtain ⟨ao, co, rfl, -, -⟩ := hco.at
  obtain ⟨ar, cr, rfl, -, -⟩ := hre.at
  obtain ⟨aw, cw, rfl, -, -⟩ := hwr.at
  obtain ⟨ad, nd, cd, rfl⟩ := hvd0
  clear hco hre hwr
  generalize code.length = nc at *
  obtain ⟨W1, hW1⟩ : ∃ X, X = W.alloc (.cells #[.string nm, .int .i64 pa, .int .i64 lo, .slice ao nc co, .int .i64 (pl : Int), .bool sy, .slice ar re.length cr, .slice aw wrt.length cw, .slice ad nd cd] 122) := ⟨_, rfl⟩
  have b1 : Below W.heap.size W W1 := hW1 ▸ below_alloc W _
  obtain ⟨gb, hgb⟩ : ∃ y, y = W.heap.size := ⟨_, rfl⟩
  have kb : W1.heap[gb]? = some (.cells #[.string nm, .int .i64 pa, .int .i64 lo, .slice ao nc co, .int .i64 (pl : Int), .bool sy, .slice ar re.length cr, .slice aw wrt.length cw, .slice ad nd cd] 122 (0, 0)) := by rw [hW1, hgb]; exact heap_alloc_new W _
  obtain ⟨W2, hW2⟩ : ∃ X, X = W1.alloc (.cells #[.slice none 0 0, .slice none 0 0] 67) := ⟨_, rfl⟩
  have b2 : Below W1.heap.size W1 W2 := hW2 ▸ below_alloc W1 _
  obtain ⟨gw, hgw⟩ : ∃ y, y = W1.heap.size := ⟨_, rfl⟩
  have kw : W2.heap[gw]? = some (.cells #[.slice none 0 0, .slice none 0 0] 67 (0, 0)) := by rw [hW2, hgw]; exact heap_alloc_new W1 _
  have sgb : W.heap.size + 1 = gw := by rw [hgw, hW1]; simp
  have x3 : W2.cell? ⟨gb, 3, none⟩ = some (.slice ao nc co) := (row9 ((b2.block gb (lt_of_block kb)).trans kb)).2.2.2.1
  have B2 := hide (below_on b1 b2)
  have c1 := JF.out W2 B2.out
  go_enter Tryd.func57, Tryd.ntmps57
  have hal := alloc_ways
  go_upto_region 1 with fail
  rename_i K1 hK1 K hK
  unfold Oper.wp execOp
  simp only [Sem.run_bind, hal, Result.andThen_ok, Sem.run_pure, Oper.upon]
  refine hK _ _ ?_
  clear hK K
  go_upto_region 1 with fail
  go_frame
  rw [← hW1, ← hW2, ← hgw, ← hgb]
  have hgwW : W.heap.size ≤ gw := by omega
  have hgbw : gb ≠ gw := by omega
  clear hW1 hgb hW2 hgw b1 b2 sgb kb
  have S0 : (W2.drew.cell? ⟨gb, 3, none⟩ = some (.slice ao nc co) ∧ W2.drew.cell? ⟨gv, 1, none⟩ = some (.slice af nf cf)) := ⟨x3, c1⟩
  have zf : ∀ q, W2.frozen? ⟨gw, q, none⟩ = false := fun q => frozen_of_row W2 gw q _ 67 kw
  have y0 : W2.cell? ⟨gw, 0, none⟩ = some (.slice none 0 0) := by rw [cell_of_row W2 _ _ _ 67 (0, 0) kw]; rfl
  have y1 : W2.cell? ⟨gw, 1, none⟩ = some (.slice none 0 0) := by rw [cell_of_row W2 _ _ _ 67 (0, 0) kw]; rfl
  obtain ⟨W3, hW3⟩ : ∃ X, X = ((W2.setCell ⟨gw, 0, none⟩ (.slice ao nc co)).setCell ⟨gw, 1, none⟩ (.slice af nf cf)).drew := ⟨_, rfl⟩
  have hm3 : Mv W2 W3 (fun k => k = gw) := by
    rw [hW3]
    have := ((Mv.refl W2 (fun k => k = gw)).set (g := gw) rfl 0 (.slice ao nc co)).set (g := gw) rfl 1 (.slice af nf cf)
    exact this.later (below_drew _)
  have SZ : W3.cell? ⟨gb, 3, none⟩ = some (.slice ao nc co) ∧ W3.cell? ⟨gv, 1, none⟩ = some (.slice af nf cf) := ⟨hm3.cell x3 hgbw, hm3.cell c1 (by show ¬ gv = gw; omega)⟩
  have k3 : W3.heap[gw]? = some (.cells #[.slice ao nc co, .slice af nf cf] 67 (0, 0)) := by
    rw [hW3]
    show ((W2.setCell ⟨gw, 0, none⟩ (.slice ao nc co)).setCell ⟨gw, 1, none⟩ (.slice af nf cf)).heap[gw]? = _
    have h1 := heap_setCell_same W2 gw 0 _ 67 (.slice ao nc co) kw
    have h2 := heap_setCell_same (W2.setCell ⟨gw, 0, none⟩ (.slice ao nc co)) gw 1 _ 67 (.slice af nf cf) h1
    exact h2
  have B3 : Hid (Below W.heap.size W W3) := by
    have := hm3.below (B := W.heap.size) B2.out.size (fun k e => by omega)
    exact B2.out.trans this
  have SZ' := hW3 ▸ SZ
  refine wp_region_noPanic ?_
  refine wp_region_held_drew (S := (fun V => V.cell? ⟨gb, 3, none⟩ = some (.slice ao nc co) ∧ V.cell? ⟨gv, 1, none⟩ = some (.slice af nf cf))) (by kernel_rfl) (S0) (fun hHeld => ?_)
  refine' wpAnyH_take (i := 0) (oi := { dst := some 5, op := Go.Op.fieldAddr 122 (Go.Operand.tmp 3) 0, type := 0, pos := "verify.go:84", after := #[], guard := none }) (v := _) rfl (by kernel_rfl) (by kernel_rfl) (by kernel_rfl) (fun _ _ _ h => h) (Or.inl ⟨by rfl, ?hyr1_0⟩) (by assumption) ?rer1_0
  case hyr1_0 => (intro W hSw; (try dsimp only at hSw); go_simp; try with_reducible rfl)
  try simp only [Act.put, List.setIfInBounds_toArray, List.set_cons_zero, List.set_cons_succ]
  refine' wpAnyH_take (i := 1) (oi := { dst := some 6, op := Go.Op.fieldAddr 28 (Go.Operand.tmp 5) 3, type := 0, pos := "verify.go:84", after := #[{ on := 0, ground := Go.Ground.data }], guard := none }) (v := _) rfl (by kernel_rfl) (by kernel_rfl) (by kernel_rfl) (fun _ _ _ h => h) (Or.inl ⟨by rfl, ?hyr1_1⟩) (by assumption) ?rer1_1
  case hyr1_1 => (intro W hSw; (try dsimp only at hSw); go_simp; try with_reducible rfl)
  try simp only [Act.put, List.setIfInBounds_toArray, List.set_cons_zero, List.set_cons_succ]
  refine' wpAnyH_take (i := 2) (oi := { dst := some 7, op := Go.Op.load 26 (Go.Operand.tmp 6), type := 26, pos := "verify.go:84", after := #[{ on := 1, ground := Go.Ground.data }], guard := none }) (v := _) rfl (by kernel_rfl) (by kernel_rfl) (by kernel_rfl) (fun _ _ _ h => h) (Or.inl ⟨by rfl, ?hyr1_2⟩) (by assumption) ?rer1_2
  case hyr1_2 => (intro W hSw; (try dsimp only at hSw); go_simp; try with_reducible rfl)
  try simp only [Act.put, List.setIfInBounds_toArray, List.set_cons_zero, List.set_cons_succ]
  refine' wpAnyH_take (i := 3) (oi := { dst := some 8, op := Go.Op.move (Go.Operand.tmp 0), type := 83, pos := "verify.go:84", after := #[], guard := none }) (v := _) rfl (by kernel_rfl) (by kernel_rfl) (by kernel_rfl) (fun _ _ _ h => h) (Or.inl ⟨by rfl, ?hyr1_3⟩) (by assumption) ?rer1_3
  case hyr1_3 => (intro W hSw; (try dsimp only at hSw); go_simp; try with_reducible rfl)
  try simp only [Act.put, List.setIfInBounds_toArray, List.set_cons_zero, List.set_cons_succ]
  refine' wpAnyH_take (i := 4) (oi := { dst := some 9, op := Go.Op.nilCheck (Go.Operand.tmp 8), type := 0, pos := "verify.go:84", after := #[{ on := 3, ground := Go.Ground.data }], guard := none }) (v := _) rfl (by kernel_rfl) (by kernel_rfl) (by kernel_rfl) (fun _ _ _ h => h) (Or.inl ⟨by rfl, ?hyr1_4⟩) (by assumption) ?rer1_4
  case hyr1_4 => (intro W hSw; (try dsimp only at hSw); go_simp; try with_reducible rfl)
  try simp only [Act.put, List.setIfInBounds_toArray, List.set_cons_zero, List.set_cons_succ]
  refine' wpAnyH_take (i := 5) (oi := { dst := some 10, op := Go.Op.fieldAddr 87 (Go.Operand.tmp 9) 0, type := 0, pos := "verify.go:84", after := #[{ on := 4, ground := Go.Ground.data }], guard := none }) (v := _) rfl (by kernel_rfl) (by kernel_rfl) (by kernel_rfl) (fun _ _ _ h => h) (Or.inl ⟨by rfl, ?hyr1_5⟩) (by assumption) ?rer1_5
  case hyr1_5 => (intro W hSw; (try dsimp only at hSw); go_simp; try with_reducible rfl)
  try simp only [Act.put, List.setIfInBounds_toArray, List.set_cons_zero, List.set_cons_succ]
  refine' wpAnyH_take (i := 6) (oi := { dst := some 11, op := Go.Op.fieldAddr 25 (Go.Operand.tmp 10) 1, type := 0, pos := "verify.go:84", after := #[{ on := 5, ground := Go.Ground.data }], guard := none }) (v := _) rfl (by kernel_rfl) (by kernel_rfl) (by kernel_rfl) (fun _ _ _ h => h) (Or.inl ⟨by rfl, ?hyr1_6⟩) (by assumption) ?rer1_6
  case hyr1_6 => (intro W hSw; (try dsimp only at hSw); go_simp; try with_reducible rfl)
  try simp only [Act.put, List.setIfInBounds_toArray, List.set_cons_zero, List.set_cons_succ]
  refine' wpAnyH_take (i := 7) (oi := { dst := some 12, op := Go.Op.load 23 (Go.Operand.tmp 11), type := 23, pos := "verify.go:84", after := #[{ on := 6, ground := Go.Ground.data }], guard := none }) (v := _) rfl (by kernel_rfl) (by kernel_rfl) (by kernel_rfl) (fun _ _ _ h => h) (Or.inl ⟨by rfl, ?hyr1_7⟩) (by assumption) ?rer1_7
  case hyr1_7 => (intro W hSw; (try dsimp only at hSw); go_simp; try with_reducible rfl)
  try simp only [Act.put, List.setIfInBounds_toArray, List.set_cons_zero, List.set_cons_succ]
  refine' wpAnyH_take (i := 8) (oi := { dst := some 13, op := Go.Op.build 67 #[(0, Go.Operand.tmp 7), (1, Go.Operand.tmp 12)], type := 67, pos := "verify.go:84", after := #[{ on := 2, ground := Go.Ground.data }, { on := 7, ground := Go.Ground.data }], guard := none }) (v := _) rfl (by kernel_rfl) (by kernel_rfl) (by kernel_rfl) (fun _ _ _ h => h) (Or.inl ⟨by rfl, ?hyr1_8⟩) (by assumption) ?rer1_8
  case hyr1_8 => (intro W hSw; (try dsimp only at hSw); go_simp; try with_reducible rfl)
  try simp only [Act.put, List.setIfInBounds_toArray, List.set_cons_zero, List.set_cons_succ]
  refine wpAnyH_ready (rs := [9]) (by kernel_rfl) (by simp) ?_
  refine AllReadyH.cons (o := { dst := none, op := Go.Op.store 67 (Go.Operand.tmp 4) (Go.Operand.tmp 13), type := 0, pos := "verify.go:84", after := #[{ on := 8, ground := Go.Ground.data }, { on := 0, ground := Go.Ground.phase }, { on := 1, ground := Go.Ground.phase }, { on := 2, ground := Go.Ground.phase }, { on := 3, ground := Go.Ground.phase }, { on := 4, ground := Go.Ground.phase }, { on := 5, ground := Go.Ground.phase }, { on := 6, ground := Go.Ground.phase }, { on := 7, ground := Go.Ground.phase }, { on := 8, ground := Go.Ground.phase }], guard := none }) rfl (fun K hK => ?_) AllReadyH.nil
  clear hHeld
  go_simp
  refine hK.out _ _ (SZ') (fun hHeld => ?_)
  clear hK K
  try simp only [Act.put, List.setIfInBounds_toArray, List.set_cons_zero, List.set_cons_succ]
  rw [← hW3]
  refine wpAnyH_done (by kernel_rfl) ?_ _
  clear SZ SZ' S0 zf y0 y1 x3 c1 hal hm3 hW3
  refine NoPanic.normal ?_
  go_wp2_with fail
  exact bodyPost_ret (res_ways rfl rfl k3) rfl ⟨rfl, B3.out⟩
end Go.Proofs.YtklamaibinjcmaaDoor
