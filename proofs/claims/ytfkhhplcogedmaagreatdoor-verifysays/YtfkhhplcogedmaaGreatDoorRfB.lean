/-
  The document's Effect.
-/
import Derived.Test.YtfkhhplcogedmaaGreatDoorMgT
namespace Go.Proofs.YtfkhhplcogedmaaGreatDoor
open Go.RowKit
set_option maxRecDepth 100000
theorem cell_later {W W' : World} {a : Addr} {v : Value} (h : W.cell? a = some v) (hb : Below W.heap.size W W') : W'.cell? a = some v := (hb.cell (World.block_lt_of_cell? W _ h)).trans h
def TdK (W : World) (g k : Nat) : Prop := W.cell? ⟨g, k * 4, none⟩ = some (.string (wd k)) ∧ W.cell? ⟨g, k * 4 + 1, none⟩ = some (.bool (numb k)) ∧ W.cell? ⟨g, k * 4 + 2, none⟩ = some (.int .i64 (tkD k)) ∧ W.cell? ⟨g, k * 4 + 3, none⟩ = some (.int .i64 (pts k : Int))
theorem size_alloc2 (W : World) (o : Obj) : (W.alloc o).drew.heap.size = W.heap.size + 1 := Array.size_push ..
theorem td_alloc {W : World} {g : Nat} (h : Td W g) (o : Obj) : Td (W.alloc o) g := fun k hk => by
  obtain ⟨a, b, c, d⟩ := h k hk
  have hb := below_alloc W o
  exact ⟨cell_later a hb, cell_later b hb, cell_later c hb, cell_later d hb⟩
/-- What Effect knows behind its row. -/
def EfS (W : World) (B : Nat) (op a : Int) (k : Nat) (u : Value) (w' : World) : Prop := ∃ r, u = .pointer (some ⟨r, 0, none⟩) ∧ Below W.heap.size W w' ∧ w'.cell? ⟨B, 0, none⟩ = some (.int .i64 op) ∧ w'.cell? ⟨B, 1, none⟩ = some (.int .i64 a) ∧ w'.cell? ⟨r, 2, none⟩ = some (.int .i64 (tkD k)) ∧ w'.cell? ⟨r, 3, none⟩ = some (.int .i64 (pts k : Int))
theorem wpAnyH_more {P : Program} {md : Region.Mode} {ops : Array Oper} {Q : Exit → Act → World → Prop} {S S' : World → Prop} (h : ∀ w, S' w → S w) :
    ∀ (fuel : Nat) (listed : Array Bool) (a : Act) (w : World), wpAnyH P md ops Q S' fuel listed a w → wpAnyH P md ops Q S fuel listed a w
  | 0, _, _, _, hw => hw
  | fuel + 1, _, _, _, hw => ⟨hw.1, fun i hi => wpOp_mono (fun _ _ hk => ⟨h _ hk.1, wpAnyH_more h fuel _ _ _ hk.2⟩) (hw.2 i hi)⟩
theorem rowBelow {W w' : World} {x0 x1 x2 x3 : Value} {T : Nat} (hb : Below (W.alloc (.cells #[x0, x1, x2, x3] T)).drew.heap.size (W.alloc (.cells #[x0, x1, x2, x3] T)).drew w') : w'.cell? ⟨W.heap.size, 0, none⟩ = some x0 ∧ w'.cell? ⟨W.heap.size, 1, none⟩ = some x1 ∧ w'.cell? ⟨W.heap.size, 2, none⟩ = some x2 ∧ w'.cell? ⟨W.heap.size, 3, none⟩ = some x3 ∧ (∀ j, w'.frozen? ⟨W.heap.size, j, none⟩ = false) ∧ Hid (w'.heap[W.heap.size]? = some (.cells #[x0, x1, x2, x3] T (0, 0))) := by
  have n : (W.alloc (.cells #[x0, x1, x2, x3] T)).drew.heap[W.heap.size]? = some (.cells #[x0, x1, x2, x3] T (0, 0)) := heap_alloc_new W (.cells #[x0, x1, x2, x3] T)
  have n' := (hb.block _ (lt_of_block n)).trans n
  refine ⟨?_, ?_, ?_, ?_, fun j => frozen_of_row w' _ j _ T n', n'⟩ <;> rw [cell_of_row w' _ _ _ T (0, 0) n'] <;> rfl
theorem set4 {w : World} {t T : Nat} {y0 y1 y2 y3 : Value} (n : w.heap[t]? = some (.cells #[y0, y1, y2, y3] T (0, 0))) (x0 x1 x2 x3 : Value) :
    ((((w.setCell ⟨t, 0, none⟩ x0).setCell ⟨t, 1, none⟩ x1).setCell ⟨t, 2, none⟩ x2).setCell ⟨t, 3, none⟩ x3).heap[t]? = some (.cells #[x0, x1, x2, x3] T (0, 0)) ∧
    Mv w ((((w.setCell ⟨t, 0, none⟩ x0).setCell ⟨t, 1, none⟩ x1).setCell ⟨t, 2, none⟩ x2).setCell ⟨t, 3, none⟩ x3) (fun j => j = t) :=
  ⟨heap_setCell_same _ t 3 _ T _ (heap_setCell_same _ t 2 _ T _ (heap_setCell_same _ t 1 _ T _ (heap_setCell_same w t 0 _ T _ n))), ((((Mv.refl w (fun j => j = t)).set (g := t) rfl 0 x0).set (g := t) rfl 1 x1).set (g := t) rfl 2 x2).set (g := t) rfl 3 x3⟩
theorem ef_row {w1 w : World} {B r k : Nat} {op a : Int} {x0 x1 : Value} {T : Nat} (hb : Below w1.heap.size w1 w) (c0 : w.cell? ⟨B, 0, none⟩ = some (.int .i64 op)) (c1 : w.cell? ⟨B, 1, none⟩ = some (.int .i64 a)) (n : w.heap[r]? = some (.cells #[x0, x1, .int .i64 (tkD k), .int .i64 (pts k : Int)] T (0, 0))) : EfS w1 B op a k (.pointer (some ⟨r, 0, none⟩)) w :=
  ⟨r, rfl, hb, c0, c1, by rw [cell_of_row w _ _ _ T (0, 0) n]; rfl, by rw [cell_of_row w _ _ _ T (0, 0) n]; rfl⟩
set_option maxHeartbeats 2000000 in
theorem deffect_any {Q : Nat → Prop} {W : World} {v : Value} {fs : List Rt} (h : Rts Q W v fs) (i : Ins) : Calls Tryz.prog 86 #[insV i, v] W fun e w' => e = .returned (.tuple #[.int .i64 (takE fs i), .int .i64 (putE i)]) ∧ Below W.heap.size W w' := by
  obtain ⟨op, a⟩ := i
  obtain ⟨w0, hw0⟩ : ∃ X, X = W.alloc (.cells #[.int .i64 op, .int .i64 a] 28) := ⟨_, rfl⟩
  have B0 : Below W.heap.size W w0 := hw0 ▸ below_alloc W _
  have n1 : w0.heap[W.heap.size]? = some (.cells #[.int .i64 op, .int .i64 a] 28 (0, 0)) := by rw [hw0]; exact heap_alloc_new W _
  have HB := hide B0
  have N1 := hide n1
  have H := hide h
  clear B0 h
  obtain ⟨B, hB⟩ : ∃ B, B = W.heap.size := ⟨_, rfl⟩
  rw [← hB] at n1
  have c0 : w0.cell? ⟨B, 0, none⟩ = some (.int .i64 op) := by rw [cell_of_row w0 _ _ _ 28 (0, 0) n1]; rfl
  have c1 : w0.cell? ⟨B, 1, none⟩ = some (.int .i64 a) := by rw [cell_of_row w0 _ _ _ 28 (0, 0) n1]; rfl
  have hBlt := lt_of_block n1
  have i1 := hide (disop_any op)
  clear n1
  obtain ⟨te, hte⟩ : ∃ t, t = takE fs ⟨op, a⟩ := ⟨_, rfl⟩
  obtain ⟨pe, hpe⟩ : ∃ t, t = putE ⟨op, a⟩ := ⟨_, rfl⟩
  rw [← hte, ← hpe]
  have TE := hide hte
  have PE := hide hpe
  clear hte hpe
  unfold takE at TE
  unfold putE at PE
  unfold insV
  dsimp only at TE PE ⊢
  by_cases hop : 1 ≤ op ∧ op ≤ 39
  · have t1 : decide (1 ≤ op ∧ op ≤ 39) = true := by simp [hop]
    rw [t1] at i1
    rw [opk_in hop] at TE PE
    obtain ⟨k, hk⟩ : ∃ k : Nat, k = op.toNat := ⟨_, rfl⟩
    rw [← hk] at TE PE
    have hk40 : k < 40 := by omega
    obtain rfl : op = (k : Int) := by omega
    clear hk t1
    go_enter Tryz.func86, Tryz.ntmps86
    go_upto_region 1 with fail
    rw [← hw0, ← hB]
    have HB0 := hide hw0
    clear hw0 hB
    go_wp2_with fail
    refine (i1.out _).mono ?_
    rintro e w1 ⟨rfl, rfl⟩
    go_upto_region 4 with fail
    go_cut [7] (fun u wx => EfS w1 B k a k u wx)
    case first =>
      have nn := World.new_ne w1 ⟨B, 0, none⟩ c0
      have c0' : w1.drew.cell? ⟨B, 0, none⟩ = some (.int .i64 (k : Int)) := c0
      have c1' : w1.drew.cell? ⟨B, 1, none⟩ = some (.int .i64 a) := c1
      have cA : Hid (∀ o, (w1.alloc o).drew.cell? ⟨B, 0, none⟩ = some (.int .i64 (k : Int))) := fun o => cell_later c0 (below_on (below_alloc w1 o) (below_drew _))
      have cA1 : Hid (∀ o, (w1.alloc o).drew.cell? ⟨B, 1, none⟩ = some (.int .i64 a)) := fun o => cell_later c1 (below_on (below_alloc w1 o) (below_drew _))
      have ne1 : ¬ (w1.heap.size + 1 = w1.heap.size) := by omega
      have neB : ¬ (B = w1.heap.size) := by omega
      have k0 : (0 : Int) ≤ (k : Int) := by omega
      have k1 : (k : Int) < 40 := by omega
      have k2 : (k : Int).toNat = k := by omega
      refine wp_region_noPanic ?_
      refine wp_region_held_drew (S := fun Wq => Wq.cell? ⟨B, 0, none⟩ = some (.int .i64 (k : Int))) (by kernel_rfl) (c0') (fun hHeld => ?_)
      refine' wpAnyH_take (i := 1) (oi := { dst := some 14, op := Go.Op.fieldAddr 28 (Go.Operand.tmp 2) 0, type := 0, pos := "code.go:62", after := #[], guard := none }) (v := _) rfl (by kernel_rfl) (by kernel_rfl) (by kernel_rfl) (fun _ _ _ h => h) (Or.inl ⟨by rfl, ?hyr2_1⟩) (by assumption) ?rer2_1
      case hyr2_1 => (intro W hSw; (try dsimp only at hSw); go_simp; try with_reducible rfl)
      try simp only [Act.put, List.setIfInBounds_toArray, List.set_cons_zero, List.set_cons_succ]
      refine' wpAnyH_take (i := 2) (oi := { dst := some 15, op := Go.Op.load 3 (Go.Operand.tmp 14), type := 3, pos := "code.go:62", after := #[{ on := 1, ground := Go.Ground.data }], guard := none }) (v := _) rfl (by kernel_rfl) (by kernel_rfl) (by kernel_rfl) (fun _ _ _ h => h) (Or.inl ⟨by rfl, ?hyr2_2⟩) (by assumption) ?rer2_2
      case hyr2_2 => (intro W hSw; (try dsimp only at hSw); go_simp; try with_reducible rfl)
      try simp only [Act.put, List.setIfInBounds_toArray, List.set_cons_zero, List.set_cons_succ]
      refine wpAnyH_ready (rs := [0, 5]) (by kernel_rfl) (by simp) ?_
      refine AllReadyH.cons (o := { dst := some 13, op := Go.Op.call { callee := Go.Callee.value (Go.Operand.func 103), args := #[], argTypes := #[] }, type := 177, pos := "code.go:62", after := #[], guard := none }) rfl (fun K hK => ?_) (AllReadyH.cons (o := { dst := some 7, op := Go.Op.alloc 176, type := 0, pos := "code.go:62", after := #[], guard := none }) rfl (fun K hK => ?_) AllReadyH.nil)
      · clear hHeld
        go_simp
        refine (table_any w1.drew).mono ?_
        rintro e w2 ⟨rfl, hb2, ht2⟩
        obtain ⟨d0, d1, d2, d3⟩ : TdK w2 w1.heap.size k := ht2 k hk40
        have cB := cell_later c0' hb2
        have cB1 := cell_later c1' hb2
        have HB2 := hide (below_on (below_drew w1) hb2)
        clear ht2 hb2
        refine hK.out _ _ cB (fun hHeld => ?_)
        clear hK K hHeld
        try simp only [Act.put, List.setIfInBounds_toArray, List.set_cons_zero, List.set_cons_succ]
        have hHeld := Below.refl w2.heap.size w2
        refine wpAnyH_more (S' := fun Wq => Below w2.heap.size w2 Wq) (fun Wq hW => cell_later cB hW) _ _ _ _ ?_
        refine' wpAnyH_take (i := 3) (oi := { dst := some 16, op := Go.Op.indexAddr 177 (Go.Operand.tmp 13) (Go.Operand.tmp 15), type := 0, pos := "code.go:62", after := #[{ on := 0, ground := Go.Ground.data }, { on := 2, ground := Go.Ground.data }], guard := none }) (v := _) rfl (by kernel_rfl) (by kernel_rfl) (by kernel_rfl) (fun _ _ _ h => h) (Or.inl ⟨by rfl, ?hyq1⟩) (by assumption) ?req1
        case hyq1 => (intro W hSw; (try dsimp only at hSw); go_simp; try with_reducible rfl)
        try simp only [Act.put, List.setIfInBounds_toArray, List.set_cons_zero, List.set_cons_succ]
        refine' wpAnyH_take (i := 4) (oi := { dst := some 17, op := Go.Op.load 176 (Go.Operand.tmp 16), type := 176, pos := "code.go:62", after := #[{ on := 3, ground := Go.Ground.data }], guard := none }) (v := _) rfl (by kernel_rfl) (by kernel_rfl) (by kernel_rfl) (fun _ _ _ h => h) (Or.inl ⟨by rfl, ?hyq2⟩) (by assumption) ?req2
        case hyq2 => (intro W hSw; (try dsimp only at hSw); have z0 := cell_later d0 hSw; have z1 := cell_later d1 hSw; have z2 := cell_later d2 hSw; have z3 := cell_later d3 hSw; go_simp; try with_reducible rfl)
        try simp only [Act.put, List.setIfInBounds_toArray, List.set_cons_zero, List.set_cons_succ]
        refine wpAnyH_ready (rs := [5]) (by kernel_rfl) (by simp) ?_
        refine AllReadyH.cons (o := { dst := some 7, op := Go.Op.alloc 176, type := 0, pos := "code.go:62", after := #[], guard := none }) rfl (fun K hK => ?_) AllReadyH.nil
        clear hHeld
        go_simp
        refine hK.out _ _ (below_alloc w2 _) (fun hHeld => ?_)
        clear hK K
        try simp only [Act.put, List.setIfInBounds_toArray, List.set_cons_zero, List.set_cons_succ]
        refine wpAnyH_ready (rs := [6]) (by kernel_rfl) (by simp) ?_
        refine AllReadyH.cons (o := { dst := none, op := Go.Op.store 176 (Go.Operand.tmp 7) (Go.Operand.tmp 17), type := 0, pos := "code.go:62", after := #[{ on := 5, ground := Go.Ground.data }, { on := 4, ground := Go.Ground.data }, { on := 0, ground := Go.Ground.chain }, { on := 0, ground := Go.Ground.phase }, { on := 1, ground := Go.Ground.phase }, { on := 2, ground := Go.Ground.phase }, { on := 3, ground := Go.Ground.phase }, { on := 4, ground := Go.Ground.phase }, { on := 5, ground := Go.Ground.phase }], guard := none }) rfl (fun K hK => ?_) AllReadyH.nil
        clear hHeld
        go_simp
        refine hK.out _ _ (below_alloc w2 _) (fun hHeld => ?_)
        clear hK K
        try simp only [Act.put, List.setIfInBounds_toArray, List.set_cons_zero, List.set_cons_succ]
        refine wpAnyH_done (by kernel_rfl) ?_ _
        have G := ef_row (w1 := w1) (k := k) (below_on HB2.out (below_alloc w2 _)) (cell_later cB (below_alloc w2 _)) (cell_later cB1 (below_alloc w2 _)) (heap_alloc_new w2 (.cells #[.string (wd k), .bool (numb k), .int .i64 (tkD k), .int .i64 (pts k : Int)] 176))
        have GG := hide G
        clear G
        refine NoPanic.normal ?_
        go_wp2_with fail
        go_meet
        exact GG.out
      · clear hHeld
        go_simp
        refine hK.out _ _ (cA.out _) (fun hHeld => ?_)
        clear hK K
        try simp only [Act.put, List.setIfInBounds_toArray, List.set_cons_zero, List.set_cons_succ]
        refine wpAnyH_ready (rs := [0]) (by kernel_rfl) (by simp) ?_
        refine AllReadyH.cons (o := { dst := some 13, op := Go.Op.call { callee := Go.Callee.value (Go.Operand.func 103), args := #[], argTypes := #[] }, type := 177, pos := "code.go:62", after := #[], guard := none }) rfl (fun K hK => ?_) AllReadyH.nil
        clear hHeld
        go_simp
        refine (table_any _).mono ?_
        rintro e w2 ⟨rfl, hb2, ht2⟩
        rw [size_alloc2] at ht2 ⊢
        obtain ⟨d0, d1, d2, d3⟩ : TdK w2 (w1.heap.size + 1) k := ht2 k hk40
        have cB := cell_later (cA.out _) hb2
        have cB1 := cell_later (cA1.out _) hb2
        have HB2 := hide (below_on (below_on (below_alloc w1 _) (below_drew _)) hb2)
        have RB := rowBelow hb2
        clear ht2 hb2
        obtain ⟨f0, f1, f2, f3, z0, N2⟩ := RB
        refine hK.out _ _ cB (fun hHeld => ?_)
        clear hK K hHeld
        try simp only [Act.put, List.setIfInBounds_toArray, List.set_cons_zero, List.set_cons_succ]
        obtain ⟨nq, mq⟩ := set4 N2.out (.string (wd k)) (.bool (numb k)) (.int .i64 (tkD k)) (.int .i64 (pts k : Int))
        have NQ := hide nq
        have MQ := hide mq
        clear nq mq
        have hHeld : w2.cell? ⟨B, 0, none⟩ = some (.int .i64 (k : Int)) ∧ TdK w2 (w1.heap.size + 1) k := ⟨cB, d0, d1, d2, d3⟩
        refine wpAnyH_more (S' := fun Wq => Wq.cell? ⟨B, 0, none⟩ = some (.int .i64 (k : Int)) ∧ TdK Wq (w1.heap.size + 1) k) (fun Wq hW => hW.1) _ _ _ _ ?_
        refine' wpAnyH_take (i := 3) (oi := { dst := some 16, op := Go.Op.indexAddr 177 (Go.Operand.tmp 13) (Go.Operand.tmp 15), type := 0, pos := "code.go:62", after := #[{ on := 0, ground := Go.Ground.data }, { on := 2, ground := Go.Ground.data }], guard := none }) (v := _) rfl (by kernel_rfl) (by kernel_rfl) (by kernel_rfl) (fun _ _ _ h => h) (Or.inl ⟨by rfl, ?hyq3⟩) (by assumption) ?req3
        case hyq3 => (intro W hSw; (try dsimp only at hSw); go_simp; try with_reducible rfl)
        try simp only [Act.put, List.setIfInBounds_toArray, List.set_cons_zero, List.set_cons_succ]
        refine' wpAnyH_take (i := 4) (oi := { dst := some 17, op := Go.Op.load 176 (Go.Operand.tmp 16), type := 176, pos := "code.go:62", after := #[{ on := 3, ground := Go.Ground.data }], guard := none }) (v := _) rfl (by kernel_rfl) (by kernel_rfl) (by kernel_rfl) (fun _ _ _ h => h) (Or.inl ⟨by rfl, ?hyq4⟩) (by assumption) ?req4
        case hyq4 => (intro W hSw; (try dsimp only at hSw); obtain ⟨z4, z0, z1, z2, z3⟩ := hSw; go_simp; try with_reducible rfl)
        try simp only [Act.put, List.setIfInBounds_toArray, List.set_cons_zero, List.set_cons_succ]
        refine wpAnyH_ready (rs := [6]) (by kernel_rfl) (by simp) ?_
        refine AllReadyH.cons (o := { dst := none, op := Go.Op.store 176 (Go.Operand.tmp 7) (Go.Operand.tmp 17), type := 0, pos := "code.go:62", after := #[{ on := 5, ground := Go.Ground.data }, { on := 4, ground := Go.Ground.data }, { on := 0, ground := Go.Ground.chain }, { on := 0, ground := Go.Ground.phase }, { on := 1, ground := Go.Ground.phase }, { on := 2, ground := Go.Ground.phase }, { on := 3, ground := Go.Ground.phase }, { on := 4, ground := Go.Ground.phase }, { on := 5, ground := Go.Ground.phase }], guard := none }) rfl (fun K hK => ?_) AllReadyH.nil
        clear hHeld
        go_simp
        refine hK.out _ _ (⟨MQ.out.cell cB neB, MQ.out.cell d0 ne1, MQ.out.cell d1 ne1, MQ.out.cell d2 ne1, MQ.out.cell d3 ne1⟩) (fun hHeld => ?_)
        clear hK K
        try simp only [Act.put, List.setIfInBounds_toArray, List.set_cons_zero, List.set_cons_succ]
        refine wpAnyH_done (by kernel_rfl) ?_ _
        have GG := hide (ef_row (w1 := w1) (k := k) (HB2.out.trans (MQ.out.below HB2.out.size (fun j e => by omega))) (MQ.out.cell cB neB) (MQ.out.cell cB1 neB) NQ.out)
        clear MQ NQ N2 HB2
        refine NoPanic.normal ?_
        go_wp2_with fail
        go_meet
        exact GG.out
    obtain ⟨r, rfl, hb2, y0, y1, y2, y3⟩ := hcut
    have HF := hide (below_on HB.out hb2)
    have H2 := hide (H.out.later HF.out)
    clear hb2 HB c0 c1 N1 HB0 i1 hBlt
    obtain ⟨tk, htk⟩ : ∃ t, t = tkD k := ⟨_, rfl⟩
    rw [← htk] at y2
    have HTK := hide htk
    clear htk
    unfold tkD at HTK
    rw [← PE.out] at y3
    clear PE
    by_cases h21 : k = 21
    · obtain rfl : tk = -1 := by rw [HTK.out, if_pos h21]
      have TE2 : Hid (te = parE fs a) := by unfold Hid; rw [TE.out, if_pos (by omega)]
      clear TE HTK
      obtain ⟨ao, c, rfl, h2, h3, h4⟩ := H2.out
      unfold maxLen at h3
      unfold parE at TE2
      clear H2 H
      by_cases ha : a < 0
      · obtain rfl : te = 0 := by rw [TE2.out, if_neg (by omega)]
        clear h4 TE2
        go_upto_region 7 with fail
        go_quiet (fail)
        go_wp2_with fail
        go_ret2
        exact ⟨rfl, below_on HF.out (below_drawn _ _)⟩
      · by_cases hb : a < fs.length
        · obtain ⟨g, o, rfl, -, h5⟩ := h4 (by omega)
          obtain ⟨-, -, vc, -, c1, -⟩ := h5 a.toNat (by omega)
          have e1 : (fs.map Rt.pa).getD a.toNat 0 = (fs[a.toNat]'(by omega)).pa := by
            rw [List.getD_eq_getElem?_getD, List.getElem?_map, List.getElem?_eq_getElem (by omega)]; rfl
          have TE3 : Hid (te = max (fs[a.toNat]'(by omega)).pa 0) := by unfold Hid; rw [TE2.out, if_pos ⟨by omega, hb⟩, e1]
          clear h4 h5 e1 TE2
          generalize (fs[a.toNat]'(by omega)).pa = x at *
          generalize fs.length = n at *
          have h1 : (0 : Int) ≤ a := by omega
          by_cases hx : x < 0
          · obtain rfl : te = 0 := by rw [TE3.out]; omega
            clear TE3
            go_upto_region 7 with fail
            go_quiet (fail)
            go_wp2_with fail
            go_ret2
            exact ⟨rfl, below_on HF.out (below_drawn _ _)⟩
          · obtain rfl : te = x := by rw [TE3.out]; omega
            clear TE3
            go_upto_region 8 with fail
            go_quiet (fail)
            go_wp2_with fail
            go_ret2
            exact ⟨rfl, below_on HF.out (below_drawn _ _)⟩
        · obtain rfl : te = 0 := by rw [TE2.out, if_neg (by omega)]
          clear h4 TE2
          go_upto_region 7 with fail
          go_quiet (fail)
          go_wp2_with fail
          go_ret2
          exact ⟨rfl, below_on HF.out (below_drawn _ _)⟩
    · by_cases h26 : k = 26 ∨ k = 28
      · obtain rfl : tk = -2 := by rw [HTK.out, if_neg h21, if_pos h26]
        have TE2 : Hid (te = if a < 0 then 0 else a % 8) := by unfold Hid; rw [TE.out, if_neg (by omega), if_pos (by omega)]
        clear TE HTK H2 H
        by_cases ha : a < 0
        · obtain rfl : te = 0 := by rw [TE2.out, if_pos ha]
          clear TE2
          go_upto_region 11 with fail
          go_quiet (fail)
          go_wp2_with fail
          go_ret2
          exact ⟨rfl, below_on HF.out (below_drawn _ _)⟩
        · have TE3 : Hid (te = a % 8) := by unfold Hid; rw [TE2.out, if_neg ha]
          clear TE2
          have h1 : (0 : Int) ≤ a := by omega
          go_upto_region 12 with fail
          go_quiet (fail)
          go_wp2_with fail
          go_ret2
          exact ⟨ret_ints (by rw [TE3.out]) rfl, below_on HF.out (below_drawn _ _)⟩
      · have HTK2 : Hid (tk = (tak k : Int)) := by unfold Hid; rw [HTK.out, if_neg h21, if_neg h26]
        obtain rfl : te = tk := by rw [TE.out, if_neg (by omega), if_neg (by omega), HTK2.out]
        have t1 : (te == -1) = false := by rw [beq_eq_false_iff_ne]; have := HTK2.out; omega
        have t2 : (te == -2) = false := by rw [beq_eq_false_iff_ne]; have := HTK2.out; omega
        clear TE HTK H2 H HTK2
        go_upto_region 13 with fail
        go_quiet (fail)
        go_wp2_with fail
        go_ret2
        exact ⟨rfl, below_on HF.out (below_drawn _ _)⟩
  · have t1 : decide (1 ≤ op ∧ op ≤ 39) = false := by simp; omega
    rw [t1] at i1
    have ek : opk op = 0 := opk_out hop
    obtain rfl : te = 0 := by rw [TE.out, if_neg (by omega), if_neg (by omega), ek]; rfl
    obtain rfl : pe = 0 := by rw [PE.out, ek]; rfl
    clear TE PE ek t1
    go_enter Tryz.func86, Tryz.ntmps86
    go_upto_region 1 with fail
    rw [← hw0, ← hB]
    clear hw0 hB
    go_wp2_with fail
    refine (i1.out _).mono ?_
    rintro e w1 ⟨rfl, rfl⟩
    go_wp2_with fail
    go_ret2
    exact ⟨rfl, HB.out⟩
end Go.Proofs.YtfkhhplcogedmaaGreatDoor
