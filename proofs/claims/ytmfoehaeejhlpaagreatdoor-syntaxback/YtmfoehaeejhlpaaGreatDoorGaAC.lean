import Derived.Test.YtmfoehaeejhlpaaGreatDoorGaAB
/-
  The reader: isAtName, needName, name, node, nameNode.
-/
namespace Go.Proofs.YtmfoehaeejhlpaaGreatDoor
open Go.RowKit Yn
set_option maxRecDepth 100000
/-- A region that draws its order: the condition on the world may grow on the way. -/
theorem wpAnyH_more {P : Program} {md : Region.Mode} {ops : Array Oper} {Q : Exit → Act → World → Prop} {S S' : World → Prop} (h : ∀ w, S' w → S w) :
    ∀ (fuel : Nat) (listed : Array Bool) (a : Act) (w : World), wpAnyH P md ops Q S' fuel listed a w → wpAnyH P md ops Q S fuel listed a w
  | 0, _, _, _, hw => hw
  | fuel + 1, _, _, _, hw => ⟨hw.1, fun i hi => wpOp_mono (fun _ _ hk => ⟨h _ hk.1, wpAnyH_more h fuel _ _ _ hk.2⟩) (hw.2 i hi)⟩
section
variable {W W' W2 : World} {B k : Nat} {ws : List ByteArray} {s : S}
theorem Wds.sr {v : Value} (h : Wds W v ws) : Sr W v ws := by
  obtain ⟨g, c, rfl, h1, h2, h3⟩ := h
  exact ⟨_, c, rfl, h1, h2, fun i hi => ⟨g, 0, rfl, by rw [Nat.zero_add]; exact h3 i hi⟩⟩
set_option maxHeartbeats 4000000 in
theorem isName_any (h : Rd W B k ws s) : Calls Tryz.prog 177 #[.pointer (some ⟨k, 0, none⟩)] W fun e W' => e = .returned (.bool (isName ws s)) ∧ Below W.heap.size W W' := by
  have CN : Hid (∀ W', Below W.heap.size W W' → Calls Tryz.prog 77 #[.pointer (some ⟨k, 0, none⟩)] W' fun e w' => ∃ v, e = .returned v ∧ v = .agg #[.int .i64 ((hd s).k : Int), .string (hd s).t, .int .i64 ((hd s).a : Int)] ∧ Below W'.heap.size W' w') := fun W' hb => (now_any (h.later hb)).mono (fun _ _ ⟨h1, h2⟩ => ⟨_, h1, rfl, h2⟩)
  obtain ⟨h1, h2, h3, vt, vw, h4, h5, h6, h7, h8⟩ := h
  have CC : Hid (∀ W', Below W.heap.size W W' → Calls Tryz.prog 144 #[vw, .string (hd s).t] W' fun e w' => ∃ v, e = .returned v ∧ v = .bool (inW ws (hd s).t) ∧ Below W'.heap.size W' w') := fun W' hb => by
    haveI : Decidable ((hd s).t ∈ ws) := Classical.propDecidable _
    have e0 : decide ((hd s).t ∈ ws) = inW ws (hd s).t := by rw [Bool.eq_iff_iff, decide_eq_true_eq, inW_mem]
    refine (contains_any ((h7.mv (Mv.of_below hb (fun _ => False)) (fun _ _ e => e)).sr) (hd s).t).mono ?_
    rintro e w' ⟨h1, rfl⟩
    exact ⟨_, h1, by rw [e0], Below.refl _ _⟩
  have SS0 : Hid (∀ W' : World, Below W.heap.size W W' → (Below W.heap.size W W' ∧ W'.cell? ⟨k, 1, none⟩ = some vw ∧ True)) := fun W' hb => ⟨hb, by rw [cell_of_row W' k _ _ 60 (0, 0) ((hb.block k (lt_of_block h4)).trans h4)]; rfl, trivial⟩
  have f0 := fld0
  have f1 := fld1
  unfold isName
  generalize hd s = t at *
  clear h1 h2 h3 h4 h5 h6 h7 h8
  by_cases hk1 : t.k = 1
  · have t1 : ((t.k : Int) == 1) = true := by rw [beq_iff_eq]; omega
    have e1 : decide (t.k = 1) = true := decide_eq_true hk1
    rw [e1, Bool.true_and]
    generalize inW ws t.t = bb at *
    clear hk1 e1
    go_enter Tryz.func177, Tryz.ntmps177
    go_upto_region 1 with fail
    refine wp_region_noPanic ?_
    refine wp_region_held_drew (S := (fun Wq => Below W.heap.size W Wq ∧ Wq.cell? ⟨k, 1, none⟩ = some vw ∧ True)) (by kernel_rfl) (SS0.out _ ⟨rfl, rfl, rfl, Nat.le_refl _, fun _ _ => rfl⟩) (fun hHeld => ?_)
    refine' wpAnyH_take (i := 0) (oi := { dst := some 3, op := Op.move (Operand.tmp 0), type := 56, pos := "read.go:83", after := #[], guard := none }) (v := _) rfl (by kernel_rfl) (by kernel_rfl) (by kernel_rfl) (fun _ _ _ h => h) (Or.inl ⟨by rfl, ?hyN_0⟩) (by assumption) ?reN_0
    case hyN_0 => (intro W hSw; (try dsimp only at hSw); go_simp; try with_reducible rfl)
    try simp only [Act.put, List.setIfInBounds_toArray, List.set_cons_zero, List.set_cons_succ]
    refine wpAnyH_ready (rs := [1]) (by kernel_rfl) (by simp) ?_
    refine AllReadyH.cons (o := { dst := some 4, op := Op.call { callee := Callee.value (Operand.func 77), args := #[Operand.tmp 3], argTypes := #[56] }, type := 73, pos := "read.go:83", after := #[{ on := 0, ground := Ground.data }], guard := none }) rfl (fun K hK => ?_) AllReadyH.nil
    go_simp
    go_at_call 77
    refine (CN.out W.drew ⟨rfl, rfl, rfl, Nat.le_refl _, fun _ _ => rfl⟩).mono ?_
    clear hHeld
    rintro e x1 ⟨v1, rfl, dx1, bx1⟩
    have Xx1 : Hid (Below W.heap.size W x1) := ⟨bx1.os, bx1.tape, bx1.output, bx1.size, bx1.block⟩
    have BWx1 : Hid (Below W.heap.size W x1) := Xx1.out
    obtain rfl := dx1
    have SSx1 : Hid (∀ Wq : World, Below x1.heap.size x1 Wq → (Below x1.heap.size x1 Wq ∧ Wq.cell? ⟨k, 1, none⟩ = some vw ∧ True)) := fun Wq hW => ⟨hW, (SS0.out Wq (Xx1.out.trans (hW.mono Xx1.out.size))).2⟩
    refine hK.out _ _ (SS0.out x1 Xx1.out) (fun _ => ?_)
    refine wpAnyH_more (S' := fun Wq => Below x1.heap.size x1 Wq ∧ Wq.cell? ⟨k, 1, none⟩ = some vw ∧ True) (fun Wq hW => SS0.out Wq (Xx1.out.trans (hW.1.mono Xx1.out.size))) _ _ _ _ ?_
    have hHeld := SSx1.out x1 (Below.refl _ _)
    clear hK K bx1
    try simp only [Act.put, List.setIfInBounds_toArray, List.set_cons_zero, List.set_cons_succ]
    refine' wpAnyH_take (i := 2) (oi := { dst := some 5, op := Op.field 73 (Operand.tmp 4) 0, type := 3, pos := "read.go:83", after := #[{ on := 1, ground := Ground.data }], guard := none }) (v := _) rfl (by kernel_rfl) (by kernel_rfl) (by kernel_rfl) (fun _ _ _ h => h) (Or.inl ⟨by rfl, ?hyN_2⟩) (by assumption) ?reN_2
    case hyN_2 => (intro W hSw; (try dsimp only at hSw); go_simp; try with_reducible rfl)
    try simp only [Act.put, List.setIfInBounds_toArray, List.set_cons_zero, List.set_cons_succ]
    refine' wpAnyH_take (i := 3) (oi := { dst := some 6, op := Op.binOp BinOp.eql 3 (Operand.tmp 5) (Operand.const (Value.int IntKind.i64 1)) 3, type := 4, pos := "read.go:83", after := #[{ on := 2, ground := Ground.data }], guard := none }) (v := _) rfl (by kernel_rfl) (by kernel_rfl) (by kernel_rfl) (fun _ _ _ h => h) (Or.inl ⟨by rfl, ?hyN_3⟩) (by assumption) ?reN_3
    case hyN_3 => (intro W hSw; (try dsimp only at hSw); go_simp; try with_reducible rfl)
    try simp only [Act.put, List.setIfInBounds_toArray, List.set_cons_zero, List.set_cons_succ]
    refine' wpAnyH_take (i := 4) (oi := { dst := some 7, op := Op.move (Operand.tmp 6), type := 4, pos := "read.go:83", after := #[{ on := 3, ground := Ground.data }, { on := 1, ground := Ground.chain }], guard := none }) (v := _) rfl (by kernel_rfl) (by kernel_rfl) (by kernel_rfl) (fun _ _ _ h => h) (Or.inl ⟨by rfl, ?hyN_4⟩) (by assumption) ?reN_4
    case hyN_4 => (intro W hSw; (try dsimp only at hSw); go_simp; try with_reducible rfl)
    try simp only [Act.put, List.setIfInBounds_toArray, List.set_cons_zero, List.set_cons_succ]
    refine' wpAnyH_take (i := 5) (oi := { dst := some 8, op := Op.move (Operand.tmp 0), type := 56, pos := "read.go:83", after := #[{ on := 4, ground := Ground.guard }], guard := some (4, true) }) (v := _) rfl (by kernel_rfl) (by kernel_rfl) (by kernel_rfl) (fun _ _ _ h => h) (Or.inl ⟨by rfl, ?hyN_5⟩) (by assumption) ?reN_5
    case hyN_5 => (intro W hSw; (try dsimp only at hSw); go_simp; try with_reducible rfl)
    try simp only [Act.put, List.setIfInBounds_toArray, List.set_cons_zero, List.set_cons_succ]
    refine' wpAnyH_take (i := 6) (oi := { dst := some 9, op := Op.nilCheck (Operand.tmp 8), type := 0, pos := "read.go:83", after := #[{ on := 5, ground := Ground.data }, { on := 4, ground := Ground.guard }], guard := some (4, true) }) (v := _) rfl (by kernel_rfl) (by kernel_rfl) (by kernel_rfl) (fun _ _ _ h => h) (Or.inl ⟨by rfl, ?hyN_6⟩) (by assumption) ?reN_6
    case hyN_6 => (intro W hSw; (try dsimp only at hSw); go_simp; try with_reducible rfl)
    try simp only [Act.put, List.setIfInBounds_toArray, List.set_cons_zero, List.set_cons_succ]
    refine' wpAnyH_take (i := 7) (oi := { dst := some 10, op := Op.fieldAddr 60 (Operand.tmp 9) 1, type := 0, pos := "read.go:83", after := #[{ on := 6, ground := Ground.data }, { on := 4, ground := Ground.guard }], guard := some (4, true) }) (v := _) rfl (by kernel_rfl) (by kernel_rfl) (by kernel_rfl) (fun _ _ _ h => h) (Or.inl ⟨by rfl, ?hyN_7⟩) (by assumption) ?reN_7
    case hyN_7 => (intro W hSw; (try dsimp only at hSw); go_simp; try with_reducible rfl)
    try simp only [Act.put, List.setIfInBounds_toArray, List.set_cons_zero, List.set_cons_succ]
    refine' wpAnyH_take (i := 8) (oi := { dst := some 11, op := Op.load 57 (Operand.tmp 10), type := 57, pos := "read.go:83", after := #[{ on := 7, ground := Ground.data }, { on := 4, ground := Ground.guard }], guard := some (4, true) }) (v := _) rfl (by kernel_rfl) (by kernel_rfl) (by kernel_rfl) (fun _ _ _ h => h) (Or.inl ⟨by rfl, ?hyN_8⟩) (by assumption) ?reN_8
    case hyN_8 => (intro W hSw; (try dsimp only at hSw); go_simp; try with_reducible rfl)
    try simp only [Act.put, List.setIfInBounds_toArray, List.set_cons_zero, List.set_cons_succ]
    refine' wpAnyH_take (i := 9) (oi := { dst := some 12, op := Op.move (Operand.tmp 0), type := 56, pos := "read.go:83", after := #[{ on := 4, ground := Ground.guard }], guard := some (4, true) }) (v := _) rfl (by kernel_rfl) (by kernel_rfl) (by kernel_rfl) (fun _ _ _ h => h) (Or.inl ⟨by rfl, ?hyN_9⟩) (by assumption) ?reN_9
    case hyN_9 => (intro W hSw; (try dsimp only at hSw); go_simp; try with_reducible rfl)
    try simp only [Act.put, List.setIfInBounds_toArray, List.set_cons_zero, List.set_cons_succ]
    refine wpAnyH_ready (rs := [10]) (by kernel_rfl) (by simp) ?_
    refine AllReadyH.cons (o := { dst := some 13, op := Op.call { callee := Callee.value (Operand.func 77), args := #[Operand.tmp 12], argTypes := #[56] }, type := 73, pos := "read.go:83", after := #[{ on := 9, ground := Ground.data }, { on := 4, ground := Ground.chain }, { on := 4, ground := Ground.guard }], guard := some (4, true) }) rfl (fun K hK => ?_) AllReadyH.nil
    go_simp
    go_at_call 77
    refine (CN.out x1 BWx1.out).mono ?_
    clear hHeld
    rintro e x2 ⟨v2, rfl, dx2, bx2⟩
    have Xx2 : Hid (Below x1.heap.size x1 x2) := ⟨bx2.os, bx2.tape, bx2.output, bx2.size, bx2.block⟩
    have BWx2 : Hid (Below W.heap.size W x2) := BWx1.out.trans (Xx2.out.mono BWx1.out.size)
    obtain rfl := dx2
    have SSx2 : Hid (∀ Wq : World, Below x2.heap.size x2 Wq → (Below x2.heap.size x2 Wq ∧ Wq.cell? ⟨k, 1, none⟩ = some vw ∧ True)) := fun Wq hW => ⟨hW, (SSx1.out Wq (Xx2.out.trans (hW.mono Xx2.out.size))).2⟩
    refine hK.out _ _ (SSx1.out x2 Xx2.out) (fun _ => ?_)
    refine wpAnyH_more (S' := fun Wq => Below x2.heap.size x2 Wq ∧ Wq.cell? ⟨k, 1, none⟩ = some vw ∧ True) (fun Wq hW => SSx1.out Wq (Xx2.out.trans (hW.1.mono Xx2.out.size))) _ _ _ _ ?_
    have hHeld := SSx2.out x2 (Below.refl _ _)
    clear hK K bx2
    try simp only [Act.put, List.setIfInBounds_toArray, List.set_cons_zero, List.set_cons_succ]
    refine' wpAnyH_take (i := 11) (oi := { dst := some 14, op := Op.field 73 (Operand.tmp 13) 1, type := 9, pos := "read.go:83", after := #[{ on := 10, ground := Ground.data }, { on := 4, ground := Ground.guard }], guard := some (4, true) }) (v := _) rfl (by kernel_rfl) (by kernel_rfl) (by kernel_rfl) (fun _ _ _ h => h) (Or.inl ⟨by rfl, ?hyN_11⟩) (by assumption) ?reN_11
    case hyN_11 => (intro W hSw; (try dsimp only at hSw); go_simp; try with_reducible rfl)
    try simp only [Act.put, List.setIfInBounds_toArray, List.set_cons_zero, List.set_cons_succ]
    refine wpAnyH_ready (rs := [12]) (by kernel_rfl) (by simp) ?_
    refine AllReadyH.cons (o := { dst := some 15, op := Op.call { callee := Callee.value (Operand.func 144), args := #[Operand.tmp 11, Operand.tmp 14], argTypes := #[57, 9] }, type := 4, pos := "read.go:83", after := #[{ on := 8, ground := Ground.data }, { on := 11, ground := Ground.data }, { on := 10, ground := Ground.chain }, { on := 4, ground := Ground.guard }], guard := some (4, true) }) rfl (fun K hK => ?_) AllReadyH.nil
    go_simp
    go_at_call 144
    refine (CC.out x2 BWx2.out).mono ?_
    clear hHeld
    rintro e x3 ⟨v3, rfl, dx3, bx3⟩
    have Xx3 : Hid (Below x2.heap.size x2 x3) := ⟨bx3.os, bx3.tape, bx3.output, bx3.size, bx3.block⟩
    have BWx3 : Hid (Below W.heap.size W x3) := BWx2.out.trans (Xx3.out.mono BWx2.out.size)
    obtain rfl := dx3
    have SSx3 : Hid (∀ Wq : World, Below x3.heap.size x3 Wq → (Below x3.heap.size x3 Wq ∧ Wq.cell? ⟨k, 1, none⟩ = some vw ∧ True)) := fun Wq hW => ⟨hW, (SSx2.out Wq (Xx3.out.trans (hW.mono Xx3.out.size))).2⟩
    refine hK.out _ _ (SSx2.out x3 Xx3.out) (fun _ => ?_)
    refine wpAnyH_more (S' := fun Wq => Below x3.heap.size x3 Wq ∧ Wq.cell? ⟨k, 1, none⟩ = some vw ∧ True) (fun Wq hW => SSx2.out Wq (Xx3.out.trans (hW.1.mono Xx3.out.size))) _ _ _ _ ?_
    have hHeld := SSx3.out x3 (Below.refl _ _)
    clear hK K bx3
    try simp only [Act.put, List.setIfInBounds_toArray, List.set_cons_zero, List.set_cons_succ]
    refine' wpAnyH_take (i := 13) (oi := { dst := some 16, op := Op.unOp UnOp.not 4 (Operand.tmp 15), type := 4, pos := "read.go:83", after := #[{ on := 12, ground := Ground.data }, { on := 4, ground := Ground.guard }], guard := some (4, true) }) (v := _) rfl (by kernel_rfl) (by kernel_rfl) (by kernel_rfl) (fun _ _ _ h => h) (Or.inl ⟨by rfl, ?hyN_13⟩) (by assumption) ?reN_13
    case hyN_13 => (intro W hSw; (try dsimp only at hSw); go_simp; try with_reducible rfl)
    try simp only [Act.put, List.setIfInBounds_toArray, List.set_cons_zero, List.set_cons_succ]
    refine' wpAnyH_take (i := 14) (oi := { dst := some 17, op := Op.pick (Operand.tmp 7) (Operand.tmp 16) (Operand.const (Value.bool false)), type := 4, pos := "read.go:83", after := #[{ on := 4, ground := Ground.data }, { on := 13, ground := Ground.data }], guard := none }) (v := _) rfl (by kernel_rfl) (by kernel_rfl) (by kernel_rfl) (fun _ _ _ h => h) (Or.inl ⟨by rfl, ?hyN_14⟩) (by assumption) ?reN_14
    case hyN_14 => (intro W hSw; (try dsimp only at hSw); go_simp; try with_reducible rfl)
    try simp only [Act.put, List.setIfInBounds_toArray, List.set_cons_zero, List.set_cons_succ]
    refine' wpAnyH_take (i := 15) (oi := { dst := some 2, op := Op.assign (Operand.tmp 17), type := 4, pos := "read.go:83", after := #[{ on := 14, ground := Ground.data }, { on := 12, ground := Ground.chain }, { on := 0, ground := Ground.phase }, { on := 1, ground := Ground.phase }, { on := 2, ground := Ground.phase }, { on := 3, ground := Ground.phase }, { on := 4, ground := Ground.phase }, { on := 5, ground := Ground.phase }, { on := 6, ground := Ground.phase }, { on := 7, ground := Ground.phase }, { on := 8, ground := Ground.phase }, { on := 9, ground := Ground.phase }, { on := 10, ground := Ground.phase }, { on := 11, ground := Ground.phase }, { on := 12, ground := Ground.phase }, { on := 13, ground := Ground.phase }, { on := 14, ground := Ground.phase }], guard := none }) (v := _) rfl (by kernel_rfl) (by kernel_rfl) (by kernel_rfl) (fun _ _ _ h => h) (Or.inl ⟨by rfl, ?hyN_15⟩) (by assumption) ?reN_15
    case hyN_15 => (intro W hSw; (try dsimp only at hSw); go_simp; try with_reducible rfl)
    try simp only [Act.put, List.setIfInBounds_toArray, List.set_cons_zero, List.set_cons_succ]
    refine wpAnyH_done (by kernel_rfl) ?_ _
    refine NoPanic.normal ?_
    go_wp2_with fail
    go_ret
    exact ⟨rfl, BWx3.out⟩
  · have t1 : ((t.k : Int) == 1) = false := by rw [beq_eq_false_iff_ne]; omega
    have e1 : decide (t.k = 1) = false := decide_eq_false hk1
    rw [e1, Bool.false_and]
    clear hk1 e1 CC
    go_enter Tryz.func177, Tryz.ntmps177
    go_upto_region 1 with fail
    refine wp_region_noPanic ?_
    refine wp_region_held_drew (S := (fun Wq => Below W.heap.size W Wq ∧ Wq.cell? ⟨k, 1, none⟩ = some vw ∧ True)) (by kernel_rfl) (SS0.out _ ⟨rfl, rfl, rfl, Nat.le_refl _, fun _ _ => rfl⟩) (fun hHeld => ?_)
    refine' wpAnyH_take (i := 0) (oi := { dst := some 3, op := Op.move (Operand.tmp 0), type := 56, pos := "read.go:83", after := #[], guard := none }) (v := _) rfl (by kernel_rfl) (by kernel_rfl) (by kernel_rfl) (fun _ _ _ h => h) (Or.inl ⟨by rfl, ?hyM_0⟩) (by assumption) ?reM_0
    case hyM_0 => (intro W hSw; (try dsimp only at hSw); go_simp; try with_reducible rfl)
    try simp only [Act.put, List.setIfInBounds_toArray, List.set_cons_zero, List.set_cons_succ]
    refine wpAnyH_ready (rs := [1]) (by kernel_rfl) (by simp) ?_
    refine AllReadyH.cons (o := { dst := some 4, op := Op.call { callee := Callee.value (Operand.func 77), args := #[Operand.tmp 3], argTypes := #[56] }, type := 73, pos := "read.go:83", after := #[{ on := 0, ground := Ground.data }], guard := none }) rfl (fun K hK => ?_) AllReadyH.nil
    go_simp
    go_at_call 77
    refine (CN.out W.drew ⟨rfl, rfl, rfl, Nat.le_refl _, fun _ _ => rfl⟩).mono ?_
    clear hHeld
    rintro e x1 ⟨v1, rfl, dx1, bx1⟩
    have Xx1 : Hid (Below W.heap.size W x1) := ⟨bx1.os, bx1.tape, bx1.output, bx1.size, bx1.block⟩
    have BWx1 : Hid (Below W.heap.size W x1) := Xx1.out
    obtain rfl := dx1
    have SSx1 : Hid (∀ Wq : World, Below x1.heap.size x1 Wq → (Below x1.heap.size x1 Wq ∧ Wq.cell? ⟨k, 1, none⟩ = some vw ∧ True)) := fun Wq hW => ⟨hW, (SS0.out Wq (Xx1.out.trans (hW.mono Xx1.out.size))).2⟩
    refine hK.out _ _ (SS0.out x1 Xx1.out) (fun _ => ?_)
    refine wpAnyH_more (S' := fun Wq => Below x1.heap.size x1 Wq ∧ Wq.cell? ⟨k, 1, none⟩ = some vw ∧ True) (fun Wq hW => SS0.out Wq (Xx1.out.trans (hW.1.mono Xx1.out.size))) _ _ _ _ ?_
    have hHeld := SSx1.out x1 (Below.refl _ _)
    clear hK K bx1
    try simp only [Act.put, List.setIfInBounds_toArray, List.set_cons_zero, List.set_cons_succ]
    refine' wpAnyH_take (i := 2) (oi := { dst := some 5, op := Op.field 73 (Operand.tmp 4) 0, type := 3, pos := "read.go:83", after := #[{ on := 1, ground := Ground.data }], guard := none }) (v := _) rfl (by kernel_rfl) (by kernel_rfl) (by kernel_rfl) (fun _ _ _ h => h) (Or.inl ⟨by rfl, ?hyM_2⟩) (by assumption) ?reM_2
    case hyM_2 => (intro W hSw; (try dsimp only at hSw); go_simp; try with_reducible rfl)
    try simp only [Act.put, List.setIfInBounds_toArray, List.set_cons_zero, List.set_cons_succ]
    refine' wpAnyH_take (i := 3) (oi := { dst := some 6, op := Op.binOp BinOp.eql 3 (Operand.tmp 5) (Operand.const (Value.int IntKind.i64 1)) 3, type := 4, pos := "read.go:83", after := #[{ on := 2, ground := Ground.data }], guard := none }) (v := _) rfl (by kernel_rfl) (by kernel_rfl) (by kernel_rfl) (fun _ _ _ h => h) (Or.inl ⟨by rfl, ?hyM_3⟩) (by assumption) ?reM_3
    case hyM_3 => (intro W hSw; (try dsimp only at hSw); go_simp; try with_reducible rfl)
    try simp only [Act.put, List.setIfInBounds_toArray, List.set_cons_zero, List.set_cons_succ]
    refine' wpAnyH_take (i := 4) (oi := { dst := some 7, op := Op.move (Operand.tmp 6), type := 4, pos := "read.go:83", after := #[{ on := 3, ground := Ground.data }, { on := 1, ground := Ground.chain }], guard := none }) (v := _) rfl (by kernel_rfl) (by kernel_rfl) (by kernel_rfl) (fun _ _ _ h => h) (Or.inl ⟨by rfl, ?hyM_4⟩) (by assumption) ?reM_4
    case hyM_4 => (intro W hSw; (try dsimp only at hSw); go_simp; try with_reducible rfl)
    try simp only [Act.put, List.setIfInBounds_toArray, List.set_cons_zero, List.set_cons_succ]
    refine wpAnyH_take (i := 5) (oi := { dst := some 8, op := Op.move (Operand.tmp 0), type := 56, pos := "read.go:83", after := #[{ on := 4, ground := Ground.guard }], guard := some (4, true) }) (v := undef) rfl (by kernel_rfl) (by kernel_rfl) (by kernel_rfl) (fun _ _ _ h => h) (Or.inr ⟨by rfl, rfl⟩) (by assumption) ?_
    try simp only [Act.put, List.setIfInBounds_toArray, List.set_cons_zero, List.set_cons_succ]
    refine wpAnyH_take (i := 6) (oi := { dst := some 9, op := Op.nilCheck (Operand.tmp 8), type := 0, pos := "read.go:83", after := #[{ on := 5, ground := Ground.data }, { on := 4, ground := Ground.guard }], guard := some (4, true) }) (v := undef) rfl (by kernel_rfl) (by kernel_rfl) (by kernel_rfl) (fun _ _ _ h => h) (Or.inr ⟨by rfl, rfl⟩) (by assumption) ?_
    try simp only [Act.put, List.setIfInBounds_toArray, List.set_cons_zero, List.set_cons_succ]
    refine wpAnyH_take (i := 7) (oi := { dst := some 10, op := Op.fieldAddr 60 (Operand.tmp 9) 1, type := 0, pos := "read.go:83", after := #[{ on := 6, ground := Ground.data }, { on := 4, ground := Ground.guard }], guard := some (4, true) }) (v := undef) rfl (by kernel_rfl) (by kernel_rfl) (by kernel_rfl) (fun _ _ _ h => h) (Or.inr ⟨by rfl, rfl⟩) (by assumption) ?_
    try simp only [Act.put, List.setIfInBounds_toArray, List.set_cons_zero, List.set_cons_succ]
    refine wpAnyH_take (i := 8) (oi := { dst := some 11, op := Op.load 57 (Operand.tmp 10), type := 57, pos := "read.go:83", after := #[{ on := 7, ground := Ground.data }, { on := 4, ground := Ground.guard }], guard := some (4, true) }) (v := undef) rfl (by kernel_rfl) (by kernel_rfl) (by kernel_rfl) (fun _ _ _ h => h) (Or.inr ⟨by rfl, rfl⟩) (by assumption) ?_
    try simp only [Act.put, List.setIfInBounds_toArray, List.set_cons_zero, List.set_cons_succ]
    refine wpAnyH_take (i := 9) (oi := { dst := some 12, op := Op.move (Operand.tmp 0), type := 56, pos := "read.go:83", after := #[{ on := 4, ground := Ground.guard }], guard := some (4, true) }) (v := undef) rfl (by kernel_rfl) (by kernel_rfl) (by kernel_rfl) (fun _ _ _ h => h) (Or.inr ⟨by rfl, rfl⟩) (by assumption) ?_
    try simp only [Act.put, List.setIfInBounds_toArray, List.set_cons_zero, List.set_cons_succ]
    refine wpAnyH_take (i := 10) (oi := { dst := some 13, op := Op.call { callee := Callee.value (Operand.func 77), args := #[Operand.tmp 12], argTypes := #[56] }, type := 73, pos := "read.go:83", after := #[{ on := 9, ground := Ground.data }, { on := 4, ground := Ground.chain }, { on := 4, ground := Ground.guard }], guard := some (4, true) }) (v := undef) rfl (by kernel_rfl) (by kernel_rfl) (by kernel_rfl) (fun _ _ _ h => h) (Or.inr ⟨by rfl, rfl⟩) (by assumption) ?_
    try simp only [Act.put, List.setIfInBounds_toArray, List.set_cons_zero, List.set_cons_succ]
    refine wpAnyH_take (i := 11) (oi := { dst := some 14, op := Op.field 73 (Operand.tmp 13) 1, type := 9, pos := "read.go:83", after := #[{ on := 10, ground := Ground.data }, { on := 4, ground := Ground.guard }], guard := some (4, true) }) (v := undef) rfl (by kernel_rfl) (by kernel_rfl) (by kernel_rfl) (fun _ _ _ h => h) (Or.inr ⟨by rfl, rfl⟩) (by assumption) ?_
    try simp only [Act.put, List.setIfInBounds_toArray, List.set_cons_zero, List.set_cons_succ]
    refine wpAnyH_take (i := 12) (oi := { dst := some 15, op := Op.call { callee := Callee.value (Operand.func 144), args := #[Operand.tmp 11, Operand.tmp 14], argTypes := #[57, 9] }, type := 4, pos := "read.go:83", after := #[{ on := 8, ground := Ground.data }, { on := 11, ground := Ground.data }, { on := 10, ground := Ground.chain }, { on := 4, ground := Ground.guard }], guard := some (4, true) }) (v := undef) rfl (by kernel_rfl) (by kernel_rfl) (by kernel_rfl) (fun _ _ _ h => h) (Or.inr ⟨by rfl, rfl⟩) (by assumption) ?_
    try simp only [Act.put, List.setIfInBounds_toArray, List.set_cons_zero, List.set_cons_succ]
    refine wpAnyH_take (i := 13) (oi := { dst := some 16, op := Op.unOp UnOp.not 4 (Operand.tmp 15), type := 4, pos := "read.go:83", after := #[{ on := 12, ground := Ground.data }, { on := 4, ground := Ground.guard }], guard := some (4, true) }) (v := undef) rfl (by kernel_rfl) (by kernel_rfl) (by kernel_rfl) (fun _ _ _ h => h) (Or.inr ⟨by rfl, rfl⟩) (by assumption) ?_
    try simp only [Act.put, List.setIfInBounds_toArray, List.set_cons_zero, List.set_cons_succ]
    refine' wpAnyH_take (i := 14) (oi := { dst := some 17, op := Op.pick (Operand.tmp 7) (Operand.tmp 16) (Operand.const (Value.bool false)), type := 4, pos := "read.go:83", after := #[{ on := 4, ground := Ground.data }, { on := 13, ground := Ground.data }], guard := none }) (v := _) rfl (by kernel_rfl) (by kernel_rfl) (by kernel_rfl) (fun _ _ _ h => h) (Or.inl ⟨by rfl, ?hyM_14⟩) (by assumption) ?reM_14
    case hyM_14 => (intro W hSw; (try dsimp only at hSw); go_simp; try with_reducible rfl)
    try simp only [Act.put, List.setIfInBounds_toArray, List.set_cons_zero, List.set_cons_succ]
    refine' wpAnyH_take (i := 15) (oi := { dst := some 2, op := Op.assign (Operand.tmp 17), type := 4, pos := "read.go:83", after := #[{ on := 14, ground := Ground.data }, { on := 12, ground := Ground.chain }, { on := 0, ground := Ground.phase }, { on := 1, ground := Ground.phase }, { on := 2, ground := Ground.phase }, { on := 3, ground := Ground.phase }, { on := 4, ground := Ground.phase }, { on := 5, ground := Ground.phase }, { on := 6, ground := Ground.phase }, { on := 7, ground := Ground.phase }, { on := 8, ground := Ground.phase }, { on := 9, ground := Ground.phase }, { on := 10, ground := Ground.phase }, { on := 11, ground := Ground.phase }, { on := 12, ground := Ground.phase }, { on := 13, ground := Ground.phase }, { on := 14, ground := Ground.phase }], guard := none }) (v := _) rfl (by kernel_rfl) (by kernel_rfl) (by kernel_rfl) (fun _ _ _ h => h) (Or.inl ⟨by rfl, ?hyM_15⟩) (by assumption) ?reM_15
    case hyM_15 => (intro W hSw; (try dsimp only at hSw); go_simp; try with_reducible rfl)
    try simp only [Act.put, List.setIfInBounds_toArray, List.set_cons_zero, List.set_cons_succ]
    refine wpAnyH_done (by kernel_rfl) ?_ _
    refine NoPanic.normal ?_
    go_wp2_with fail
    go_ret
    exact ⟨rfl, BWx1.out⟩
end
end Go.Proofs.YtmfoehaeejhlpaaGreatDoor

/-
  Trees in memory.
-/
namespace Go.Proofs.YtmfoehaeejhlpaaGreatDoor
open Go.RowKit Yn
set_option maxRecDepth 100000
mutual
/-- A tree in blocks of X. -/
def Nd (X : Nat → Prop) (W : World) : Tree → Value → Prop
  | .mk op t n l a, v => ∃ g vl ps, v = .pointer (some ⟨g, 0, none⟩) ∧ X g ∧ W.heap[g]? = some (.cells #[.int .i64 (op : Int), .string t, .int .i64 n, vl, .int .i64 (a : Int)] 51 (0, 0)) ∧ W.ownsRow 0 23 1 vl l.length ps ∧ (∀ q, vl.ownBlock = some q → X q) ∧ Nds X W l ps
def Nds (X : Nat → Prop) (W : World) : List Tree → List Value → Prop
  | [], ps => ps = []
  | t :: ts, ps => ∃ p ps', ps = p :: ps' ∧ Nd X W t p ∧ Nds X W ts ps'
end
section
variable {W W' : World} {X Y Z : Nat → Prop}
mutual
theorem Nd.mono (hX : ∀ q, X q → Y q) : ∀ (t : Tree) (v : Value), Nd X W t v → Nd Y W t v
  | .mk op t n l a, v, h => by
    rw [Nd] at h ⊢
    obtain ⟨g, vl, ps, h1, h2, h3, h4, h5, h6⟩ := h
    exact ⟨g, vl, ps, h1, hX g h2, h3, h4, fun q e => hX q (h5 q e), Nds.mono hX l ps h6⟩
theorem Nds.mono (hX : ∀ q, X q → Y q) : ∀ (l : List Tree) (ps : List Value), Nds X W l ps → Nds Y W l ps
  | [], ps, h => by
    rw [Nds] at h ⊢
    exact h
  | t :: ts, ps, h => by
    rw [Nds] at h ⊢
    obtain ⟨p, ps', h1, h2, h3⟩ := h
    exact ⟨p, ps', h1, Nd.mono hX t p h2, Nds.mono hX ts ps' h3⟩
end
mutual
theorem Nd.mv (hm : Mv W W' Z) (hX : ∀ q, X q → ¬ Z q) : ∀ (t : Tree) (v : Value), Nd X W t v → Nd X W' t v
  | .mk op t n l a, v, h => by
    rw [Nd] at h ⊢
    obtain ⟨g, vl, ps, h1, h2, h3, h4, h5, h6⟩ := h
    exact ⟨g, vl, ps, h1, h2, hm.at h3 (hX g h2), hm.own h4 (fun q e => hX q (h5 q e)), h5, Nds.mv hm hX l ps h6⟩
theorem Nds.mv (hm : Mv W W' Z) (hX : ∀ q, X q → ¬ Z q) : ∀ (l : List Tree) (ps : List Value), Nds X W l ps → Nds X W' l ps
  | [], ps, h => by
    rw [Nds] at h ⊢
    exact h
  | t :: ts, ps, h => by
    rw [Nds] at h ⊢
    obtain ⟨p, ps', h1, h2, h3⟩ := h
    exact ⟨p, ps', h1, Nd.mv hm hX t p h2, Nds.mv hm hX ts ps' h3⟩
end
theorem Nds.len : ∀ {l : List Tree} {ps : List Value}, Nds X W l ps → ps.length = l.length
  | [], ps, h => by
    rw [Nds] at h
    rw [h]
    rfl
  | t :: ts, ps, h => by
    rw [Nds] at h
    obtain ⟨p, ps', rfl, -, h3⟩ := h
    simp [Nds.len h3]
theorem Nds.snoc : ∀ {l : List Tree} {ps : List Value}, Nds X W l ps → ∀ {t : Tree} {p : Value}, Nd X W t p → Nds X W (l ++ [t]) (ps ++ [p])
  | [], ps, h, t, p, hp => by
    rw [Nds] at h
    subst h
    rw [List.nil_append, Nds]
    exact ⟨p, [], rfl, hp, by rw [Nds]⟩
  | u :: ts, ps, h, t, p, hp => by
    rw [Nds] at h
    obtain ⟨q, ps', rfl, h2, h3⟩ := h
    rw [List.cons_append, Nds]
    exact ⟨q, ps' ++ [p], rfl, h2, Nds.snoc h3 hp⟩
theorem Nds.none : Nds X W [] [] := by rw [Nds]
theorem Nd.ptr {t : Tree} {v : Value} (h : Nd X W t v) : ∃ g, v = .pointer (some ⟨g, 0, none⟩) := by
  cases t
  rw [Nd] at h
  obtain ⟨g, vl, ps, h1, -⟩ := h
  exact ⟨g, h1⟩
/-- A node that is being made: its children lie in X, it and its list do not. -/
def Nc (X : Nat → Prop) (W : World) (g op : Nat) (t : ByteArray) (n : Int) (l : List Tree) (a : Nat) : Prop :=
  ∃ vl ps, W.heap[g]? = some (.cells #[.int .i64 (op : Int), .string t, .int .i64 n, vl, .int .i64 (a : Int)] 51 (0, 0)) ∧ W.ownsRow 0 23 1 vl l.length ps ∧ (∀ q, vl.ownBlock = some q → ¬ X q ∧ q ≠ g) ∧ ¬ X g ∧ Nds X W l ps
variable {g op a : Nat} {t : ByteArray} {n : Int} {l : List Tree}
theorem Nc.done (h : Nc X W g op t n l a) (hX : ∀ q, X q → Y q) (hg : Y g) (hl : ∀ vl, W.heap[g]? = some (.cells #[.int .i64 (op : Int), .string t, .int .i64 n, vl, .int .i64 (a : Int)] 51 (0, 0)) → ∀ q, vl.ownBlock = some q → Y q) : Nd Y W (.mk op t n l a) (.pointer (some ⟨g, 0, none⟩)) := by
  obtain ⟨vl, ps, h1, h2, h3, h4, h5⟩ := h
  rw [Nd]
  exact ⟨g, vl, ps, rfl, hg, h1, h2, hl vl h1, h5.mono hX⟩
theorem Nc.mv (h : Nc X W g op t n l a) (hm : Mv W W' Z) (hZ : ∀ q, X q → ¬ Z q) (hg : ¬ Z g) (hl : ∀ vl, W.heap[g]? = some (.cells #[.int .i64 (op : Int), .string t, .int .i64 n, vl, .int .i64 (a : Int)] 51 (0, 0)) → ∀ q, vl.ownBlock = some q → ¬ Z q) : Nc X W' g op t n l a := by
  obtain ⟨vl, ps, h1, h2, h3, h4, h5⟩ := h
  exact ⟨vl, ps, hm.at h1 hg, hm.own h2 (hl vl h1), h3, h4, h5.mv hm hZ⟩
end
end Go.Proofs.YtmfoehaeejhlpaaGreatDoor
