/-
  readHead.
-/
import Derived.Test.YtpolajoephjdhaaGreatDoorCoO
namespace Go.Proofs.YtpolajoephjdhaaGreatDoor
open Go.RowKit
set_option maxRecDepth 100000
def headOf (l : List UInt8) : Rt := ⟨bs (bef 32 l), rdN (bef 32 (aft 32 l)), rdN (aft 32 (aft 32 l)), []⟩
def headRd (l : List UInt8) : Bool := lstOk (headOf l) && decide (headB (headOf l).name (headOf l).pa (headOf l).lo = bs l)
theorem undRt : (Tryz.prog.underlying 45).map (fun d => match d with | .struct _ | .array _ _ => true | _ => false) = some true := by kernel_rfl
theorem res_rt {fn : Func} {p u : Tmp} (hr : fn.results = #[.cell p 45, .tmp u]) {tmps : Array Value} {W : World} {g : Nat} {x y z t v : Value} (hp : tmps.getD p undef = .pointer (some ⟨g, 0, none⟩)) (hv : tmps.getD u undef = v) (hg : W.heap[g]? = some (.cells #[x, y, z, t] 45 (0, 0))) : (results fn tmps).run Tryz.prog W = .ok (.tuple #[.agg #[x, y, z, t], v]) W := by
  obtain ⟨d, hu, hd⟩ := Option.map_eq_some_iff.1 undRt
  rw [← hv]
  exact res_ct hr tmps W g 45 _ (0, 0) d hp hg hu (by cases d <;> first | rfl | cases hd) (by kernel_rfl)
theorem Il.nil (Q : Nat → Prop) (W : World) : Il Q W (.slice none 0 0) [] := ⟨none, 0, rfl, Nat.le_refl _, by unfold maxLen; omega, fun h => absurd h (by simp)⟩
/-- The four cells of a routine, written over. -/
def w4s (w : World) (B : Nat) (x y z t : Value) : World := (((w.setCell ⟨B, 0, none⟩ x).setCell ⟨B, 1, none⟩ y).setCell ⟨B, 2, none⟩ z).setCell ⟨B, 3, none⟩ t
theorem w4s_row {w : World} {B : Nat} {a b c d : Value} (x y z t : Value) (h : w.heap[B]? = some (.cells #[a, b, c, d] 45 (0, 0))) : (w4s w B x y z t).heap[B]? = some (.cells #[x, y, z, t] 45 (0, 0)) :=
  heap_setCell_same _ B 3 _ 45 _ (heap_setCell_same _ B 2 _ 45 _ (heap_setCell_same _ B 1 _ 45 _ (heap_setCell_same w B 0 _ 45 _ h)))
theorem w4s_below {W w : World} {B n : Nat} (x y z t : Value) (h : Below n W w) (hB : n ≤ B) : Below n W (w4s w B x y z t) :=
  (((h.setCell (p := ⟨B, 0, none⟩) hB _).setCell (p := ⟨B, 1, none⟩) hB _).setCell (p := ⟨B, 2, none⟩) hB _).setCell (p := ⟨B, 3, none⟩) hB _
theorem row4 {w : World} {B : Nat} {x y z t : Value} (h : w.heap[B]? = some (.cells #[x, y, z, t] 45 (0, 0))) : w.cell? ⟨B, 0, none⟩ = some x ∧ w.cell? ⟨B, 1, none⟩ = some y ∧ w.cell? ⟨B, 2, none⟩ = some z ∧ w.cell? ⟨B, 3, none⟩ = some t := by
  refine ⟨?_, ?_, ?_, ?_⟩ <;> rw [cell_of_row w _ _ _ 45 (0, 0) h] <;> rfl
set_option maxHeartbeats 4000000 in
theorem readhead_any (s : ByteArray) (hs : s.size ≤ 281474976710656) (W : World) (hk : Kd W) : Calls Tryz.prog 51 #[.string s] W fun e w' => e = .returned (.tuple #[rtV (headOf s.data.toList) (.slice none 0 0), .bool (headRd s.data.toList)]) ∧ Below W.heap.size W w' := by
  obtain ⟨w0, hw0⟩ : ∃ X, X = W.alloc (.cells #[.string ⟨#[]⟩, .int .i64 0, .int .i64 0, .slice none 0 0] 45) := ⟨_, rfl⟩
  have B0 : Below W.heap.size W w0 := hw0 ▸ below_alloc W _
  have n1 : w0.heap[W.heap.size]? = some (.cells #[.string ⟨#[]⟩, .int .i64 0, .int .i64 0, .slice none 0 0] 45 (0, 0)) := by rw [hw0]; exact heap_alloc_new W _
  obtain ⟨B, hB⟩ : ∃ B, B = W.heap.size := ⟨_, rfl⟩
  rw [← hB] at n1
  have EB := hide hB
  have hl : s.data.toList.length ≤ 281474976710656 := by rw [Array.length_toList]; exact hs
  have l1 := aft_len 32 s.data.toList
  have l2 := bef_len 32 (aft 32 s.data.toList)
  have l3 := aft_len 32 (aft 32 s.data.toList)
  have l4 := bef_len 32 s.data.toList
  have J1 : Hid (∀ w, Calls Tryz.prog 50 #[.string s, .string ⟨#[32]⟩] w fun e w' => e = .returned (.tuple #[.string (bs (bef 32 s.data.toList)), .string (bs (aft 32 s.data.toList)), .bool (hasC 32 s.data.toList)]) ∧ Below w.heap.size w w') := fun w => cut_any s 32 (by omega) w
  have J2 : Hid (∀ w, Calls Tryz.prog 50 #[.string (bs (aft 32 s.data.toList)), .string ⟨#[32]⟩] w fun e w' => e = .returned (.tuple #[.string (bs (bef 32 (aft 32 s.data.toList))), .string (bs (aft 32 (aft 32 s.data.toList))), .bool (hasC 32 (aft 32 s.data.toList))]) ∧ Below w.heap.size w w') := fun w => cut_any (bs (aft 32 s.data.toList)) 32 (by rw [bs_size]; omega) w
  have HK := hide hk
  have HB := hide B0
  have N1 := hide n1
  have J3 : Hid (∀ w, Below W.heap.size W w → Calls Tryz.prog 82 #[.string (bs (bef 32 (aft 32 s.data.toList)))] w fun e w' => e = .returned (.int .i64 (rdN (bef 32 (aft 32 s.data.toList)))) ∧ Below w.heap.size w w') := fun w h => readnum_any _ (by rw [bs_size]; omega) w (HK.out.later h).2.2
  have J4 : Hid (∀ w, Below W.heap.size W w → Calls Tryz.prog 82 #[.string (bs (aft 32 (aft 32 s.data.toList)))] w fun e w' => e = .returned (.int .i64 (rdN (aft 32 (aft 32 s.data.toList)))) ∧ Below w.heap.size w w') := fun w h => readnum_any _ (by rw [bs_size]; omega) w (HK.out.later h).2.2
  have i1 := rdN_i6 (bef 32 (aft 32 s.data.toList))
  have i2 := rdN_i6 (aft 32 (aft 32 s.data.toList))
  have zn : (bs (bef 32 s.data.toList)).size ≤ 281474976710656 := by rw [bs_size]; omega
  obtain ⟨te, hte⟩ : ∃ t, t = headRd s.data.toList := ⟨_, rfl⟩
  rw [← hte]
  have TE := hide hte
  unfold headRd at TE
  rw [bs_toList] at TE
  have I : Hid (headOf s.data.toList = ⟨bs (bef 32 s.data.toList), rdN (bef 32 (aft 32 s.data.toList)), rdN (aft 32 (aft 32 s.data.toList)), []⟩) := rfl
  rw [I.out] at TE ⊢
  unfold rtV
  dsimp only at TE ⊢
  generalize bs (bef 32 s.data.toList) = nm at *
  generalize bs (aft 32 s.data.toList) = x2 at *
  generalize hasC 32 s.data.toList = x3 at *
  generalize bs (bef 32 (aft 32 s.data.toList)) = y1 at *
  generalize bs (aft 32 (aft 32 s.data.toList)) = y2 at *
  generalize hasC 32 (aft 32 s.data.toList) = y3 at *
  generalize rdN (bef 32 (aft 32 s.data.toList)) = pa at *
  generalize rdN (aft 32 (aft 32 s.data.toList)) = lo at *
  have J5 : Hid (∀ w, Below W.heap.size W w → Calls Tryz.prog 41 #[.agg #[.string nm, .int .i64 pa, .int .i64 lo, .slice none 0 0]] w fun e w' => e = .returned (.bool (lstOk ⟨nm, pa, lo, []⟩)) ∧ Below w.heap.size w w') := fun w h => maylist_at nm pa lo [] rfl (Nat.le_refl _) (by omega) (Il.nil (fun _ => True) w) (HK.out.later h).1
  have J6 : Hid (∀ w, Below W.heap.size W w → Calls Tryz.prog 43 #[.agg #[.string nm, .int .i64 pa, .int .i64 lo, .slice none 0 0]] w fun e w' => e = .returned (.string (headB nm pa lo)) ∧ Below w.heap.size w w') := fun w h => headline_any nm pa lo _ (by omega) i1 i2 w (HK.out.later h)
  clear hte I hk B0 n1 hl i1 i2 zn l1 l2 l3 l4
  go_enter Tryz.func51, Tryz.ntmps51
  go_upto_region 1 with fail
  rw [← hw0, ← hB]
  clear hw0 hB
  go_wp2_with fail
  refine (J1.out _).mono ?_
  rintro e w1 ⟨rfl, hb1⟩
  have H1 := hide (below_on HB.out hb1)
  have N2 := hide ((hb1.block B (lt_of_block N1.out)).trans N1.out)
  clear hb1 J1
  go_wp2_with fail
  refine (J2.out _).mono ?_
  rintro e w2 ⟨rfl, hb2⟩
  have H2 := hide (below_on H1.out hb2)
  have N3 := hide ((hb2.block B (lt_of_block N2.out)).trans N2.out)
  clear hb2 J2
  go_wp2_with fail
  refine (J3.out _ H2.out).mono ?_
  rintro e w3 ⟨rfl, hb3⟩
  have H3 := hide (below_on H2.out hb3)
  have N4 := hide ((hb3.block B (lt_of_block N3.out)).trans N3.out)
  clear hb3 J3
  go_wp2_with fail
  refine (J4.out _ H3.out).mono ?_
  rintro e w4 ⟨rfl, hb4⟩
  have H4 := hide (below_on H3.out hb4)
  have n5 := (hb4.block B (lt_of_block N4.out)).trans N4.out
  have z : ∀ q, w4.frozen? ⟨B, q, none⟩ = false := fun q => frozen_of_row w4 B q _ 45 n5
  obtain ⟨y0, yy1, yy2, yy3⟩ := row4 n5
  have N5 := hide n5
  clear hb4 n5 J4
  go_upto_region 4 with fail
  obtain ⟨w5, hw5⟩ : ∃ X, X = w4s w4 B (.string nm) (.int .i64 pa) (.int .i64 lo) (.slice none 0 0) := ⟨_, rfl⟩
  have hle : W.heap.size ≤ B := by have := EB.out; omega
  have H5 : Hid (Below W.heap.size W w5) := by rw [hw5]; exact w4s_below _ _ _ _ H4.out hle
  have n6 : w5.heap[B]? = some (.cells #[.string nm, .int .i64 pa, .int .i64 lo, .slice none 0 0] 45 (0, 0)) := by rw [hw5]; exact w4s_row _ _ _ _ N5.out
  unfold w4s at hw5
  rw [← hw5]
  clear hw5 y0 yy1 yy2 yy3 z
  have N6 := hide n6
  have yy := row4 n6
  clear n6
  have KL : Hid (∀ w, Below w5.heap.size w5 w → w.cell? ⟨B, 0, none⟩ = some (.string nm) ∧ w.cell? ⟨B, 1, none⟩ = some (.int .i64 pa) ∧ w.cell? ⟨B, 2, none⟩ = some (.int .i64 lo) ∧ w.cell? ⟨B, 3, none⟩ = some (.slice none 0 0)) := fun w h => row4 ((h.block B (lt_of_block N6.out)).trans N6.out)
  have SV : Hid (∀ w : World, w.heap[B]? = some (.cells #[.string nm, .int .i64 pa, .int .i64 lo, .slice none 0 0] 45 (0, 0)) → let w' := (((w.setCell ⟨B, 0, none⟩ (.string nm)).setCell ⟨B, 1, none⟩ (.int .i64 pa)).setCell ⟨B, 2, none⟩ (.int .i64 lo)).setCell ⟨B, 3, none⟩ (.slice none 0 0); w'.cell? ⟨B, 0, none⟩ = some (.string nm) ∧ w'.cell? ⟨B, 1, none⟩ = some (.int .i64 pa) ∧ w'.cell? ⟨B, 2, none⟩ = some (.int .i64 lo) ∧ w'.cell? ⟨B, 3, none⟩ = some (.slice none 0 0)) := fun w h => row4 (w4s_row _ _ _ _ h)
  cases hq : lstOk ⟨nm, pa, lo, []⟩ with
  | false =>
    rw [hq] at J5 TE
    obtain rfl : te = false := by rw [TE.out]; rfl
    clear hq
    refine wp_region_noPanic ?_
    refine wp_region_held_drew (S := (fun V => V.cell? ⟨B, 0, none⟩ = some (.string nm) ∧ V.cell? ⟨B, 1, none⟩ = some (.int .i64 pa) ∧ V.cell? ⟨B, 2, none⟩ = some (.int .i64 lo) ∧ V.cell? ⟨B, 3, none⟩ = some (.slice none 0 0))) (by kernel_rfl) (yy) (fun hHeld => ?_)
    refine' wpAnyH_take (i := 0) (oi := { dst := some 28, op := Go.Op.load 45 (Go.Operand.tmp 2), type := 45, pos := "lines.go:61", after := #[], guard := none }) (v := _) rfl (by kernel_rfl) (by kernel_rfl) (by kernel_rfl) (fun _ _ _ h => h) (Or.inl ⟨by rfl, ?hyr3_0⟩) (by assumption) ?rer3_0
    case hyr3_0 => (intro W hSw; (try dsimp only at hSw); go_simp; try with_reducible rfl)
    try simp only [Act.put, List.setIfInBounds_toArray, List.set_cons_zero, List.set_cons_succ]
    refine' wpAnyH_take (i := 1) (oi := { dst := some 29, op := Go.Op.load 45 (Go.Operand.tmp 2), type := 45, pos := "lines.go:61", after := #[], guard := none }) (v := _) rfl (by kernel_rfl) (by kernel_rfl) (by kernel_rfl) (fun _ _ _ h => h) (Or.inl ⟨by rfl, ?hyr3_1⟩) (by assumption) ?rer3_1
    case hyr3_1 => (intro W hSw; (try dsimp only at hSw); go_simp; try with_reducible rfl)
    try simp only [Act.put, List.setIfInBounds_toArray, List.set_cons_zero, List.set_cons_succ]
    refine wpAnyH_ready (rs := [2]) (by kernel_rfl) (by simp) ?_
    refine AllReadyH.cons (o := { dst := some 30, op := Go.Op.call { callee := Go.Callee.value (Go.Operand.func 41), args := #[Go.Operand.tmp 29], argTypes := #[45] }, type := 4, pos := "lines.go:61", after := #[{ on := 1, ground := Go.Ground.data }], guard := none }) rfl (fun K hK => ?_) AllReadyH.nil
    clear hHeld
    go_simp
    go_at_call 41
    refine (J5.out _ (below_on H5.out (below_drew w5))).mono ?_
    rintro e w6 ⟨rfl, hb6⟩
    have H6 := hide (below_on (below_drew w5) hb6)
    clear hb6
    refine hK.out _ _ (KL.out _ H6.out) (fun hHeld => ?_)
    clear hK K
    try simp only [Act.put, List.setIfInBounds_toArray, List.set_cons_zero, List.set_cons_succ]
    refine' wpAnyH_take (i := 3) (oi := { dst := some 31, op := Go.Op.move (Go.Operand.tmp 30), type := 4, pos := "lines.go:61", after := #[{ on := 2, ground := Go.Ground.data }, { on := 2, ground := Go.Ground.chain }], guard := none }) (v := _) rfl (by kernel_rfl) (by kernel_rfl) (by kernel_rfl) (fun _ _ _ h => h) (Or.inl ⟨by rfl, ?hyr3_3⟩) (by assumption) ?rer3_3
    case hyr3_3 => (intro W hSw; (try dsimp only at hSw); go_simp; try with_reducible rfl)
    try simp only [Act.put, List.setIfInBounds_toArray, List.set_cons_zero, List.set_cons_succ]
    refine wpAnyH_take (i := 4) (oi := { dst := some 32, op := Go.Op.load 45 (Go.Operand.tmp 2), type := 45, pos := "lines.go:61", after := #[{ on := 3, ground := Go.Ground.guard }], guard := some (3, true) }) (v := undef) rfl (by kernel_rfl) (by kernel_rfl) (by kernel_rfl) (fun _ _ _ h => h) (Or.inr ⟨by rfl, rfl⟩) (by assumption) ?_
    try simp only [Act.put, List.setIfInBounds_toArray, List.set_cons_zero, List.set_cons_succ]
    refine wpAnyH_take (i := 5) (oi := { dst := some 33, op := Go.Op.call { callee := Go.Callee.value (Go.Operand.func 43), args := #[Go.Operand.tmp 32], argTypes := #[45] }, type := 9, pos := "lines.go:61", after := #[{ on := 4, ground := Go.Ground.data }, { on := 3, ground := Go.Ground.chain }, { on := 3, ground := Go.Ground.guard }], guard := some (3, true) }) (v := undef) rfl (by kernel_rfl) (by kernel_rfl) (by kernel_rfl) (fun _ _ _ h => h) (Or.inr ⟨by rfl, rfl⟩) (by assumption) ?_
    try simp only [Act.put, List.setIfInBounds_toArray, List.set_cons_zero, List.set_cons_succ]
    refine wpAnyH_take (i := 6) (oi := { dst := some 34, op := Go.Op.move (Go.Operand.tmp 0), type := 9, pos := "lines.go:61", after := #[{ on := 3, ground := Go.Ground.guard }, { on := 9, ground := Go.Ground.gcOnly Go.Departure.lateStores }], guard := some (3, true) }) (v := undef) rfl (by kernel_rfl) (by kernel_rfl) (by kernel_rfl) (fun _ _ _ h => h) (Or.inr ⟨by rfl, rfl⟩) (by assumption) ?_
    try simp only [Act.put, List.setIfInBounds_toArray, List.set_cons_zero, List.set_cons_succ]
    refine wpAnyH_take (i := 7) (oi := { dst := some 35, op := Go.Op.binOp Go.BinOp.eql 9 (Go.Operand.tmp 33) (Go.Operand.tmp 34) 9, type := 4, pos := "lines.go:61", after := #[{ on := 5, ground := Go.Ground.data }, { on := 6, ground := Go.Ground.data }, { on := 3, ground := Go.Ground.guard }, { on := 9, ground := Go.Ground.gcOnly Go.Departure.lateStores }], guard := some (3, true) }) (v := undef) rfl (by kernel_rfl) (by kernel_rfl) (by kernel_rfl) (fun _ _ _ h => h) (Or.inr ⟨by rfl, rfl⟩) (by assumption) ?_
    try simp only [Act.put, List.setIfInBounds_toArray, List.set_cons_zero, List.set_cons_succ]
    refine' wpAnyH_take (i := 8) (oi := { dst := some 36, op := Go.Op.pick (Go.Operand.tmp 31) (Go.Operand.tmp 35) (Go.Operand.const (Go.Value.bool false)), type := 4, pos := "lines.go:61", after := #[{ on := 3, ground := Go.Ground.data }, { on := 7, ground := Go.Ground.data }, { on := 9, ground := Go.Ground.gcOnly Go.Departure.lateStores }], guard := none }) (v := _) rfl (by kernel_rfl) (by kernel_rfl) (by kernel_rfl) (fun _ _ _ h => h) (Or.inl ⟨by rfl, ?hyr3_8⟩) (by assumption) ?rer3_8
    case hyr3_8 => (intro W hSw; (try dsimp only at hSw); go_simp; try with_reducible rfl)
    try simp only [Act.put, List.setIfInBounds_toArray, List.set_cons_zero, List.set_cons_succ]
    obtain ⟨q0, q1, q2, q3⟩ := KL.out _ H6.out
    have n7 := (H6.out.block B (lt_of_block N6.out)).trans N6.out
    have zf : ∀ q, w6.frozen? ⟨B, q, none⟩ = false := fun q => frozen_of_row w6 B q _ 45 n7
    have N7 := hide n7
    clear n7
    refine wpAnyH_ready (rs := [9]) (by kernel_rfl) (by simp) ?_
    refine AllReadyH.cons (o := { dst := none, op := Go.Op.store 45 (Go.Operand.tmp 2) (Go.Operand.tmp 28), type := 0, pos := "lines.go:61", after := #[{ on := 0, ground := Go.Ground.data }, { on := 5, ground := Go.Ground.chain }, { on := 0, ground := Go.Ground.phase }, { on := 1, ground := Go.Ground.phase }, { on := 2, ground := Go.Ground.textOnly Go.Departure.lateStoresUnsure }, { on := 3, ground := Go.Ground.textOnly Go.Departure.lateStores }, { on := 4, ground := Go.Ground.phase }, { on := 5, ground := Go.Ground.textOnly Go.Departure.lateStoresUnsure }, { on := 6, ground := Go.Ground.textOnly Go.Departure.lateStores }, { on := 7, ground := Go.Ground.textOnly Go.Departure.lateStores }, { on := 8, ground := Go.Ground.textOnly Go.Departure.lateStores }], guard := none }) rfl (fun K hK => ?_) AllReadyH.nil
    clear hHeld
    go_simp
    refine hK.out _ _ (SV.out _ N7.out) (fun hHeld => ?_)
    clear hK K
    try simp only [Act.put, List.setIfInBounds_toArray, List.set_cons_zero, List.set_cons_succ]
    refine' wpAnyH_take (i := 10) (oi := { dst := some 3, op := Go.Op.assign (Go.Operand.tmp 36), type := 4, pos := "lines.go:61", after := #[{ on := 8, ground := Go.Ground.data }, { on := 9, ground := Go.Ground.chain }, { on := 0, ground := Go.Ground.phase }, { on := 1, ground := Go.Ground.phase }, { on := 2, ground := Go.Ground.phase }, { on := 3, ground := Go.Ground.phase }, { on := 4, ground := Go.Ground.phase }, { on := 5, ground := Go.Ground.phase }, { on := 6, ground := Go.Ground.phase }, { on := 7, ground := Go.Ground.phase }, { on := 8, ground := Go.Ground.phase }, { on := 9, ground := Go.Ground.phase }], guard := none }) (v := _) rfl (by kernel_rfl) (by kernel_rfl) (by kernel_rfl) (fun _ _ _ h => h) (Or.inl ⟨by rfl, ?hyr3_10⟩) (by assumption) ?rer3_10
    case hyr3_10 => (intro W hSw; (try dsimp only at hSw); go_simp; try with_reducible rfl)
    try simp only [Act.put, List.setIfInBounds_toArray, List.set_cons_zero, List.set_cons_succ]
    refine wpAnyH_done (by kernel_rfl) ?_ _
    refine NoPanic.normal ?_
    go_wp2_with fail
    exact bodyPost_ret (res_rt rfl rfl rfl (w4s_row _ _ _ _ N7.out)) rfl ⟨rfl, w4s_below _ _ _ _ (below_on H5.out H6.out) hle⟩
  | true =>
    rw [hq] at J5 TE
    rw [Bool.true_and] at TE
    clear hq
    have te2 : ((headB nm pa lo).toList == s.toList) = te := by rw [beq_list, TE.out]
    generalize headB nm pa lo = lb at *
    refine wp_region_noPanic ?_
    refine wp_region_held_drew (S := (fun V => V.cell? ⟨B, 0, none⟩ = some (.string nm) ∧ V.cell? ⟨B, 1, none⟩ = some (.int .i64 pa) ∧ V.cell? ⟨B, 2, none⟩ = some (.int .i64 lo) ∧ V.cell? ⟨B, 3, none⟩ = some (.slice none 0 0))) (by kernel_rfl) (yy) (fun hHeld => ?_)
    refine' wpAnyH_take (i := 0) (oi := { dst := some 28, op := Go.Op.load 45 (Go.Operand.tmp 2), type := 45, pos := "lines.go:61", after := #[], guard := none }) (v := _) rfl (by kernel_rfl) (by kernel_rfl) (by kernel_rfl) (fun _ _ _ h => h) (Or.inl ⟨by rfl, ?hyr4_0⟩) (by assumption) ?rer4_0
    case hyr4_0 => (intro W hSw; (try dsimp only at hSw); go_simp; try with_reducible rfl)
    try simp only [Act.put, List.setIfInBounds_toArray, List.set_cons_zero, List.set_cons_succ]
    refine' wpAnyH_take (i := 1) (oi := { dst := some 29, op := Go.Op.load 45 (Go.Operand.tmp 2), type := 45, pos := "lines.go:61", after := #[], guard := none }) (v := _) rfl (by kernel_rfl) (by kernel_rfl) (by kernel_rfl) (fun _ _ _ h => h) (Or.inl ⟨by rfl, ?hyr4_1⟩) (by assumption) ?rer4_1
    case hyr4_1 => (intro W hSw; (try dsimp only at hSw); go_simp; try with_reducible rfl)
    try simp only [Act.put, List.setIfInBounds_toArray, List.set_cons_zero, List.set_cons_succ]
    refine wpAnyH_ready (rs := [2]) (by kernel_rfl) (by simp) ?_
    refine AllReadyH.cons (o := { dst := some 30, op := Go.Op.call { callee := Go.Callee.value (Go.Operand.func 41), args := #[Go.Operand.tmp 29], argTypes := #[45] }, type := 4, pos := "lines.go:61", after := #[{ on := 1, ground := Go.Ground.data }], guard := none }) rfl (fun K hK => ?_) AllReadyH.nil
    clear hHeld
    go_simp
    go_at_call 41
    refine (J5.out _ (below_on H5.out (below_drew w5))).mono ?_
    rintro e w7 ⟨rfl, hb7⟩
    have H7 := hide (below_on (below_drew w5) hb7)
    clear hb7
    refine hK.out _ _ (KL.out _ H7.out) (fun hHeld => ?_)
    clear hK K
    try simp only [Act.put, List.setIfInBounds_toArray, List.set_cons_zero, List.set_cons_succ]
    refine' wpAnyH_take (i := 3) (oi := { dst := some 31, op := Go.Op.move (Go.Operand.tmp 30), type := 4, pos := "lines.go:61", after := #[{ on := 2, ground := Go.Ground.data }, { on := 2, ground := Go.Ground.chain }], guard := none }) (v := _) rfl (by kernel_rfl) (by kernel_rfl) (by kernel_rfl) (fun _ _ _ h => h) (Or.inl ⟨by rfl, ?hyr4_3⟩) (by assumption) ?rer4_3
    case hyr4_3 => (intro W hSw; (try dsimp only at hSw); go_simp; try with_reducible rfl)
    try simp only [Act.put, List.setIfInBounds_toArray, List.set_cons_zero, List.set_cons_succ]
    refine' wpAnyH_take (i := 4) (oi := { dst := some 32, op := Go.Op.load 45 (Go.Operand.tmp 2), type := 45, pos := "lines.go:61", after := #[{ on := 3, ground := Go.Ground.guard }], guard := some (3, true) }) (v := _) rfl (by kernel_rfl) (by kernel_rfl) (by kernel_rfl) (fun _ _ _ h => h) (Or.inl ⟨by rfl, ?hyr4_4⟩) (by assumption) ?rer4_4
    case hyr4_4 => (intro W hSw; (try dsimp only at hSw); go_simp; try with_reducible rfl)
    try simp only [Act.put, List.setIfInBounds_toArray, List.set_cons_zero, List.set_cons_succ]
    refine' wpAnyH_take (i := 6) (oi := { dst := some 34, op := Go.Op.move (Go.Operand.tmp 0), type := 9, pos := "lines.go:61", after := #[{ on := 3, ground := Go.Ground.guard }, { on := 9, ground := Go.Ground.gcOnly Go.Departure.lateStores }], guard := some (3, true) }) (v := _) rfl (by kernel_rfl) (by kernel_rfl) (by kernel_rfl) (fun _ _ _ h => h) (Or.inl ⟨by rfl, ?hyr4_6⟩) (by assumption) ?rer4_6
    case hyr4_6 => (intro W hSw; (try dsimp only at hSw); go_simp; try with_reducible rfl)
    try simp only [Act.put, List.setIfInBounds_toArray, List.set_cons_zero, List.set_cons_succ]
    refine wpAnyH_ready (rs := [5]) (by kernel_rfl) (by simp) ?_
    refine AllReadyH.cons (o := { dst := some 33, op := Go.Op.call { callee := Go.Callee.value (Go.Operand.func 43), args := #[Go.Operand.tmp 32], argTypes := #[45] }, type := 9, pos := "lines.go:61", after := #[{ on := 4, ground := Go.Ground.data }, { on := 3, ground := Go.Ground.chain }, { on := 3, ground := Go.Ground.guard }], guard := some (3, true) }) rfl (fun K hK => ?_) AllReadyH.nil
    clear hHeld
    go_simp
    go_at_call 43
    refine (J6.out _ (below_on H5.out H7.out)).mono ?_
    rintro e w6 ⟨rfl, hb6⟩
    have H6 := hide (below_on H7.out hb6)
    clear hb6
    refine hK.out _ _ (KL.out _ H6.out) (fun hHeld => ?_)
    clear hK K
    try simp only [Act.put, List.setIfInBounds_toArray, List.set_cons_zero, List.set_cons_succ]
    refine' wpAnyH_take (i := 7) (oi := { dst := some 35, op := Go.Op.binOp Go.BinOp.eql 9 (Go.Operand.tmp 33) (Go.Operand.tmp 34) 9, type := 4, pos := "lines.go:61", after := #[{ on := 5, ground := Go.Ground.data }, { on := 6, ground := Go.Ground.data }, { on := 3, ground := Go.Ground.guard }, { on := 9, ground := Go.Ground.gcOnly Go.Departure.lateStores }], guard := some (3, true) }) (v := _) rfl (by kernel_rfl) (by kernel_rfl) (by kernel_rfl) (fun _ _ _ h => h) (Or.inl ⟨by rfl, ?hyr4_7⟩) (by assumption) ?rer4_7
    case hyr4_7 => (intro W hSw; (try dsimp only at hSw); go_simp; try with_reducible rfl)
    try simp only [Act.put, List.setIfInBounds_toArray, List.set_cons_zero, List.set_cons_succ]
    refine' wpAnyH_take (i := 8) (oi := { dst := some 36, op := Go.Op.pick (Go.Operand.tmp 31) (Go.Operand.tmp 35) (Go.Operand.const (Go.Value.bool false)), type := 4, pos := "lines.go:61", after := #[{ on := 3, ground := Go.Ground.data }, { on := 7, ground := Go.Ground.data }, { on := 9, ground := Go.Ground.gcOnly Go.Departure.lateStores }], guard := none }) (v := _) rfl (by kernel_rfl) (by kernel_rfl) (by kernel_rfl) (fun _ _ _ h => h) (Or.inl ⟨by rfl, ?hyr4_8⟩) (by assumption) ?rer4_8
    case hyr4_8 => (intro W hSw; (try dsimp only at hSw); go_simp; try with_reducible rfl)
    try simp only [Act.put, List.setIfInBounds_toArray, List.set_cons_zero, List.set_cons_succ]
    obtain ⟨q0, q1, q2, q3⟩ := KL.out _ H6.out
    have n7 := (H6.out.block B (lt_of_block N6.out)).trans N6.out
    have zf : ∀ q, w6.frozen? ⟨B, q, none⟩ = false := fun q => frozen_of_row w6 B q _ 45 n7
    have N7 := hide n7
    clear n7
    refine wpAnyH_ready (rs := [9]) (by kernel_rfl) (by simp) ?_
    refine AllReadyH.cons (o := { dst := none, op := Go.Op.store 45 (Go.Operand.tmp 2) (Go.Operand.tmp 28), type := 0, pos := "lines.go:61", after := #[{ on := 0, ground := Go.Ground.data }, { on := 5, ground := Go.Ground.chain }, { on := 0, ground := Go.Ground.phase }, { on := 1, ground := Go.Ground.phase }, { on := 2, ground := Go.Ground.textOnly Go.Departure.lateStoresUnsure }, { on := 3, ground := Go.Ground.textOnly Go.Departure.lateStores }, { on := 4, ground := Go.Ground.phase }, { on := 5, ground := Go.Ground.textOnly Go.Departure.lateStoresUnsure }, { on := 6, ground := Go.Ground.textOnly Go.Departure.lateStores }, { on := 7, ground := Go.Ground.textOnly Go.Departure.lateStores }, { on := 8, ground := Go.Ground.textOnly Go.Departure.lateStores }], guard := none }) rfl (fun K hK => ?_) AllReadyH.nil
    clear hHeld
    go_simp
    refine hK.out _ _ (SV.out _ N7.out) (fun hHeld => ?_)
    clear hK K
    try simp only [Act.put, List.setIfInBounds_toArray, List.set_cons_zero, List.set_cons_succ]
    refine' wpAnyH_take (i := 10) (oi := { dst := some 3, op := Go.Op.assign (Go.Operand.tmp 36), type := 4, pos := "lines.go:61", after := #[{ on := 8, ground := Go.Ground.data }, { on := 9, ground := Go.Ground.chain }, { on := 0, ground := Go.Ground.phase }, { on := 1, ground := Go.Ground.phase }, { on := 2, ground := Go.Ground.phase }, { on := 3, ground := Go.Ground.phase }, { on := 4, ground := Go.Ground.phase }, { on := 5, ground := Go.Ground.phase }, { on := 6, ground := Go.Ground.phase }, { on := 7, ground := Go.Ground.phase }, { on := 8, ground := Go.Ground.phase }, { on := 9, ground := Go.Ground.phase }], guard := none }) (v := _) rfl (by kernel_rfl) (by kernel_rfl) (by kernel_rfl) (fun _ _ _ h => h) (Or.inl ⟨by rfl, ?hyr4_10⟩) (by assumption) ?rer4_10
    case hyr4_10 => (intro W hSw; (try dsimp only at hSw); go_simp; try with_reducible rfl)
    try simp only [Act.put, List.setIfInBounds_toArray, List.set_cons_zero, List.set_cons_succ]
    refine wpAnyH_done (by kernel_rfl) ?_ _
    refine NoPanic.normal ?_
    go_wp2_with fail
    exact bodyPost_ret (res_rt rfl rfl rfl (w4s_row _ _ _ _ N7.out)) rfl ⟨rfl, w4s_below _ _ _ _ (below_on H5.out H6.out) hle⟩
end Go.Proofs.YtpolajoephjdhaaGreatDoor
