/-
  readInstr.
-/
import Derived.Test.YtpolajoephjdhaaGreatDoorCpA
namespace Go.Proofs.YtpolajoephjdhaaGreatDoor
open Go.RowKit
set_option maxRecDepth 100000
def insOf (l : List UInt8) : Ins := ⟨numOf (bs (bef 32 l)), rdN (aft 32 l)⟩
def insRd (l : List UInt8) : Bool := isIns (insOf l) && decide (lineB (insOf l) = bs l)
theorem bef_len (c : UInt8) : ∀ l : List UInt8, (bef c l).length ≤ l.length
  | [] => Nat.le_refl _
  | b :: l => by
    have := bef_len c l
    rw [bef]
    split <;> simp <;> omega
theorem aft_len (c : UInt8) : ∀ l : List UInt8, (aft c l).length ≤ l.length
  | [] => Nat.le_refl _
  | b :: l => by
    have := aft_len c l
    rw [aft]
    split <;> simp <;> omega
theorem undIns : (Tryz.prog.underlying 56).map (fun d => match d with | .struct _ | .array _ _ => true | _ => false) = some true := by kernel_rfl
theorem res_ct {P : Program} {fn : Func} {p u : Tmp} {ty : TypeId} (h : fn.results = #[.cell p ty, .tmp u]) (tmps : Array Value) (w : World) (g : Nat) (t : TypeId) (cs : Array Value) (fr : Nat × Nat) (d : TypeDesc)
    (hp : tmps.getD p undef = .pointer (some ⟨g, 0, none⟩)) (hg : w.heap[g]? = some (.cells cs t fr))
    (hu : P.underlying ty = some d) (hd : (match d with | .struct _ | .array _ _ => true | _ => false) = true) (hi : (P.info? ty).map (·.size) = some cs.size) :
    (results fn tmps).run P w = .ok (.tuple #[.agg cs, tmps.getD u undef]) w := by
  rw [results_cell_tmp h]
  have hp' : tmps[p]?.getD undef = .pointer (some ⟨g, 0, none⟩) := by simpa using hp
  simp [hp', asAddr, run_loadVar_row w g t ty cs fr d hg hu hd hi, Result.andThen]
theorem res_ins {fn : Func} {p u : Tmp} (hr : fn.results = #[.cell p 56, .tmp u]) {tmps : Array Value} {W : World} {g : Nat} {x y v : Value} (hp : tmps.getD p undef = .pointer (some ⟨g, 0, none⟩)) (hv : tmps.getD u undef = v) (hg : W.heap[g]? = some (.cells #[x, y] 56 (0, 0))) : (results fn tmps).run Tryz.prog W = .ok (.tuple #[.agg #[x, y], v]) W := by
  obtain ⟨d, hu, hd⟩ := Option.map_eq_some_iff.1 undIns
  rw [← hv]
  exact res_ct hr tmps W g 56 _ (0, 0) d hp hg hu (by cases d <;> first | rfl | cases hd) (by kernel_rfl)
theorem numOf_i6 (s : ByteArray) : I6 (numOf s : Int) := by have := numOf_lt s; exact ⟨by omega, by omega⟩
set_option maxHeartbeats 2000000 in
theorem readinstr_any (s : ByteArray) (hs : s.size ≤ 281474976710656) (W : World) (hk : Kd W) : Calls Tryz.prog 52 #[.string s] W fun e w' => e = .returned (.tuple #[insV (insOf s.data.toList), .bool (insRd s.data.toList)]) ∧ Below W.heap.size W w' := by
  obtain ⟨w0, hw0⟩ : ∃ X, X = W.alloc (.cells #[.int .i64 0, .int .i64 0] 56) := ⟨_, rfl⟩
  have B0 : Below W.heap.size W w0 := hw0 ▸ below_alloc W _
  have n1 : w0.heap[W.heap.size]? = some (.cells #[.int .i64 0, .int .i64 0] 56 (0, 0)) := by rw [hw0]; exact heap_alloc_new W _
  obtain ⟨B, hB⟩ : ∃ B, B = W.heap.size := ⟨_, rfl⟩
  rw [← hB] at n1
  have EB := hide hB
  have J := hide (cut_any s 32 (by omega) w0)
  have hl : s.data.toList.length ≤ 281474976710656 := by rw [Array.length_toList]; exact hs
  have hbl : (bs (aft 32 s.data.toList)).size ≤ 281474976710656 := by rw [bs_size]; exact Nat.le_trans (aft_len 32 _) hl
  have HK := hide hk
  have HB := hide B0
  have N1 := hide n1
  have I : Hid (insOf s.data.toList = ⟨numOf (bs (bef 32 s.data.toList)), rdN (aft 32 s.data.toList)⟩) := rfl
  obtain ⟨te, hte⟩ : ∃ t, t = insRd s.data.toList := ⟨_, rfl⟩
  rw [← hte]
  have TE := hide hte
  unfold insRd at TE
  rw [bs_toList] at TE
  have ia := rdN_i6 (aft 32 s.data.toList)
  have J2 : Hid (∀ w, Below W.heap.size W w → Calls Tryz.prog 25 #[.string (bs (bef 32 s.data.toList))] w fun e w' => e = .returned (.int .i64 (numOf (bs (bef 32 s.data.toList)) : Int)) ∧ w' = w) := fun w h => number_any _ w (HK.out.later h).1
  have J3 : Hid (∀ w, Below W.heap.size W w → Calls Tryz.prog 82 #[.string (bs (aft 32 s.data.toList))] w fun e w' => e = .returned (.int .i64 (rdN (aft 32 s.data.toList))) ∧ Below w.heap.size w w') := fun w h => readnum_any _ hbl w (HK.out.later h).2.2
  rw [I.out] at TE ⊢
  unfold insV
  dsimp only
  generalize bs (bef 32 s.data.toList) = x1 at *
  generalize bs (aft 32 s.data.toList) = x2 at *
  generalize hasC 32 s.data.toList = x3 at *
  generalize rdN (aft 32 s.data.toList) = a at *
  generalize numOf x1 = op at *
  have J4 : Hid (∀ w, Below W.heap.size W w → Calls Tryz.prog 83 #[.agg #[.int .i64 (op : Int), .int .i64 a]] w fun e w' => e = .returned (.bool (isIns ⟨op, a⟩)) ∧ Below w.heap.size w w') := fun w h => isinstr_any ⟨op, a⟩ w (HK.out.later h).1
  have J5 : Hid (∀ w, Below W.heap.size W w → Calls Tryz.prog 44 #[.agg #[.int .i64 (op : Int), .int .i64 a]] w fun e w' => e = .returned (.string (lineB ⟨op, a⟩)) ∧ Below w.heap.size w w') := fun w h => instrline_any ⟨op, a⟩ ia w (HK.out.later h)
  clear hte I hk B0 n1 hl hbl ia
  go_enter Tryz.func52, Tryz.ntmps52
  go_upto_region 1 with fail
  rw [← hw0, ← hB]
  clear hw0 hB
  go_wp2_with fail
  refine J.out.mono ?_
  rintro e w1 ⟨rfl, hb1⟩
  have H1 := hide (below_on HB.out hb1)
  have N2 := hide ((hb1.block B (lt_of_block N1.out)).trans N1.out)
  clear hb1 J
  go_wp2_with fail
  refine (J2.out _ H1.out).mono ?_
  rintro e w' ⟨rfl, rfl⟩
  go_wp2_with fail
  refine (J3.out _ H1.out).mono ?_
  rintro e w2 ⟨rfl, hb2⟩
  have H2 := hide (below_on H1.out hb2)
  have n3 := (hb2.block B (lt_of_block N2.out)).trans N2.out
  have z : ∀ q, w2.frozen? ⟨B, q, none⟩ = false := fun q => frozen_of_row w2 B q _ 56 n3
  have y0 : w2.cell? ⟨B, 0, none⟩ = some (.int .i64 0) := by rw [cell_of_row w2 _ _ _ 56 (0, 0) n3]; rfl
  have y1 : w2.cell? ⟨B, 1, none⟩ = some (.int .i64 0) := by rw [cell_of_row w2 _ _ _ 56 (0, 0) n3]; rfl
  have N3 := hide n3
  clear hb2 n3
  go_upto_region 3 with fail
  obtain ⟨w3, hw3⟩ : ∃ X, X = (w2.setCell ⟨B, 0, none⟩ (.int .i64 (op : Int))).setCell ⟨B, 1, none⟩ (.int .i64 a) := ⟨_, rfl⟩
  rw [← hw3]
  have hle : W.heap.size ≤ B := by have := EB.out; omega
  have H3 : Hid (Below W.heap.size W w3) := by rw [hw3]; exact (H2.out.setCell (p := ⟨B, 0, none⟩) hle _).setCell (p := ⟨B, 1, none⟩) hle _
  have n4 : w3.heap[B]? = some (.cells #[.int .i64 (op : Int), .int .i64 a] 56 (0, 0)) := by rw [hw3]; exact heap_setCell_same _ B 1 _ 56 _ (heap_setCell_same w2 B 0 _ 56 _ N3.out)
  clear hw3 y0 y1 z
  have y0 : w3.cell? ⟨B, 0, none⟩ = some (.int .i64 (op : Int)) := by rw [cell_of_row w3 _ _ _ 56 (0, 0) n4]; rfl
  have y1 : w3.cell? ⟨B, 1, none⟩ = some (.int .i64 a) := by rw [cell_of_row w3 _ _ _ 56 (0, 0) n4]; rfl
  have N4 := hide n4
  clear n4
  have KL : Hid (∀ w, Below w3.heap.size w3 w → w.cell? ⟨B, 0, none⟩ = some (.int .i64 (op : Int)) ∧ w.cell? ⟨B, 1, none⟩ = some (.int .i64 a)) := fun w h => by
    have m := Mv.of_below h (fun _ => False)
    exact ⟨m.cell y0 (fun e => e), m.cell y1 (fun e => e)⟩
  have D3 := hide (below_drawn w3 1)
  have SV : Hid (∀ w : World, w.heap[B]? = some (.cells #[.int .i64 (op : Int), .int .i64 a] 56 (0, 0)) → ((w.setCell ⟨B, 0, none⟩ (.int .i64 (op : Int))).setCell ⟨B, 1, none⟩ (.int .i64 a)).cell? ⟨B, 0, none⟩ = some (.int .i64 (op : Int)) ∧ ((w.setCell ⟨B, 0, none⟩ (.int .i64 (op : Int))).setCell ⟨B, 1, none⟩ (.int .i64 a)).cell? ⟨B, 1, none⟩ = some (.int .i64 a)) := fun w h => by
    have n : ((w.setCell ⟨B, 0, none⟩ (.int .i64 (op : Int))).setCell ⟨B, 1, none⟩ (.int .i64 a)).heap[B]? = some (.cells #[.int .i64 (op : Int), .int .i64 a] 56 (0, 0)) := heap_setCell_same _ B 1 _ 56 _ (heap_setCell_same w B 0 _ 56 _ h)
    refine ⟨?_, ?_⟩ <;> rw [cell_of_row _ _ _ _ 56 (0, 0) n] <;> rfl
  cases hq : isIns ⟨op, a⟩ with
  | false =>
    rw [hq] at J4 TE
    obtain rfl : te = false := by rw [TE.out]; rfl
    clear hq
    refine wp_region_noPanic ?_
    refine wp_region_held_drew (S := (fun V => V.cell? ⟨B, 0, none⟩ = some (.int .i64 (op : Int)) ∧ V.cell? ⟨B, 1, none⟩ = some (.int .i64 a))) (by kernel_rfl) (⟨y0, y1⟩) (fun hHeld => ?_)
    refine' wpAnyH_take (i := 0) (oi := { dst := some 18, op := Go.Op.load 56 (Go.Operand.tmp 2), type := 56, pos := "lines.go:68", after := #[], guard := none }) (v := _) rfl (by kernel_rfl) (by kernel_rfl) (by kernel_rfl) (fun _ _ _ h => h) (Or.inl ⟨by rfl, ?hyr1_0⟩) (by assumption) ?rer1_0
    case hyr1_0 => (intro W hSw; (try dsimp only at hSw); go_simp; try with_reducible rfl)
    try simp only [Act.put, List.setIfInBounds_toArray, List.set_cons_zero, List.set_cons_succ]
    refine' wpAnyH_take (i := 1) (oi := { dst := some 19, op := Go.Op.load 56 (Go.Operand.tmp 2), type := 56, pos := "lines.go:68", after := #[], guard := none }) (v := _) rfl (by kernel_rfl) (by kernel_rfl) (by kernel_rfl) (fun _ _ _ h => h) (Or.inl ⟨by rfl, ?hyr1_1⟩) (by assumption) ?rer1_1
    case hyr1_1 => (intro W hSw; (try dsimp only at hSw); go_simp; try with_reducible rfl)
    try simp only [Act.put, List.setIfInBounds_toArray, List.set_cons_zero, List.set_cons_succ]
    refine wpAnyH_ready (rs := [2]) (by kernel_rfl) (by simp) ?_
    refine AllReadyH.cons (o := { dst := some 20, op := Go.Op.call { callee := Go.Callee.value (Go.Operand.func 83), args := #[Go.Operand.tmp 19], argTypes := #[56] }, type := 4, pos := "lines.go:68", after := #[{ on := 1, ground := Go.Ground.data }], guard := none }) rfl (fun K hK => ?_) AllReadyH.nil
    clear hHeld
    go_simp
    go_at_call 83
    refine (J4.out _ (below_on H3.out (below_drew w3))).mono ?_
    rintro e w4 ⟨rfl, hb4⟩
    have H4 := hide (below_on (below_drew w3) hb4)
    clear hb4
    refine hK.out _ _ (KL.out _ H4.out) (fun hHeld => ?_)
    clear hK K
    try simp only [Act.put, List.setIfInBounds_toArray, List.set_cons_zero, List.set_cons_succ]
    refine' wpAnyH_take (i := 3) (oi := { dst := some 21, op := Go.Op.move (Go.Operand.tmp 20), type := 4, pos := "lines.go:68", after := #[{ on := 2, ground := Go.Ground.data }, { on := 2, ground := Go.Ground.chain }], guard := none }) (v := _) rfl (by kernel_rfl) (by kernel_rfl) (by kernel_rfl) (fun _ _ _ h => h) (Or.inl ⟨by rfl, ?hyr1_3⟩) (by assumption) ?rer1_3
    case hyr1_3 => (intro W hSw; (try dsimp only at hSw); go_simp; try with_reducible rfl)
    try simp only [Act.put, List.setIfInBounds_toArray, List.set_cons_zero, List.set_cons_succ]
    refine wpAnyH_take (i := 4) (oi := { dst := some 22, op := Go.Op.load 56 (Go.Operand.tmp 2), type := 56, pos := "lines.go:68", after := #[{ on := 3, ground := Go.Ground.guard }], guard := some (3, true) }) (v := undef) rfl (by kernel_rfl) (by kernel_rfl) (by kernel_rfl) (fun _ _ _ h => h) (Or.inr ⟨by rfl, rfl⟩) (by assumption) ?_
    try simp only [Act.put, List.setIfInBounds_toArray, List.set_cons_zero, List.set_cons_succ]
    refine wpAnyH_take (i := 5) (oi := { dst := some 23, op := Go.Op.call { callee := Go.Callee.value (Go.Operand.func 44), args := #[Go.Operand.tmp 22], argTypes := #[56] }, type := 9, pos := "lines.go:68", after := #[{ on := 4, ground := Go.Ground.data }, { on := 3, ground := Go.Ground.chain }, { on := 3, ground := Go.Ground.guard }], guard := some (3, true) }) (v := undef) rfl (by kernel_rfl) (by kernel_rfl) (by kernel_rfl) (fun _ _ _ h => h) (Or.inr ⟨by rfl, rfl⟩) (by assumption) ?_
    try simp only [Act.put, List.setIfInBounds_toArray, List.set_cons_zero, List.set_cons_succ]
    refine wpAnyH_take (i := 6) (oi := { dst := some 24, op := Go.Op.move (Go.Operand.tmp 0), type := 9, pos := "lines.go:68", after := #[{ on := 3, ground := Go.Ground.guard }, { on := 9, ground := Go.Ground.gcOnly Go.Departure.lateStores }], guard := some (3, true) }) (v := undef) rfl (by kernel_rfl) (by kernel_rfl) (by kernel_rfl) (fun _ _ _ h => h) (Or.inr ⟨by rfl, rfl⟩) (by assumption) ?_
    try simp only [Act.put, List.setIfInBounds_toArray, List.set_cons_zero, List.set_cons_succ]
    refine wpAnyH_take (i := 7) (oi := { dst := some 25, op := Go.Op.binOp Go.BinOp.eql 9 (Go.Operand.tmp 23) (Go.Operand.tmp 24) 9, type := 4, pos := "lines.go:68", after := #[{ on := 5, ground := Go.Ground.data }, { on := 6, ground := Go.Ground.data }, { on := 3, ground := Go.Ground.guard }, { on := 9, ground := Go.Ground.gcOnly Go.Departure.lateStores }], guard := some (3, true) }) (v := undef) rfl (by kernel_rfl) (by kernel_rfl) (by kernel_rfl) (fun _ _ _ h => h) (Or.inr ⟨by rfl, rfl⟩) (by assumption) ?_
    try simp only [Act.put, List.setIfInBounds_toArray, List.set_cons_zero, List.set_cons_succ]
    refine' wpAnyH_take (i := 8) (oi := { dst := some 26, op := Go.Op.pick (Go.Operand.tmp 21) (Go.Operand.tmp 25) (Go.Operand.const (Go.Value.bool false)), type := 4, pos := "lines.go:68", after := #[{ on := 3, ground := Go.Ground.data }, { on := 7, ground := Go.Ground.data }, { on := 9, ground := Go.Ground.gcOnly Go.Departure.lateStores }], guard := none }) (v := _) rfl (by kernel_rfl) (by kernel_rfl) (by kernel_rfl) (fun _ _ _ h => h) (Or.inl ⟨by rfl, ?hyr1_8⟩) (by assumption) ?rer1_8
    case hyr1_8 => (intro W hSw; (try dsimp only at hSw); go_simp; try with_reducible rfl)
    try simp only [Act.put, List.setIfInBounds_toArray, List.set_cons_zero, List.set_cons_succ]
    obtain ⟨q0, q1⟩ := KL.out _ H4.out
    have n5 := (H4.out.block B (lt_of_block N4.out)).trans N4.out
    have zf : ∀ q, w4.frozen? ⟨B, q, none⟩ = false := fun q => frozen_of_row w4 B q _ 56 n5
    have N5 := hide n5
    clear n5
    refine wpAnyH_ready (rs := [9]) (by kernel_rfl) (by simp) ?_
    refine AllReadyH.cons (o := { dst := none, op := Go.Op.store 56 (Go.Operand.tmp 2) (Go.Operand.tmp 18), type := 0, pos := "lines.go:68", after := #[{ on := 0, ground := Go.Ground.data }, { on := 5, ground := Go.Ground.chain }, { on := 0, ground := Go.Ground.phase }, { on := 1, ground := Go.Ground.phase }, { on := 2, ground := Go.Ground.textOnly Go.Departure.lateStoresUnsure }, { on := 3, ground := Go.Ground.textOnly Go.Departure.lateStores }, { on := 4, ground := Go.Ground.phase }, { on := 5, ground := Go.Ground.textOnly Go.Departure.lateStoresUnsure }, { on := 6, ground := Go.Ground.textOnly Go.Departure.lateStores }, { on := 7, ground := Go.Ground.textOnly Go.Departure.lateStores }, { on := 8, ground := Go.Ground.textOnly Go.Departure.lateStores }], guard := none }) rfl (fun K hK => ?_) AllReadyH.nil
    clear hHeld
    go_simp
    refine hK.out _ _ (SV.out _ N5.out) (fun hHeld => ?_)
    clear hK K
    try simp only [Act.put, List.setIfInBounds_toArray, List.set_cons_zero, List.set_cons_succ]
    refine' wpAnyH_take (i := 10) (oi := { dst := some 3, op := Go.Op.assign (Go.Operand.tmp 26), type := 4, pos := "lines.go:68", after := #[{ on := 8, ground := Go.Ground.data }, { on := 9, ground := Go.Ground.chain }, { on := 0, ground := Go.Ground.phase }, { on := 1, ground := Go.Ground.phase }, { on := 2, ground := Go.Ground.phase }, { on := 3, ground := Go.Ground.phase }, { on := 4, ground := Go.Ground.phase }, { on := 5, ground := Go.Ground.phase }, { on := 6, ground := Go.Ground.phase }, { on := 7, ground := Go.Ground.phase }, { on := 8, ground := Go.Ground.phase }, { on := 9, ground := Go.Ground.phase }], guard := none }) (v := _) rfl (by kernel_rfl) (by kernel_rfl) (by kernel_rfl) (fun _ _ _ h => h) (Or.inl ⟨by rfl, ?hyr1_10⟩) (by assumption) ?rer1_10
    case hyr1_10 => (intro W hSw; (try dsimp only at hSw); go_simp; try with_reducible rfl)
    try simp only [Act.put, List.setIfInBounds_toArray, List.set_cons_zero, List.set_cons_succ]
    refine wpAnyH_done (by kernel_rfl) ?_ _
    refine NoPanic.normal ?_
    go_wp2_with fail
    have hq : Below W.heap.size W ((w4.setCell ⟨B, 0, none⟩ (.int .i64 (op : Int))).setCell ⟨B, 1, none⟩ (.int .i64 a)) := ((below_on H3.out H4.out).setCell (p := ⟨B, 0, none⟩) hle _).setCell (p := ⟨B, 1, none⟩) hle _
    have hn : ((w4.setCell ⟨B, 0, none⟩ (.int .i64 (op : Int))).setCell ⟨B, 1, none⟩ (.int .i64 a)).heap[B]? = some (.cells #[.int .i64 (op : Int), .int .i64 a] 56 (0, 0)) := heap_setCell_same _ B 1 _ 56 _ (heap_setCell_same w4 B 0 _ 56 _ N5.out)
    exact bodyPost_ret (res_ins rfl rfl rfl hn) rfl ⟨rfl, hq⟩
  | true =>
    rw [hq] at J4 TE
    rw [Bool.true_and] at TE
    clear hq
    have te2 : ((lineB ⟨op, a⟩).toList == s.toList) = te := by rw [beq_list, TE.out]
    generalize lineB ⟨op, a⟩ = lb at *
    refine wp_region_noPanic ?_
    refine wp_region_held_drew (S := (fun V => V.cell? ⟨B, 0, none⟩ = some (.int .i64 (op : Int)) ∧ V.cell? ⟨B, 1, none⟩ = some (.int .i64 a))) (by kernel_rfl) (⟨y0, y1⟩) (fun hHeld => ?_)
    refine' wpAnyH_take (i := 0) (oi := { dst := some 18, op := Go.Op.load 56 (Go.Operand.tmp 2), type := 56, pos := "lines.go:68", after := #[], guard := none }) (v := _) rfl (by kernel_rfl) (by kernel_rfl) (by kernel_rfl) (fun _ _ _ h => h) (Or.inl ⟨by rfl, ?hyr2_0⟩) (by assumption) ?rer2_0
    case hyr2_0 => (intro W hSw; (try dsimp only at hSw); go_simp; try with_reducible rfl)
    try simp only [Act.put, List.setIfInBounds_toArray, List.set_cons_zero, List.set_cons_succ]
    refine' wpAnyH_take (i := 1) (oi := { dst := some 19, op := Go.Op.load 56 (Go.Operand.tmp 2), type := 56, pos := "lines.go:68", after := #[], guard := none }) (v := _) rfl (by kernel_rfl) (by kernel_rfl) (by kernel_rfl) (fun _ _ _ h => h) (Or.inl ⟨by rfl, ?hyr2_1⟩) (by assumption) ?rer2_1
    case hyr2_1 => (intro W hSw; (try dsimp only at hSw); go_simp; try with_reducible rfl)
    try simp only [Act.put, List.setIfInBounds_toArray, List.set_cons_zero, List.set_cons_succ]
    refine wpAnyH_ready (rs := [2]) (by kernel_rfl) (by simp) ?_
    refine AllReadyH.cons (o := { dst := some 20, op := Go.Op.call { callee := Go.Callee.value (Go.Operand.func 83), args := #[Go.Operand.tmp 19], argTypes := #[56] }, type := 4, pos := "lines.go:68", after := #[{ on := 1, ground := Go.Ground.data }], guard := none }) rfl (fun K hK => ?_) AllReadyH.nil
    clear hHeld
    go_simp
    go_at_call 83
    refine (J4.out _ (below_on H3.out (below_drew w3))).mono ?_
    rintro e w5 ⟨rfl, hb5⟩
    have H5 := hide (below_on (below_drew w3) hb5)
    clear hb5
    refine hK.out _ _ (KL.out _ H5.out) (fun hHeld => ?_)
    clear hK K
    try simp only [Act.put, List.setIfInBounds_toArray, List.set_cons_zero, List.set_cons_succ]
    refine' wpAnyH_take (i := 3) (oi := { dst := some 21, op := Go.Op.move (Go.Operand.tmp 20), type := 4, pos := "lines.go:68", after := #[{ on := 2, ground := Go.Ground.data }, { on := 2, ground := Go.Ground.chain }], guard := none }) (v := _) rfl (by kernel_rfl) (by kernel_rfl) (by kernel_rfl) (fun _ _ _ h => h) (Or.inl ⟨by rfl, ?hyr2_3⟩) (by assumption) ?rer2_3
    case hyr2_3 => (intro W hSw; (try dsimp only at hSw); go_simp; try with_reducible rfl)
    try simp only [Act.put, List.setIfInBounds_toArray, List.set_cons_zero, List.set_cons_succ]
    refine' wpAnyH_take (i := 4) (oi := { dst := some 22, op := Go.Op.load 56 (Go.Operand.tmp 2), type := 56, pos := "lines.go:68", after := #[{ on := 3, ground := Go.Ground.guard }], guard := some (3, true) }) (v := _) rfl (by kernel_rfl) (by kernel_rfl) (by kernel_rfl) (fun _ _ _ h => h) (Or.inl ⟨by rfl, ?hyr2_4⟩) (by assumption) ?rer2_4
    case hyr2_4 => (intro W hSw; (try dsimp only at hSw); go_simp; try with_reducible rfl)
    try simp only [Act.put, List.setIfInBounds_toArray, List.set_cons_zero, List.set_cons_succ]
    refine' wpAnyH_take (i := 6) (oi := { dst := some 24, op := Go.Op.move (Go.Operand.tmp 0), type := 9, pos := "lines.go:68", after := #[{ on := 3, ground := Go.Ground.guard }, { on := 9, ground := Go.Ground.gcOnly Go.Departure.lateStores }], guard := some (3, true) }) (v := _) rfl (by kernel_rfl) (by kernel_rfl) (by kernel_rfl) (fun _ _ _ h => h) (Or.inl ⟨by rfl, ?hyr2_6⟩) (by assumption) ?rer2_6
    case hyr2_6 => (intro W hSw; (try dsimp only at hSw); go_simp; try with_reducible rfl)
    try simp only [Act.put, List.setIfInBounds_toArray, List.set_cons_zero, List.set_cons_succ]
    refine wpAnyH_ready (rs := [5]) (by kernel_rfl) (by simp) ?_
    refine AllReadyH.cons (o := { dst := some 23, op := Go.Op.call { callee := Go.Callee.value (Go.Operand.func 44), args := #[Go.Operand.tmp 22], argTypes := #[56] }, type := 9, pos := "lines.go:68", after := #[{ on := 4, ground := Go.Ground.data }, { on := 3, ground := Go.Ground.chain }, { on := 3, ground := Go.Ground.guard }], guard := some (3, true) }) rfl (fun K hK => ?_) AllReadyH.nil
    clear hHeld
    go_simp
    go_at_call 44
    refine (J5.out _ (below_on H3.out H5.out)).mono ?_
    rintro e w4 ⟨rfl, hb4⟩
    have H4 := hide (below_on H5.out hb4)
    clear hb4
    refine hK.out _ _ (KL.out _ H4.out) (fun hHeld => ?_)
    clear hK K
    try simp only [Act.put, List.setIfInBounds_toArray, List.set_cons_zero, List.set_cons_succ]
    refine' wpAnyH_take (i := 7) (oi := { dst := some 25, op := Go.Op.binOp Go.BinOp.eql 9 (Go.Operand.tmp 23) (Go.Operand.tmp 24) 9, type := 4, pos := "lines.go:68", after := #[{ on := 5, ground := Go.Ground.data }, { on := 6, ground := Go.Ground.data }, { on := 3, ground := Go.Ground.guard }, { on := 9, ground := Go.Ground.gcOnly Go.Departure.lateStores }], guard := some (3, true) }) (v := _) rfl (by kernel_rfl) (by kernel_rfl) (by kernel_rfl) (fun _ _ _ h => h) (Or.inl ⟨by rfl, ?hyr2_7⟩) (by assumption) ?rer2_7
    case hyr2_7 => (intro W hSw; (try dsimp only at hSw); go_simp; try with_reducible rfl)
    try simp only [Act.put, List.setIfInBounds_toArray, List.set_cons_zero, List.set_cons_succ]
    refine' wpAnyH_take (i := 8) (oi := { dst := some 26, op := Go.Op.pick (Go.Operand.tmp 21) (Go.Operand.tmp 25) (Go.Operand.const (Go.Value.bool false)), type := 4, pos := "lines.go:68", after := #[{ on := 3, ground := Go.Ground.data }, { on := 7, ground := Go.Ground.data }, { on := 9, ground := Go.Ground.gcOnly Go.Departure.lateStores }], guard := none }) (v := _) rfl (by kernel_rfl) (by kernel_rfl) (by kernel_rfl) (fun _ _ _ h => h) (Or.inl ⟨by rfl, ?hyr2_8⟩) (by assumption) ?rer2_8
    case hyr2_8 => (intro W hSw; (try dsimp only at hSw); go_simp; try with_reducible rfl)
    try simp only [Act.put, List.setIfInBounds_toArray, List.set_cons_zero, List.set_cons_succ]
    obtain ⟨q0, q1⟩ := KL.out _ H4.out
    have n5 := (H4.out.block B (lt_of_block N4.out)).trans N4.out
    have zf : ∀ q, w4.frozen? ⟨B, q, none⟩ = false := fun q => frozen_of_row w4 B q _ 56 n5
    have N5 := hide n5
    clear n5
    refine wpAnyH_ready (rs := [9]) (by kernel_rfl) (by simp) ?_
    refine AllReadyH.cons (o := { dst := none, op := Go.Op.store 56 (Go.Operand.tmp 2) (Go.Operand.tmp 18), type := 0, pos := "lines.go:68", after := #[{ on := 0, ground := Go.Ground.data }, { on := 5, ground := Go.Ground.chain }, { on := 0, ground := Go.Ground.phase }, { on := 1, ground := Go.Ground.phase }, { on := 2, ground := Go.Ground.textOnly Go.Departure.lateStoresUnsure }, { on := 3, ground := Go.Ground.textOnly Go.Departure.lateStores }, { on := 4, ground := Go.Ground.phase }, { on := 5, ground := Go.Ground.textOnly Go.Departure.lateStoresUnsure }, { on := 6, ground := Go.Ground.textOnly Go.Departure.lateStores }, { on := 7, ground := Go.Ground.textOnly Go.Departure.lateStores }, { on := 8, ground := Go.Ground.textOnly Go.Departure.lateStores }], guard := none }) rfl (fun K hK => ?_) AllReadyH.nil
    clear hHeld
    go_simp
    refine hK.out _ _ (SV.out _ N5.out) (fun hHeld => ?_)
    clear hK K
    try simp only [Act.put, List.setIfInBounds_toArray, List.set_cons_zero, List.set_cons_succ]
    refine' wpAnyH_take (i := 10) (oi := { dst := some 3, op := Go.Op.assign (Go.Operand.tmp 26), type := 4, pos := "lines.go:68", after := #[{ on := 8, ground := Go.Ground.data }, { on := 9, ground := Go.Ground.chain }, { on := 0, ground := Go.Ground.phase }, { on := 1, ground := Go.Ground.phase }, { on := 2, ground := Go.Ground.phase }, { on := 3, ground := Go.Ground.phase }, { on := 4, ground := Go.Ground.phase }, { on := 5, ground := Go.Ground.phase }, { on := 6, ground := Go.Ground.phase }, { on := 7, ground := Go.Ground.phase }, { on := 8, ground := Go.Ground.phase }, { on := 9, ground := Go.Ground.phase }], guard := none }) (v := _) rfl (by kernel_rfl) (by kernel_rfl) (by kernel_rfl) (fun _ _ _ h => h) (Or.inl ⟨by rfl, ?hyr2_10⟩) (by assumption) ?rer2_10
    case hyr2_10 => (intro W hSw; (try dsimp only at hSw); go_simp; try with_reducible rfl)
    try simp only [Act.put, List.setIfInBounds_toArray, List.set_cons_zero, List.set_cons_succ]
    refine wpAnyH_done (by kernel_rfl) ?_ _
    refine NoPanic.normal ?_
    go_wp2_with fail
    have hq : Below W.heap.size W ((w4.setCell ⟨B, 0, none⟩ (.int .i64 (op : Int))).setCell ⟨B, 1, none⟩ (.int .i64 a)) := ((below_on H3.out H4.out).setCell (p := ⟨B, 0, none⟩) hle _).setCell (p := ⟨B, 1, none⟩) hle _
    have hn : ((w4.setCell ⟨B, 0, none⟩ (.int .i64 (op : Int))).setCell ⟨B, 1, none⟩ (.int .i64 a)).heap[B]? = some (.cells #[.int .i64 (op : Int), .int .i64 a] 56 (0, 0)) := heap_setCell_same _ B 1 _ 56 _ (heap_setCell_same w4 B 0 _ 56 _ N5.out)
    exact bodyPost_ret (res_ins rfl rfl rfl hn) rfl ⟨rfl, hq⟩
end Go.Proofs.YtpolajoephjdhaaGreatDoor
