import Derived.Test.YtpolajoephjdhaaGreatDoorCoM
import Derived.Laws.ResultCell
/-
  The table in memory; isOp, rowOf.
-/
namespace Go.Proofs.YtpolajoephjdhaaGreatDoor
open Go.RowKit
set_option maxRecDepth 100000
/-- The table of the code lies at its place. -/
def Tb (W : World) : Prop := ∀ k, k < 40 → W.cell? ⟨0, k * 4, none⟩ = some (.string (wd k)) ∧ W.cell? ⟨0, k * 4 + 1, none⟩ = some (.bool (numb k)) ∧ W.cell? ⟨0, k * 4 + 2, none⟩ = some (.int .i64 (tak k : Int)) ∧ W.cell? ⟨0, k * 4 + 3, none⟩ = some (.int .i64 (pts k : Int))
def rowV (k : Nat) : Value := .agg #[.string (wd k), .bool (numb k), .int .i64 (tak k : Int), .int .i64 (pts k : Int)]
theorem Tb.mv {W W' : World} {S : Nat → Prop} (h : Tb W) (hm : Mv W W' S) (h0 : ¬ S 0) : Tb W' := fun k hk => by
  obtain ⟨a, b, c, d⟩ := h k hk
  exact ⟨hm.cell a h0, hm.cell b h0, hm.cell c h0, hm.cell d h0⟩
theorem Tb.pos {W : World} (h : Tb W) : 0 < W.heap.size := World.block_lt_of_cell? W _ (h 0 (by omega)).1
theorem Tb.later {W W' : World} (h : Tb W) (hb : Below W.heap.size W W') : Tb W' := h.mv (Mv.of_below hb (fun _ => False)) (fun e => e)
theorem ret_bool {a b : Bool} (h : a = b) : Ending.returned (.bool a) = .returned (.bool b) := by rw [h]
theorem isop_any (op : Int) (w : World) : Calls Tryz.prog 87 #[.int .i64 op] w fun e w' => e = .returned (.bool (decide (1 ≤ op ∧ op ≤ 39))) ∧ w' = w := by
  by_cases h : 1 ≤ op
  · go_enter Tryz.func87, Tryz.ntmps87
    go_wp2_with fail
    go_ret
    exact ⟨ret_bool (by simp [h]), rfl⟩
  · go_enter Tryz.func87, Tryz.ntmps87
    go_wp2_with fail
    go_ret
    exact ⟨ret_bool (by simp; omega), rfl⟩
theorem undRow : (Tryz.prog.underlying 112).map (fun d => match d with | .struct _ | .array _ _ => true | _ => false) = some true := by kernel_rfl
theorem res_row {fn : Func} {p : Tmp} (hr : fn.results = #[.cell p 112]) {tmps : Array Value} {W : World} {g k : Nat} (hp : tmps.getD p undef = .pointer (some ⟨g, 0, none⟩)) (hg : W.heap[g]? = some (.cells #[.string (wd k), .bool (numb k), .int .i64 (tak k : Int), .int .i64 (pts k : Int)] 112 (0, 0))) : (results fn tmps).run Tryz.prog W = .ok (rowV k) W := by
  obtain ⟨d, hu, hd⟩ := Option.map_eq_some_iff.1 undRow
  exact results_cell_row hr tmps W g 112 _ (0, 0) d hp hg hu (by cases d <;> first | rfl | cases hd) (by kernel_rfl)
theorem row_any (op : Int) (w : World) (ht : Tb w) : Calls Tryz.prog 56 #[.int .i64 op] w fun e w' => e = .returned (rowV (opk op)) ∧ Below w.heap.size w w' := by
  by_cases h : 1 ≤ op ∧ op ≤ 39
  · rw [opk_in h]
    obtain ⟨a, b, c, d⟩ := ht op.toNat (by omega)
    have t1 : decide (1 ≤ op ∧ op ≤ 39) = true := by simp [h]
    have i1 := fun w => isop_any op w
    rw [t1] at i1
    have hp := ht.pos
    go_enter Tryz.func56, Tryz.ntmps56
    go_wp2_with (go_at_call 87; refine (i1 _).mono ?_; rintro e w' ⟨rfl, rfl⟩)
    have hb : (w.alloc (.cells #[.string (wd op.toNat), .bool (numb op.toNat), .int .i64 (tak op.toNat : Int), .int .i64 (pts op.toNat : Int)] 112)).heap[w.heap.size]? = some (.cells #[.string (wd op.toNat), .bool (numb op.toNat), .int .i64 (tak op.toNat : Int), .int .i64 (pts op.toNat : Int)] 112 (0, 0)) := heap_alloc_new w _
    refine bodyPost_ret (v := rowV op.toNat) (res_row rfl rfl hb) rfl ⟨rfl, below_alloc w _⟩
  · rw [opk_out h]
    have t1 : decide (1 ≤ op ∧ op ≤ 39) = false := by simp; omega
    have i1 := fun w => isop_any op w
    rw [t1] at i1
    go_enter Tryz.func56, Tryz.ntmps56
    go_wp2_with (go_at_call 87; refine (i1 _).mono ?_; rintro e w' ⟨rfl, rfl⟩)
    have hb : (w.alloc (.cells #[.string ⟨#[]⟩, .bool false, .int .i64 0, .int .i64 0] 112)).heap[w.heap.size]? = some (.cells #[.string (wd 0), .bool (numb 0), .int .i64 (tak 0 : Int), .int .i64 (pts 0 : Int)] 112 (0, 0)) := heap_alloc_new w _
    refine bodyPost_ret (v := rowV 0) (res_row rfl rfl hb) rfl ⟨rfl, below_alloc w _⟩
theorem fldR0 (k : Nat) (w : World) : (Instr.field 112 (.agg #[.string (wd k), .bool (numb k), .int .i64 (tak k : Int), .int .i64 (pts k : Int)]) 0).run Tryz.prog w = .ok (.string (wd k)) w := by kernel_rfl
theorem fldR1 (k : Nat) (w : World) : (Instr.field 112 (.agg #[.string (wd k), .bool (numb k), .int .i64 (tak k : Int), .int .i64 (pts k : Int)]) 1).run Tryz.prog w = .ok (.bool (numb k)) w := by kernel_rfl
theorem name_any (op : Int) (w : World) (ht : Tb w) : Calls Tryz.prog 24 #[.int .i64 op] w fun e w' => e = .returned (.string (wd (opk op))) ∧ Below w.heap.size w w' := by
  have c := hide (row_any op w ht)
  have f := fldR0 (opk op)
  go_enter Tryz.func24, Tryz.ntmps24
  go_wp2_with (go_at_call 56; refine c.out.mono ?_; rintro e w' ⟨rfl, hb⟩; unfold rowV)
  go_ret
  exact ⟨rfl, hb⟩
theorem values_any (a : Int) (w : World) : Calls Tryz.prog 58 #[.int .i64 a] w fun e w' => e = .returned (.int .i64 (if a < 0 then 0 else a % 8)) ∧ w' = w := by
  by_cases h : a < 0
  · rw [if_pos h]
    go_enter Tryz.func58, Tryz.ntmps58
    go_wp2_with fail
    go_ret
    exact ⟨rfl, rfl⟩
  · rw [if_neg h]
    have h0 : 0 ≤ a := by omega
    go_enter Tryz.func58, Tryz.ntmps58
    go_wp2_with fail
    go_ret
    exact ⟨ret_int (by simp <;> omega), rfl⟩
end Go.Proofs.YtpolajoephjdhaaGreatDoor

/-
  Number, paramsOf, Effect.
-/
namespace Go.Proofs.YtpolajoephjdhaaGreatDoor
open Go.RowKit
set_option maxRecDepth 100000
/-- The op of a word; 0, if there is none. -/
def isWd (s : ByteArray) (k : Nat) : Bool := decide (1 ≤ k) && decide (wd k = s)
def numOf (s : ByteArray) : Nat := ((List.range 40).find? (isWd s)).getD 0
theorem numOf_at {s : ByteArray} {k : Nat} (h1 : 1 ≤ k) (h2 : k < 40) (h3 : wd k = s) (h4 : ∀ j, 1 ≤ j → j < k → wd j ≠ s) : numOf s = k := by
  have : (List.range 40).find? (isWd s) = some k := by
    rw [List.find?_range_eq_some]
    refine ⟨by simp [isWd, h1, h3], by simpa using h2, fun j hj => ?_⟩
    by_cases h : 1 ≤ j
    · simp [isWd, h4 j h hj]
    · simp [isWd]; omega
  unfold numOf
  rw [this]; rfl
theorem numOf_no {s : ByteArray} (h : ∀ j, 1 ≤ j → j < 40 → wd j ≠ s) : numOf s = 0 := by
  have : (List.range 40).find? (isWd s) = none := by
    rw [List.find?_range_eq_none]
    intro j hj
    by_cases h1 : 1 ≤ j
    · simp [isWd, h j h1 hj]
    · simp [isWd]; omega
  unfold numOf
  rw [this]; rfl
theorem numOf_lt (s : ByteArray) : numOf s < 40 := by
  unfold numOf
  cases h : (List.range 40).find? (isWd s) with
  | none => simp
  | some k =>
    rw [List.find?_range_eq_some] at h
    simpa using h.2.1
theorem beq_list (a b : ByteArray) : (a.toList == b.toList) = decide (a = b) := by
  have h : a.toList = b.toList ↔ a = b := by
    constructor
    · intro h
      rw [ByteArray.toList_eq, ByteArray.toList_eq] at h
      exact ByteArray.ext (Array.toList_inj.1 h)
    · rintro rfl; rfl
  rw [Bool.eq_iff_iff, beq_iff_eq, decide_eq_true_eq]
  exact h
theorem number_any (s : ByteArray) (w : World) (ht : Tb w) : Calls Tryz.prog 25 #[.string s] w fun e w' => e = .returned (.int .i64 (numOf s : Int)) ∧ w' = w := by
  go_enter Tryz.func25, Tryz.ntmps25
  go_wp2
  go_loop [3] (fun v => ∃ k : Nat, v = .int .i64 (k : Int) ∧ 1 ≤ k ∧ k ≤ 40 ∧ Hid (∀ j, 1 ≤ j → j < k → wd j ≠ s)) (fun v => 41 - (intOf v).toNat)
  case atStart => exact ⟨1, rfl, by omega, by omega, fun j h1 h2 => by omega⟩
  case round =>
    obtain ⟨k, rfl, h1, h2, h3⟩ := hrel
    by_cases hk : k < 40
    · obtain ⟨c0, -, -, -⟩ := ht k hk
      by_cases he : wd k = s
      · have hb : ((wd k).toList == s.toList) = true := by rw [beq_list]; simp [he]
        have HE := hide (numOf_at h1 hk he h3.out)
        clear he
        go_wp2_with fail
        go_ret
        rw [HE.out]
        exact ⟨rfl, rfl⟩
      · have hb : ((wd k).toList == s.toList) = false := by rw [beq_list]; simp [he]
        have HE : Hid (∀ j, 1 ≤ j → j < k + 1 → wd j ≠ s) := fun j a b => by
          by_cases hj : j = k
          · subst hj; exact he
          · exact h3.out j a (by omega)
        clear he
        go_wp2_with fail
        refine ⟨⟨k + 1, by go_num, by omega, by omega, HE⟩, by simp [intOf]; omega⟩
    · have HE := hide (numOf_no (s := s) (fun j a b => h3.out j a (by omega)))
      go_wp2_with fail
      go_ret
      rw [HE.out]
      exact ⟨rfl, rfl⟩
end Go.Proofs.YtpolajoephjdhaaGreatDoor
