import Derived.Test.YtklamaibinjcmaaDoorMgA
/-
  isInstr, isRoutine, mayBeListed.
-/
namespace Go.Proofs.YtklamaibinjcmaaDoor
open Go.RowKit
set_option maxRecDepth 100000
set_option maxHeartbeats 1000000 in
theorem isinstr_any (i : Ins) (W : World) (ht : Tb W) : Calls Tryd.prog 87 #[insV i] W fun e w' => e = .returned (.bool (isIns i)) ∧ Below W.heap.size W w' := by
  obtain ⟨op, a⟩ := i
  obtain ⟨w0, hw0⟩ : ∃ X, X = W.alloc (.cells #[.int .i64 op, .int .i64 a] 47) := ⟨_, rfl⟩
  have B0 : Below W.heap.size W w0 := hw0 ▸ below_alloc W _
  have J1 := hide (fun w => isop_any op w)
  have J2 := hide (row_any op w0 (ht.later B0))
  have n1 : w0.heap[W.heap.size]? = some (.cells #[.int .i64 op, .int .i64 a] 47 (0, 0)) := by rw [hw0]; exact heap_alloc_new W _
  obtain ⟨B, hB⟩ : ∃ B, B = W.heap.size := ⟨_, rfl⟩
  rw [← hB] at n1
  have c0 : w0.cell? ⟨B, 0, none⟩ = some (.int .i64 op) := by rw [cell_of_row w0 _ _ _ 47 (0, 0) n1]; rfl
  have c1 : w0.cell? ⟨B, 1, none⟩ = some (.int .i64 a) := by rw [cell_of_row w0 _ _ _ 47 (0, 0) n1]; rfl
  obtain ⟨te, hte⟩ : ∃ t, t = isIns ⟨op, a⟩ := ⟨_, rfl⟩
  rw [← hte]
  have TE := hide hte
  have HW := hide hw0
  have HB := hide B0
  have EB := hide hB
  clear hte n1 B0 ht
  unfold isIns at TE
  unfold insV
  dsimp only at TE ⊢
  have f1 := fldR1 (opk op)
  by_cases h1 : 1 ≤ op ∧ op ≤ 39
  · rw [show decide (1 ≤ op ∧ op ≤ 39) = true by simp [h1]] at J1 TE
    by_cases h2 : a = 0
    · subst h2
      obtain rfl : te = true := by rw [TE.out]; simp
      clear h1
      go_enter Tryd.func87, Tryd.ntmps87
      go_upto_region 1 with fail
      rw [← hw0, ← hB]
      clear hw0 hB
      go_wp2_with (go_at_call 59; refine (J1.out _).mono ?_; rintro e w' ⟨rfl, rfl⟩)
      go_ret
      exact ⟨rfl, HB.out⟩
    · have t2 : (a == 0) = false := by simp [h2]
      obtain rfl : te = numb (opk op) := by rw [TE.out, t2]; simp
      clear h1 h2
      generalize opk op = k at *
      go_enter Tryd.func87, Tryd.ntmps87
      go_upto_region 1 with fail
      rw [← hw0, ← hB]
      clear hw0 hB
      unfold rowV at J2
      go_wp2_with (first | (go_at_call 59; refine (J1.out _).mono ?_; rintro e w' ⟨rfl, rfl⟩) | (go_at_call 36; refine J2.out.mono ?_; rintro e w' ⟨rfl, hb⟩))
      go_ret
      exact ⟨rfl, below_on HB.out hb⟩
  · rw [show decide (1 ≤ op ∧ op ≤ 39) = false by simp; omega] at J1 TE
    obtain rfl : te = false := by rw [TE.out]; simp
    clear h1
    go_enter Tryd.func87, Tryd.ntmps87
    go_upto_region 1 with fail
    rw [← hw0, ← hB]
    clear hw0 hB
    go_wp2_with (go_at_call 59; refine (J1.out _).mono ?_; rintro e w' ⟨rfl, rfl⟩)
    go_ret
    exact ⟨rfl, HB.out⟩
end Go.Proofs.YtklamaibinjcmaaDoor

/-
  isRoutine, mayBeListed.
-/
namespace Go.Proofs.YtklamaibinjcmaaDoor
open Go.RowKit
set_option maxRecDepth 100000
def rtV (r : Rt) (vc : Value) : Value := .agg #[.string r.name, .int .i64 r.pa, .int .i64 r.lo, vc]
theorem toList_len (s : ByteArray) : s.toList.length = s.size := by
  rw [ByteArray.toList_eq, Array.length_toList]; rfl
theorem toList_nil {s : ByteArray} (h : s.size = 0) : s.toList = [] := List.eq_nil_of_length_eq_zero ((toList_len s).trans h)
theorem toList_ne {s : ByteArray} (h : s.size ≠ 0) : ¬ s.toList = [] := fun e => h ((toList_len s).symm.trans (by rw [e]; rfl))
theorem empty_no {s : ByteArray} (h : s.size ≠ 0) : s.toList.isEmpty = false := by
  cases hl : s.toList with
  | nil => exact absurd hl (toList_ne h)
  | cons x l => rfl
theorem empty_yes {s : ByteArray} (h : s.size = 0) : s.toList.isEmpty = true := by rw [toList_nil h]; rfl
theorem Il.at {Q : Nat → Prop} {W : World} {v : Value} {l : List Ins} (h : Il Q W v l) : ∃ ao c, v = .slice ao l.length c ∧ l.length ≤ c ∧ c ≤ 9223372036854775807 := by
  obtain ⟨ao, c, h1, h2, h3, -⟩ := h
  exact ⟨ao, c, h1, h2, by unfold maxLen at h3; omega⟩
theorem Il.nth {Q : Nat → Prop} {W : World} {n c : Nat} {ao : Option Addr} {l : List Ins} (h : Il Q W (.slice ao n c) l) {k : Nat} (hk : k < l.length) : ∃ g o, ao = some ⟨g, o, none⟩ ∧ Q g ∧ W.cell? ⟨g, o + k * 2, none⟩ = some (.int .i64 l[k].op) ∧ W.cell? ⟨g, o + k * 2 + 1, none⟩ = some (.int .i64 l[k].a) ∧ I6 l[k].op ∧ I6 l[k].a := by
  obtain ⟨ao', c', e, h2, h3, h4⟩ := h
  injection e with e1 e2 e3
  subst e1 e3
  obtain ⟨g, o, rfl, hq, h5⟩ := h4 (by omega)
  obtain ⟨a, b, c, d⟩ := h5 k hk
  exact ⟨g, o, rfl, hq, c, d, a, b⟩
set_option maxHeartbeats 2000000 in
theorem isroutine_at {Q : Nat → Prop} {W : World} {n c : Nat} {ao : Option Addr} (nm : ByteArray) (pa lo : Int) (code : List Ins) (hn : n = code.length) (hc1 : n ≤ c) (hc2 : c ≤ 9223372036854775807) (h : Il Q W (.slice ao n c) code) (ht : Tb W) : Calls Tryd.prog 72 #[.agg #[.string nm, .int .i64 pa, .int .i64 lo, .slice ao n c]] W fun e w' => e = .returned (.bool (rtOk ⟨nm, pa, lo, code⟩)) ∧ Below W.heap.size W w' := by
  obtain ⟨w0, hw0⟩ : ∃ X, X = W.alloc (.cells #[.string nm, .int .i64 pa, .int .i64 lo, .slice ao n c] 28) := ⟨_, rfl⟩
  have B0 : Below W.heap.size W w0 := hw0 ▸ below_alloc W _
  have n1 : w0.heap[W.heap.size]? = some (.cells #[.string nm, .int .i64 pa, .int .i64 lo, .slice ao n c] 28 (0, 0)) := by rw [hw0]; exact heap_alloc_new W _
  obtain ⟨B, hB⟩ : ∃ B, B = W.heap.size := ⟨_, rfl⟩
  rw [← hB] at n1
  have c0 : w0.cell? ⟨B, 0, none⟩ = some (.string nm) := by rw [cell_of_row w0 _ _ _ 28 (0, 0) n1]; rfl
  have c1 : w0.cell? ⟨B, 1, none⟩ = some (.int .i64 pa) := by rw [cell_of_row w0 _ _ _ 28 (0, 0) n1]; rfl
  have c2 : w0.cell? ⟨B, 2, none⟩ = some (.int .i64 lo) := by rw [cell_of_row w0 _ _ _ 28 (0, 0) n1]; rfl
  have c3 : w0.cell? ⟨B, 3, none⟩ = some (.slice ao n c) := by rw [cell_of_row w0 _ _ _ 28 (0, 0) n1]; rfl
  obtain ⟨te, hte⟩ : ∃ t, t = rtOk ⟨nm, pa, lo, code⟩ := ⟨_, rfl⟩
  rw [← hte]
  have TE := hide hte
  have HW := hide hw0
  have HB := hide B0
  have EB := hide hB
  have H := hide h
  have HT := hide ht
  have HN := hide hn
  clear hte n1 B0 ht h hn
  unfold rtOk at TE
  dsimp only at TE
  rw [← HN.out] at TE
  obtain ⟨b1, hb1⟩ : ∃ b, b = decide (1 ≤ nm.size ∧ nm.size ≤ 16) := ⟨_, rfl⟩
  obtain ⟨b2, hb2⟩ : ∃ b, b = decide (0 ≤ pa ∧ pa ≤ 4) := ⟨_, rfl⟩
  obtain ⟨b3, hb3⟩ : ∃ b, b = decide (pa ≤ lo ∧ lo ≤ 32) := ⟨_, rfl⟩
  rw [← hb1, ← hb2, ← hb3] at TE
  have E1 := hide hb1
  have E2 := hide hb2
  have E3 := hide hb3
  clear hb1 hb2 hb3
  go_enter Tryd.func72, Tryd.ntmps72
  go_upto_region 1 with fail
  rw [← hw0, ← hB]
  clear hw0 hB
  go_cut [3] (fun v wx => v = .bool b1 ∧ w0 = wx)
  case first =>
    by_cases h1 : nm.size = 0
    · have nn := empty_yes h1
      have nz := toList_nil h1
      go_wp2_with fail
      go_meet
      refine ⟨?_, rfl⟩
      rw [E1.out]
      congr 1
      symm
      rw [decide_eq_false_iff_not]
      omega
    · have nn := empty_no h1
      have nz := toList_ne h1
      go_wp2_with fail
      go_meet
      refine ⟨?_, rfl⟩
      rw [E1.out]
      congr 1
      rw [decide_eq_decide]
      omega
  obtain ⟨rfl, rfl⟩ := hcut
  go_upto_region 2 with fail
  go_cut [4] (fun v wx => v = .bool b2 ∧ w0 = wx)
  case first =>
    go_wp2_with fail
    all_goals go_meet
    all_goals refine ⟨?_, rfl⟩
    all_goals rw [E2.out]
    all_goals congr 1
    all_goals first | (rw [decide_eq_decide]; omega) | (symm; rw [decide_eq_false_iff_not]; omega)
  obtain ⟨rfl, rfl⟩ := hcut
  go_upto_region 3 with fail
  go_cut [5] (fun v wx => v = .bool b3 ∧ w0 = wx)
  case first =>
    go_wp2_with fail
    all_goals go_meet
    all_goals refine ⟨?_, rfl⟩
    all_goals rw [E3.out]
    all_goals congr 1
    all_goals first | (rw [decide_eq_decide]; omega) | (symm; rw [decide_eq_false_iff_not]; omega)
  obtain ⟨rfl, rfl⟩ := hcut
  go_upto_region 4 with fail
  go_cut [50] (fun v wx => v = .bool (!(b1 && b2 && b3 && decide (n ≤ 2000))) ∧ w0 = wx)
  case first =>
    cases b1 <;> cases b2 <;> cases b3
    all_goals go_wp2_with fail
    all_goals go_meet
    all_goals refine ⟨?_, rfl⟩
    all_goals first | rfl | (show Value.bool _ = Value.bool _; congr 1; simp; done) | skip
    show Value.bool _ = Value.bool _
    congr 1
    simp only [Bool.true_and]
    rw [← decide_not, decide_eq_decide]
    omega
  obtain ⟨rfl, rfl⟩ := hcut
  obtain ⟨bb, hbb⟩ : ∃ b, b = (b1 && b2 && b3 && decide (n ≤ 2000)) := ⟨_, rfl⟩
  rw [← hbb] at TE ⊢
  clear hbb
  cases bb with
  | false =>
    obtain rfl : te = false := by rw [TE.out]; rfl
    go_wp2_with fail
    go_ret
    exact ⟨rfl, HB.out⟩
  | true =>
    rw [Bool.true_and] at TE
    rw [Bool.not_true]
    go_wp2_with fail
    go_loopw [54] (fun v wr => ∃ k : Nat, v = .int .i64 (k : Int) ∧ k ≤ n ∧ Hid (Below W.heap.size W wr) ∧ Hid ((code.take k).all isIns = true)) (fun v _ => n - (intOf v).toNat)
    case atStart => exact ⟨0, rfl, by omega, HB.out, rfl⟩
    case round =>
      obtain ⟨k, rfl, hk, hb, ha⟩ := hrel
      by_cases hlt : k < n
      · have hlt' : k < code.length := by rw [← HN.out]; exact hlt
        obtain ⟨g, o, rfl, -, d0, d1, -, -⟩ := (H.out.later hb.out).nth hlt'
        have g1 := World.block_lt_of_cell? wr _ d0
        have J := hide (isinstr_any code[k] (wr.alloc (.cells #[.int .i64 code[k].op, .int .i64 code[k].a] 47)) ((HT.out.later hb.out).later (below_alloc wr _)))
        have E4 : Hid ((code.take (k + 1)).all isIns = isIns code[k]) := by
          unfold Hid
          rw [List.take_add_one, List.getElem?_eq_getElem hlt', List.all_append, ha.out]
          simp
        have E5 : Hid (isIns code[k] = false → code.all isIns = false) := fun h => by
          rw [List.all_eq_false]
          exact ⟨code[k], List.getElem_mem _, by rw [h]; simp⟩
        unfold insV at J
        have hw := below_alloc wr (.cells #[.int .i64 code[k].op, .int .i64 code[k].a] 47)
        have HX := hide (below_on hb.out hw)
        clear hw
        generalize isIns code[k] = q at *
        generalize code[k] = x at *
        cases q with
        | false =>
          obtain rfl : te = false := by rw [TE.out]; exact E5.out rfl
          go_wp2_with fail
          refine J.out.mono ?_
          rintro e w2 ⟨rfl, hb2⟩
          go_wp2_with fail
          go_ret
          exact ⟨rfl, below_on HX.out hb2⟩
        | true =>
          go_wp2_with fail
          refine J.out.mono ?_
          rintro e w2 ⟨rfl, hb2⟩
          have HB2 := hide hb2
          clear hb2
          go_wp2_with fail
          go_roundw
          case rel => exact ⟨k + 1, by go_num, by omega, below_on HX.out HB2.out, E4.out⟩
          case measure => simp [intOf]; omega
      · obtain rfl : k = n := by omega
        obtain rfl : te = true := by
          rw [TE.out]
          have := ha.out
          rw [HN.out, List.take_length] at this
          exact this
        go_wp2_with fail
        go_ret
        exact ⟨rfl, hb.out⟩
theorem isroutine_any {Q : Nat → Prop} {W : World} {vc : Value} (r : Rt) (h : Il Q W vc r.code) (ht : Tb W) : Calls Tryd.prog 72 #[rtV r vc] W fun e w' => e = .returned (.bool (rtOk r)) ∧ Below W.heap.size W w' := by
  obtain ⟨ao, c, rfl, hc1, hc2⟩ := h.at
  exact isroutine_at r.name r.pa r.lo r.code rfl hc1 hc2 h ht
end Go.Proofs.YtklamaibinjcmaaDoor
