import Derived.Test.YtfkhhplcogedmaaGreatDoorMgA
/-
  Instructions and routines in memory; paramsOf, Effect.
-/
namespace Go.Proofs.YtfkhhplcogedmaaGreatDoor
open Go.RowKit
set_option maxRecDepth 100000
def I6 (x : Int) : Prop := -9223372036854775808 ≤ x ∧ x ≤ 9223372036854775807
/-- Instructions as they are read, in blocks of Q. -/
def Il (Q : Nat → Prop) (W : World) (v : Value) (l : List Ins) : Prop :=
  ∃ ao c, v = .slice ao l.length c ∧ l.length ≤ c ∧ c ≤ maxLen ∧ (0 < l.length → ∃ g o, ao = some ⟨g, o, none⟩ ∧ Q g ∧ ∀ i (h : i < l.length), I6 l[i].op ∧ I6 l[i].a ∧ W.cell? ⟨g, o + i * 2, none⟩ = some (.int .i64 l[i].op) ∧ W.cell? ⟨g, o + i * 2 + 1, none⟩ = some (.int .i64 l[i].a))
def Rts (Q : Nat → Prop) (W : World) (v : Value) (l : List Rt) : Prop :=
  ∃ ao c, v = .slice ao l.length c ∧ l.length ≤ c ∧ c ≤ maxLen ∧ (0 < l.length → ∃ g o, ao = some ⟨g, o, none⟩ ∧ Q g ∧ ∀ i (h : i < l.length), I6 l[i].pa ∧ I6 l[i].lo ∧ ∃ vc, W.cell? ⟨g, o + i * 4, none⟩ = some (.string l[i].name) ∧ W.cell? ⟨g, o + i * 4 + 1, none⟩ = some (.int .i64 l[i].pa) ∧ W.cell? ⟨g, o + i * 4 + 2, none⟩ = some (.int .i64 l[i].lo) ∧ W.cell? ⟨g, o + i * 4 + 3, none⟩ = some vc ∧ Il Q W vc l[i].code)
section
variable {W W' : World} {S Q : Nat → Prop} {v : Value}
theorem Il.mv {l : List Ins} (h : Il Q W v l) (hm : Mv W W' S) (hs : ∀ j, Q j → ¬ S j) : Il Q W' v l := by
  obtain ⟨ao, c, h1, h2, h3, h4⟩ := h
  refine ⟨ao, c, h1, h2, h3, fun h0 => ?_⟩
  obtain ⟨g, o, h5, h6, h7⟩ := h4 h0
  refine ⟨g, o, h5, h6, fun i hi => ?_⟩
  obtain ⟨a, b, c, d⟩ := h7 i hi
  exact ⟨a, b, hm.cell c (hs g h6), hm.cell d (hs g h6)⟩
theorem Il.later {l : List Ins} (h : Il Q W v l) (hb : Below W.heap.size W W') : Il Q W' v l := h.mv (Mv.of_below hb (fun _ => False)) (fun _ _ e => e)
theorem Il.mono {Q' : Nat → Prop} {l : List Ins} (h : Il Q W v l) (hq : ∀ j, Q j → Q' j) : Il Q' W v l := by
  obtain ⟨ao, c, h1, h2, h3, h4⟩ := h
  refine ⟨ao, c, h1, h2, h3, fun h0 => ?_⟩
  obtain ⟨g, o, h5, h6, h7⟩ := h4 h0
  exact ⟨g, o, h5, hq g h6, h7⟩
theorem Rts.mv {l : List Rt} (h : Rts Q W v l) (hm : Mv W W' S) (hs : ∀ j, Q j → ¬ S j) : Rts Q W' v l := by
  obtain ⟨ao, c, h1, h2, h3, h4⟩ := h
  refine ⟨ao, c, h1, h2, h3, fun h0 => ?_⟩
  obtain ⟨g, o, h5, h6, h7⟩ := h4 h0
  refine ⟨g, o, h5, h6, fun i hi => ?_⟩
  obtain ⟨a, b, vc, c, d, e, f, k⟩ := h7 i hi
  exact ⟨a, b, vc, hm.cell c (hs g h6), hm.cell d (hs g h6), hm.cell e (hs g h6), hm.cell f (hs g h6), k.mv hm hs⟩
theorem Rts.later {l : List Rt} (h : Rts Q W v l) (hb : Below W.heap.size W W') : Rts Q W' v l := h.mv (Mv.of_below hb (fun _ => False)) (fun _ _ e => e)
end
/-- What a call takes. -/
def parE (fs : List Rt) (a : Int) : Int := if 0 ≤ a ∧ a < fs.length then max ((fs.map Rt.pa).getD a.toNat 0) 0 else 0
def takE (fs : List Rt) (i : Ins) : Int := if i.op = 21 then parE fs i.a else if i.op = 26 ∨ i.op = 28 then (if i.a < 0 then 0 else i.a % 8) else tak (opk i.op)
def putE (i : Ins) : Int := pts (opk i.op)

theorem params_any {Q : Nat → Prop} {W : World} {v : Value} {fs : List Rt} (h : Rts Q W v fs) (a : Int) : Calls Tryz.prog 111 #[.int .i64 a, v] W fun e w' => e = .returned (.int .i64 (parE fs a)) ∧ w' = W := by
  obtain ⟨ao, c, rfl, h2, h3, h4⟩ := h
  unfold maxLen at h3
  unfold parE
  by_cases ha : a < 0
  · rw [if_neg (by omega)]
    clear h4
    go_enter Tryz.func111, Tryz.ntmps111
    go_wp2_with fail
    go_ret
    exact ⟨rfl, rfl⟩
  · by_cases hb : a < fs.length
    · rw [if_pos ⟨by omega, hb⟩]
      obtain ⟨g, o, rfl, -, h5⟩ := h4 (by omega)
      obtain ⟨-, -, vc, -, c1, -⟩ := h5 a.toNat (by omega)
      have e1 : (fs.map Rt.pa).getD a.toNat 0 = (fs[a.toNat]'(by omega)).pa := by
        rw [List.getD_eq_getElem?_getD, List.getElem?_map, List.getElem?_eq_getElem (by omega)]; rfl
      rw [e1]
      clear h4 h5 e1
      generalize (fs[a.toNat]'(by omega)).pa = x at *
      generalize fs.length = n at *
      have h1 : (0 : Int) ≤ a := by omega
      go_enter Tryz.func111, Tryz.ntmps111
      go_wp2_with fail
      all_goals go_ret
      all_goals exact ⟨ret_int (by omega), rfl⟩
    · rw [if_neg (by omega)]
      clear h4
      go_enter Tryz.func111, Tryz.ntmps111
      go_wp2_with fail
      go_ret
      exact ⟨rfl, rfl⟩
theorem ret_ints {k k' : IntKind} {a b a' b' : Int} (h : a = a') (h' : b = b') : Ending.returned (.tuple #[.int k a, .int k' b]) = .returned (.tuple #[.int k a', .int k' b']) := by rw [h, h']
def insV (i : Ins) : Value := .agg #[.int .i64 i.op, .int .i64 i.a]
theorem Rts.drewN {W : World} {Q : Nat → Prop} {v : Value} {l : List Rt} (h : Rts Q W v l) (n : Nat) : Rts Q (W.drewN n) v l := h.later (below_drawn W n)
set_option maxHeartbeats 1000000 in
theorem effect_any {Q : Nat → Prop} {W : World} {v : Value} {fs : List Rt} (h : Rts Q W v fs) (ht : Tb W) (i : Ins) : Calls Tryz.prog 100 #[insV i, v] W fun e w' => e = .returned (.tuple #[.int .i64 (takE fs i), .int .i64 (putE i)]) ∧ Below W.heap.size W w' := by
  obtain ⟨op, a⟩ := i
  obtain ⟨w0, hw0⟩ : ∃ X, X = W.alloc (.cells #[.int .i64 op, .int .i64 a] 28) := ⟨_, rfl⟩
  have B0 : Below W.heap.size W w0 := hw0 ▸ below_alloc W _
  have J1 := hide (row_any op w0 (ht.later B0))
  have n1 : w0.heap[W.heap.size]? = some (.cells #[.int .i64 op, .int .i64 a] 28 (0, 0)) := by rw [hw0]; exact heap_alloc_new W _
  have HW := hide hw0
  have N1 := hide n1
  have HB := hide B0
  have H := hide h
  clear hw0 n1 B0 h ht
  obtain ⟨te, hte⟩ : ∃ t, t = takE fs ⟨op, a⟩ := ⟨_, rfl⟩
  rw [← hte]
  have TE := hide hte
  clear hte
  unfold takE at TE
  unfold putE insV
  dsimp only at TE ⊢
  generalize hk : opk op = k at *
  clear hk
  obtain ⟨B, hB⟩ : ∃ B, B = W.heap.size := ⟨_, rfl⟩
  have EB := hide hB
  rw [← hB] at N1
  have c0 : w0.cell? ⟨B, 0, none⟩ = some (.int .i64 op) := by rw [cell_of_row w0 _ _ _ 28 (0, 0) N1.out]; rfl
  go_enter Tryz.func100, Tryz.ntmps100
  go_upto_region 1 with fail
  rw [← HW.out, ← EB.out]
  clear hB
  go_wp2_with fail
  refine J1.out.mono ?_
  rintro e w1 ⟨rfl, hb1⟩
  have n2 : w1.heap[B]? = some (.cells #[.int .i64 op, .int .i64 a] 28 (0, 0)) := (hb1.block _ (lt_of_block N1.out)).trans N1.out
  unfold rowV
  obtain ⟨w2, hw2⟩ : ∃ X, X = w1.alloc (.cells #[.string (wd k), .bool (numb k), .int .i64 (tak k : Int), .int .i64 (pts k : Int)] 162) := ⟨_, rfl⟩
  obtain ⟨r, hr⟩ : ∃ r, r = w1.heap.size := ⟨_, rfl⟩
  have B2 : Below w1.heap.size w1 w2 := hw2 ▸ below_alloc w1 _
  have n3 : w2.heap[r]? = some (.cells #[.string (wd k), .bool (numb k), .int .i64 (tak k : Int), .int .i64 (pts k : Int)] 162 (0, 0)) := by rw [hw2, hr]; exact heap_alloc_new w1 _
  have n4 := (B2.block _ (lt_of_block n2)).trans n2
  have y0 : w2.cell? ⟨B, 0, none⟩ = some (.int .i64 op) := by rw [cell_of_row w2 _ _ _ 28 (0, 0) n4]; rfl
  have y1 : w2.cell? ⟨B, 1, none⟩ = some (.int .i64 a) := by rw [cell_of_row w2 _ _ _ 28 (0, 0) n4]; rfl
  have y2 : w2.cell? ⟨r, 2, none⟩ = some (.int .i64 (tak k : Int)) := by rw [cell_of_row w2 _ _ _ 162 (0, 0) n3]; rfl
  have y3 : w2.cell? ⟨r, 3, none⟩ = some (.int .i64 (pts k : Int)) := by rw [cell_of_row w2 _ _ _ 162 (0, 0) n3]; rfl
  have HF := hide (below_on HB.out (below_on hb1 B2))
  have H2 := hide (H.out.later (below_on HB.out (below_on hb1 B2)))
  have K1 := hide (fun n => params_any (H2.out.drewN n) a)
  have K2 := hide (fun n => values_any a (w2.drewN n))
  have HW2 := hide hw2
  have HR := hide hr
  clear hb1 n2 n3 n4 c0 J1 B2 N1
  go_upto_region 2 with fail
  rw [← hw2, ← hr]
  clear hw2 hr
  by_cases h21 : op = 21
  · subst h21
    go_upto_region 4 with fail
    go_quiet (exact Calls.quiet_of_same (K1.out _))
    obtain rfl : te = parE fs a := by rw [TE.out]; simp
    go_wp2_with fail
    go_ret2
    exact ⟨rfl, HF.out.trans ((below_drawn w2 nq).mono HF.out.size)⟩
  · have t21 : (op == 21) = false := by simp [h21]
    by_cases h26 : op = 26
    · subst h26
      go_upto_region 7 with fail
      go_quiet (exact Calls.quiet_of_same (K2.out _))
      have E : Hid (te = if a < 0 then 0 else a % 8) := by unfold Hid; rw [TE.out]; simp
      clear K1 K2
      go_wp2_with fail
      all_goals go_ret2
      · exact ⟨ret_ints (by rw [E.out, if_pos (by assumption)]) rfl, HF.out.trans ((below_drawn w2 nq).mono HF.out.size)⟩
      · exact ⟨ret_ints (by rw [E.out, if_neg (by omega)]) rfl, HF.out.trans ((below_drawn w2 nq).mono HF.out.size)⟩
    · have t26 : (op == 26) = false := by simp [h26]
      by_cases h28 : op = 28
      · subst h28
        go_upto_region 7 with fail
        go_quiet (exact Calls.quiet_of_same (K2.out _))
        have E : Hid (te = if a < 0 then 0 else a % 8) := by unfold Hid; rw [TE.out]; simp
        clear K1 K2
        go_wp2_with fail
        all_goals go_ret2
        · exact ⟨ret_ints (by rw [E.out, if_pos (by assumption)]) rfl, HF.out.trans ((below_drawn w2 nq).mono HF.out.size)⟩
        · exact ⟨ret_ints (by rw [E.out, if_neg (by omega)]) rfl, HF.out.trans ((below_drawn w2 nq).mono HF.out.size)⟩
      · have t28 : (op == 28) = false := by simp [h28]
        obtain rfl : te = (tak k : Int) := by rw [TE.out]; simp [h21, h26, h28]
        clear h21 h26 h28
        go_upto_region 8 with fail
        go_quiet (fail)
        go_wp2_with fail
        go_ret2
        exact ⟨rfl, HF.out.trans ((below_drawn w2 nq).mono HF.out.size)⟩
end Go.Proofs.YtfkhhplcogedmaaGreatDoor

/-
  isInstr, isRoutine, mayBeListed.
-/
namespace Go.Proofs.YtfkhhplcogedmaaGreatDoor
open Go.RowKit
set_option maxRecDepth 100000
set_option maxHeartbeats 1000000 in
theorem isinstr_any (i : Ins) (W : World) (ht : Tb W) : Calls Tryz.prog 89 #[insV i] W fun e w' => e = .returned (.bool (isIns i)) ∧ Below W.heap.size W w' := by
  obtain ⟨op, a⟩ := i
  obtain ⟨w0, hw0⟩ : ∃ X, X = W.alloc (.cells #[.int .i64 op, .int .i64 a] 28) := ⟨_, rfl⟩
  have B0 : Below W.heap.size W w0 := hw0 ▸ below_alloc W _
  have J1 := hide (fun w => isop_any op w)
  have J2 := hide (row_any op w0 (ht.later B0))
  have n1 : w0.heap[W.heap.size]? = some (.cells #[.int .i64 op, .int .i64 a] 28 (0, 0)) := by rw [hw0]; exact heap_alloc_new W _
  obtain ⟨B, hB⟩ : ∃ B, B = W.heap.size := ⟨_, rfl⟩
  rw [← hB] at n1
  have c0 : w0.cell? ⟨B, 0, none⟩ = some (.int .i64 op) := by rw [cell_of_row w0 _ _ _ 28 (0, 0) n1]; rfl
  have c1 : w0.cell? ⟨B, 1, none⟩ = some (.int .i64 a) := by rw [cell_of_row w0 _ _ _ 28 (0, 0) n1]; rfl
  obtain ⟨te, hte⟩ : ∃ t, t = isIns ⟨op, a⟩ := ⟨_, rfl⟩
  rw [← hte]
  have TE := hide hte
  have HW := hide hw0
  have HB := hide B0
  have EB := hide hB
  clear hte n1 B0 ht
  unfold isIns at TE
  unfold insV
  dsimp only at TE ⊢
  have f1 := fldR1 (opk op)
  by_cases h1 : 1 ≤ op ∧ op ≤ 39
  · rw [show decide (1 ≤ op ∧ op ≤ 39) = true by simp [h1]] at J1 TE
    by_cases h2 : a = 0
    · subst h2
      obtain rfl : te = true := by rw [TE.out]; simp
      clear h1
      go_enter Tryz.func89, Tryz.ntmps89
      go_upto_region 1 with fail
      rw [← hw0, ← hB]
      clear hw0 hB
      go_wp2_with (go_at_call 107; refine (J1.out _).mono ?_; rintro e w' ⟨rfl, rfl⟩)
      go_ret
      exact ⟨rfl, HB.out⟩
    · have t2 : (a == 0) = false := by simp [h2]
      obtain rfl : te = numb (opk op) := by rw [TE.out, t2]; simp
      clear h1 h2
      generalize opk op = k at *
      go_enter Tryz.func89, Tryz.ntmps89
      go_upto_region 1 with fail
      rw [← hw0, ← hB]
      clear hw0 hB
      unfold rowV at J2
      go_wp2_with (first | (go_at_call 107; refine (J1.out _).mono ?_; rintro e w' ⟨rfl, rfl⟩) | (go_at_call 91; refine J2.out.mono ?_; rintro e w' ⟨rfl, hb⟩))
      go_ret
      exact ⟨rfl, below_on HB.out hb⟩
  · rw [show decide (1 ≤ op ∧ op ≤ 39) = false by simp; omega] at J1 TE
    obtain rfl : te = false := by rw [TE.out]; simp
    clear h1
    go_enter Tryz.func89, Tryz.ntmps89
    go_upto_region 1 with fail
    rw [← hw0, ← hB]
    clear hw0 hB
    go_wp2_with (go_at_call 107; refine (J1.out _).mono ?_; rintro e w' ⟨rfl, rfl⟩)
    go_ret
    exact ⟨rfl, HB.out⟩
end Go.Proofs.YtfkhhplcogedmaaGreatDoor

/-
  isRoutine, mayBeListed.
-/
namespace Go.Proofs.YtfkhhplcogedmaaGreatDoor
open Go.RowKit
set_option maxRecDepth 100000
def rtV (r : Rt) (vc : Value) : Value := .agg #[.string r.name, .int .i64 r.pa, .int .i64 r.lo, vc]
theorem toList_len (s : ByteArray) : s.toList.length = s.size := by
  rw [ByteArray.toList_eq, Array.length_toList]; rfl
theorem toList_nil {s : ByteArray} (h : s.size = 0) : s.toList = [] := List.eq_nil_of_length_eq_zero ((toList_len s).trans h)
theorem toList_ne {s : ByteArray} (h : s.size ≠ 0) : ¬ s.toList = [] := fun e => h ((toList_len s).symm.trans (by rw [e]; rfl))
theorem empty_no {s : ByteArray} (h : s.size ≠ 0) : s.toList.isEmpty = false := by
  cases hl : s.toList with
  | nil => exact absurd hl (toList_ne h)
  | cons x l => rfl
theorem empty_yes {s : ByteArray} (h : s.size = 0) : s.toList.isEmpty = true := by rw [toList_nil h]; rfl
theorem Il.at {Q : Nat → Prop} {W : World} {v : Value} {l : List Ins} (h : Il Q W v l) : ∃ ao c, v = .slice ao l.length c ∧ l.length ≤ c ∧ c ≤ 9223372036854775807 := by
  obtain ⟨ao, c, h1, h2, h3, -⟩ := h
  exact ⟨ao, c, h1, h2, by unfold maxLen at h3; omega⟩
theorem Il.nth {Q : Nat → Prop} {W : World} {n c : Nat} {ao : Option Addr} {l : List Ins} (h : Il Q W (.slice ao n c) l) {k : Nat} (hk : k < l.length) : ∃ g o, ao = some ⟨g, o, none⟩ ∧ Q g ∧ W.cell? ⟨g, o + k * 2, none⟩ = some (.int .i64 l[k].op) ∧ W.cell? ⟨g, o + k * 2 + 1, none⟩ = some (.int .i64 l[k].a) ∧ I6 l[k].op ∧ I6 l[k].a := by
  obtain ⟨ao', c', e, h2, h3, h4⟩ := h
  injection e with e1 e2 e3
  subst e1 e3
  obtain ⟨g, o, rfl, hq, h5⟩ := h4 (by omega)
  obtain ⟨a, b, c, d⟩ := h5 k hk
  exact ⟨g, o, rfl, hq, c, d, a, b⟩
set_option maxHeartbeats 2000000 in
theorem isroutine_at {Q : Nat → Prop} {W : World} {n c : Nat} {ao : Option Addr} (nm : ByteArray) (pa lo : Int) (code : List Ins) (hn : n = code.length) (hc1 : n ≤ c) (hc2 : c ≤ 9223372036854775807) (h : Il Q W (.slice ao n c) code) (ht : Tb W) : Calls Tryz.prog 68 #[.agg #[.string nm, .int .i64 pa, .int .i64 lo, .slice ao n c]] W fun e w' => e = .returned (.bool (rtOk ⟨nm, pa, lo, code⟩)) ∧ Below W.heap.size W w' := by
  obtain ⟨w0, hw0⟩ : ∃ X, X = W.alloc (.cells #[.string nm, .int .i64 pa, .int .i64 lo, .slice ao n c] 35) := ⟨_, rfl⟩
  have B0 : Below W.heap.size W w0 := hw0 ▸ below_alloc W _
  have n1 : w0.heap[W.heap.size]? = some (.cells #[.string nm, .int .i64 pa, .int .i64 lo, .slice ao n c] 35 (0, 0)) := by rw [hw0]; exact heap_alloc_new W _
  obtain ⟨B, hB⟩ : ∃ B, B = W.heap.size := ⟨_, rfl⟩
  rw [← hB] at n1
  have c0 : w0.cell? ⟨B, 0, none⟩ = some (.string nm) := by rw [cell_of_row w0 _ _ _ 35 (0, 0) n1]; rfl
  have c1 : w0.cell? ⟨B, 1, none⟩ = some (.int .i64 pa) := by rw [cell_of_row w0 _ _ _ 35 (0, 0) n1]; rfl
  have c2 : w0.cell? ⟨B, 2, none⟩ = some (.int .i64 lo) := by rw [cell_of_row w0 _ _ _ 35 (0, 0) n1]; rfl
  have c3 : w0.cell? ⟨B, 3, none⟩ = some (.slice ao n c) := by rw [cell_of_row w0 _ _ _ 35 (0, 0) n1]; rfl
  obtain ⟨te, hte⟩ : ∃ t, t = rtOk ⟨nm, pa, lo, code⟩ := ⟨_, rfl⟩
  rw [← hte]
  have TE := hide hte
  have HW := hide hw0
  have HB := hide B0
  have EB := hide hB
  have H := hide h
  have HT := hide ht
  have HN := hide hn
  clear hte n1 B0 ht h hn
  unfold rtOk at TE
  dsimp only at TE
  rw [← HN.out] at TE
  obtain ⟨b1, hb1⟩ : ∃ b, b = decide (1 ≤ nm.size ∧ nm.size ≤ 16) := ⟨_, rfl⟩
  obtain ⟨b2, hb2⟩ : ∃ b, b = decide (0 ≤ pa ∧ pa ≤ 4) := ⟨_, rfl⟩
  obtain ⟨b3, hb3⟩ : ∃ b, b = decide (pa ≤ lo ∧ lo ≤ 32) := ⟨_, rfl⟩
  rw [← hb1, ← hb2, ← hb3] at TE
  have E1 := hide hb1
  have E2 := hide hb2
  have E3 := hide hb3
  clear hb1 hb2 hb3
  go_enter Tryz.func68, Tryz.ntmps68
  go_upto_region 1 with fail
  rw [← hw0, ← hB]
  clear hw0 hB
  go_cut [3] (fun v wx => v = .bool b1 ∧ w0 = wx)
  case first =>
    by_cases h1 : nm.size = 0
    · have nn := empty_yes h1
      have nz := toList_nil h1
      go_wp2_with fail
      go_meet
      refine ⟨?_, rfl⟩
      rw [E1.out]
      congr 1
      symm
      rw [decide_eq_false_iff_not]
      omega
    · have nn := empty_no h1
      have nz := toList_ne h1
      go_wp2_with fail
      go_meet
      refine ⟨?_, rfl⟩
      rw [E1.out]
      congr 1
      rw [decide_eq_decide]
      omega
  obtain ⟨rfl, rfl⟩ := hcut
  go_upto_region 2 with fail
  go_cut [4] (fun v wx => v = .bool b2 ∧ w0 = wx)
  case first =>
    go_wp2_with fail
    all_goals go_meet
    all_goals refine ⟨?_, rfl⟩
    all_goals rw [E2.out]
    all_goals congr 1
    all_goals first | (rw [decide_eq_decide]; omega) | (symm; rw [decide_eq_false_iff_not]; omega)
  obtain ⟨rfl, rfl⟩ := hcut
  go_upto_region 3 with fail
  go_cut [5] (fun v wx => v = .bool b3 ∧ w0 = wx)
  case first =>
    go_wp2_with fail
    all_goals go_meet
    all_goals refine ⟨?_, rfl⟩
    all_goals rw [E3.out]
    all_goals congr 1
    all_goals first | (rw [decide_eq_decide]; omega) | (symm; rw [decide_eq_false_iff_not]; omega)
  obtain ⟨rfl, rfl⟩ := hcut
  go_upto_region 4 with fail
  go_cut [50] (fun v wx => v = .bool (!(b1 && b2 && b3 && decide (n ≤ 2000))) ∧ w0 = wx)
  case first =>
    cases b1 <;> cases b2 <;> cases b3
    all_goals go_wp2_with fail
    all_goals go_meet
    all_goals refine ⟨?_, rfl⟩
    all_goals first | rfl | (show Value.bool _ = Value.bool _; congr 1; simp; done) | skip
    show Value.bool _ = Value.bool _
    congr 1
    simp only [Bool.true_and]
    rw [← decide_not, decide_eq_decide]
    omega
  obtain ⟨rfl, rfl⟩ := hcut
  obtain ⟨bb, hbb⟩ : ∃ b, b = (b1 && b2 && b3 && decide (n ≤ 2000)) := ⟨_, rfl⟩
  rw [← hbb] at TE ⊢
  clear hbb
  cases bb with
  | false =>
    obtain rfl : te = false := by rw [TE.out]; rfl
    go_wp2_with fail
    go_ret
    exact ⟨rfl, HB.out⟩
  | true =>
    rw [Bool.true_and] at TE
    rw [Bool.not_true]
    go_wp2_with fail
    go_loopw [54] (fun v wr => ∃ k : Nat, v = .int .i64 (k : Int) ∧ k ≤ n ∧ Hid (Below W.heap.size W wr) ∧ Hid ((code.take k).all isIns = true)) (fun v _ => n - (intOf v).toNat)
    case atStart => exact ⟨0, rfl, by omega, HB.out, rfl⟩
    case round =>
      obtain ⟨k, rfl, hk, hb, ha⟩ := hrel
      by_cases hlt : k < n
      · have hlt' : k < code.length := by rw [← HN.out]; exact hlt
        obtain ⟨g, o, rfl, -, d0, d1, -, -⟩ := (H.out.later hb.out).nth hlt'
        have g1 := World.block_lt_of_cell? wr _ d0
        have J := hide (isinstr_any code[k] (wr.alloc (.cells #[.int .i64 code[k].op, .int .i64 code[k].a] 28)) ((HT.out.later hb.out).later (below_alloc wr _)))
        have E4 : Hid ((code.take (k + 1)).all isIns = isIns code[k]) := by
          unfold Hid
          rw [List.take_add_one, List.getElem?_eq_getElem hlt', List.all_append, ha.out]
          simp
        have E5 : Hid (isIns code[k] = false → code.all isIns = false) := fun h => by
          rw [List.all_eq_false]
          exact ⟨code[k], List.getElem_mem _, by rw [h]; simp⟩
        unfold insV at J
        have hw := below_alloc wr (.cells #[.int .i64 code[k].op, .int .i64 code[k].a] 28)
        have HX := hide (below_on hb.out hw)
        clear hw
        generalize isIns code[k] = q at *
        generalize code[k] = x at *
        cases q with
        | false =>
          obtain rfl : te = false := by rw [TE.out]; exact E5.out rfl
          go_wp2_with fail
          refine J.out.mono ?_
          rintro e w2 ⟨rfl, hb2⟩
          go_wp2_with fail
          go_ret
          exact ⟨rfl, below_on HX.out hb2⟩
        | true =>
          go_wp2_with fail
          refine J.out.mono ?_
          rintro e w2 ⟨rfl, hb2⟩
          have HB2 := hide hb2
          clear hb2
          go_wp2_with fail
          go_roundw
          case rel => exact ⟨k + 1, by go_num, by omega, below_on HX.out HB2.out, E4.out⟩
          case measure => simp [intOf]; omega
      · obtain rfl : k = n := by omega
        obtain rfl : te = true := by
          rw [TE.out]
          have := ha.out
          rw [HN.out, List.take_length] at this
          exact this
        go_wp2_with fail
        go_ret
        exact ⟨rfl, hb.out⟩
theorem isroutine_any {Q : Nat → Prop} {W : World} {vc : Value} (r : Rt) (h : Il Q W vc r.code) (ht : Tb W) : Calls Tryz.prog 68 #[rtV r vc] W fun e w' => e = .returned (.bool (rtOk r)) ∧ Below W.heap.size W w' := by
  obtain ⟨ao, c, rfl, hc1, hc2⟩ := h.at
  exact isroutine_at r.name r.pa r.lo r.code rfl hc1 hc2 h ht
end Go.Proofs.YtfkhhplcogedmaaGreatDoor
