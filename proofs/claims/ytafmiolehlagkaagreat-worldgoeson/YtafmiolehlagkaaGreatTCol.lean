/-
  slices.Clone; Column; Row.
-/
import Derived.Test.YtafmiolehlagkaaGreatTAsk
import Derived.Lib.SliceRun
import Derived.Laws.ResultCell
namespace Go.Proofs.YtafmiolehlagkaaGreat
open Go.RowKit
set_option maxRecDepth 100000
theorem zc_one (l : List Int) : ∀ u ∈ zc l, u.oneCell' = true := by
  intro u hu
  simp only [zc, List.mem_map] at hu
  obtain ⟨b, _, rfl⟩ := hu
  rfl
set_option maxHeartbeats 1000000 in
theorem clone_any (v : Value) (n : Nat) (l : List Int) (w : World) (h : w.ownsRow 0 2 1 v n (zc l)) (hn : n ≤ 1000000) :
    Calls Tryz.prog 140 #[v] w fun e w' => ∃ v', e = .returned v' ∧ w'.ownsRow w.heap.size 2 1 v' n (zc l) ∧ Below w.heap.size w w' := by
  obtain ⟨i0, hi, hz0, hz1, hz2⟩ := info_parts info2
  have hl : n = l.length := by have := h.1; rw [zc_len] at this; omega
  have q27 : ∀ (w : World) (a : Option Addr) (n c n' c' : Nat), (binOp .eql 30 (.slice a n c) (.slice none n' c')).run Tryz.prog w = .ok (.bool a.isNone) w := fun w a n c n' c' => Lib.run_eql_slice_nil w _ _ a n c n' c' Tryz.underlying30
  subst hl
  rcases h.2 with ⟨rfl, hl⟩ | ⟨g, cap, cur, rfl, -, hg, h1, h2, hcs, htake⟩
  · obtain rfl : l = [] := List.eq_nil_of_length_eq_zero (by omega)
    clear h hl
    go_enter Tryz.func140, Tryz.ntmps140
    go_wp2_with fail
    go_ret
    exact ⟨_, rfl, World.ownsRow_nil _ _ _ _, Below.refl _ _⟩
  · have H := hide h
    clear h hg hcs htake
    go_enter Tryz.func140, Tryz.ntmps140
    go_wp2_with (at_builtin; refine wpList_append_own_at _ rfl _ _ 30 rfl w.heap.size 2 i0 (.int .i64 0) 1 8 Tryz.underlying30 hi hz0 hz1 hz2 rfl (by decide) _ 0 [] rfl (World.ownsRow_lit w #[] 0 (Nat.le_refl _) (Nat.zero_le _) rfl) ⟨g, 0, none⟩ l.length cap (zc l) rfl (by rw [zc_len]; omega) ?c1 (zc_one l) (by unfold maxLen; omega) (by omega) (by simp) ?_)
    case c1 => exact (H.out.alloc _).cells rfl
    intro v' w' ho hg _ _
    obtain ⟨ao, c, rfl⟩ := own_len ho
    have HO := hide ho
    have HG := hide hg
    clear ho hg
    go_wp2_with fail
    go_ret
    refine ⟨_, rfl, ?_, (below_alloc w _).grown HG.out (by simp) (fun k e => ?_)⟩
    · have := HO.out
      simpa using this
    · simp [Value.ownBlock] at e
      omega
theorem results_cell2 {fn : Func} {p u v : Tmp} {ty : TypeId} (h : fn.results = #[.cell p ty, .tmp u, .tmp v]) (tmps : Array Value) (P : Program) (w : World) :
    (results fn tmps).run P w =
      ((asAddr (tmps.getD p undef)).run P w).andThen fun a w₁ => ((loadVar ty a).run P w₁).andThen fun x w₂ => .ok (.tuple #[x, tmps.getD u undef, tmps.getD v undef]) w₂ := by
  simp only [results, h]
  simp [Sem.run_bind, Result.andThen]
theorem row_bad {w : World} {S : Nat → Prop} {g n : Nat} {rows : List (Int × Int)} {cols : List (List Int)} (h : Tb w S g n rows cols) (x : Int) (hx : ¬ (0 ≤ x ∧ x < (rows.length : Int))) : Calls Tryz.prog 149 #[.pointer (some ⟨g, 0, none⟩), .int .i64 x] w fun e w' => e = .returned (.tuple #[.agg #[.int .i64 0, .int .i64 0], .slice none 0 0, .int .i64 50]) ∧ Below w.heap.size w w' := by
  have J : Hid (∀ W, Below w.heap.size w W → Calls Tryz.prog 183 #[.pointer (some ⟨g, 0, none⟩), .int .i64 x] W fun e w' => e = .returned (.bool false) ∧ w' = W) := fun W hb => by
    have := hasrow_any (h.later hb) x
    rw [decide_eq_false hx] at this
    exact this
  go_enter Tryz.func149, Tryz.ntmps149
  go_wp2_with fail
  refine (J.out _ (below_alloc w _)).mono ?_
  rintro e w1 ⟨rfl, rfl⟩
  go_wp2_with fail
  (try simp only [Exit.inBlock, Exit.then])
  refine bodyPost_ret (v := .tuple #[.agg #[.int .i64 0, .int .i64 0], .slice none 0 0, .int .i64 50]) ?_ rfl ⟨rfl, below_alloc w _⟩
  rw [results_cell2 rfl]
  go_simp
/-- A row's numbers. -/
def rowOf (cols : List (List Int)) (i : Nat) : List Int := cols.map fun c => c.getD i 0
theorem rowOf_len (cols : List (List Int)) (i : Nat) : (rowOf cols i).length = cols.length := by simp [rowOf]
theorem rowOf_at (cols : List (List Int)) (i j : Nat) (hj : j < cols.length) (hi : i < cols[j].length) : (rowOf cols i)[j]'(by rw [rowOf_len]; exact hj) = cols[j][i] := by
  simp [rowOf, hi]
theorem fill_set (R : List Int) (k j : Nat) (x : Int) (hk : R.length = k) (hj : j < k) (hx : R[j]? = some x) : (R.take j ++ List.replicate (k - j) 0).set j x = R.take (j + 1) ++ List.replicate (k - (j + 1)) 0 := by
  have hl : (R.take j).length = j := by rw [List.length_take]; omega
  have e : k - j = (k - (j + 1)) + 1 := by omega
  rw [List.set_append_right _ _ (by omega), hl, Nat.sub_self, e, List.replicate_succ, List.set_cons_zero, List.take_add_one, hx]
  simp
theorem fill_at (R : List Int) (k j : Nat) (hk : R.length = k) (hj : j < k) : (zc (R.take j ++ List.replicate (k - j) 0))[j]? = some (.int .i64 0) := by
  have hl : (R.take j).length = j := by rw [List.length_take]; omega
  have : (R.take j ++ List.replicate (k - j) 0)[j]? = some 0 := by
    rw [List.getElem?_append_right (by omega), hl, Nat.sub_self, List.getElem?_replicate, if_pos (by omega)]
  rw [zc, List.getElem?_map, this]
  rfl
set_option maxHeartbeats 4000000 in
theorem row_any {w : World} {S : Nat → Prop} {g n : Nat} {rows : List (Int × Int)} {cols : List (List Int)} (h : Tb w S g n rows cols) (i : Nat) (hi : i < rows.length) : Calls Tryz.prog 149 #[.pointer (some ⟨g, 0, none⟩), .int .i64 (i : Int)] w fun e w' => ∃ v, e = .returned (.tuple #[.agg #[.int .i64 rows[i].1, .int .i64 rows[i].2], v, .int .i64 0]) ∧ w'.ownsRow w.heap.size 2 1 v cols.length (zc (rowOf cols i)) ∧ Below w.heap.size w w' := by
  have J : Hid (∀ W, Below w.heap.size w W → Calls Tryz.prog 183 #[.pointer (some ⟨g, 0, none⟩), .int .i64 (i : Int)] W fun e w' => e = .returned (.bool true) ∧ w' = W) := fun W hb => by
    have := hasrow_any (h.later hb) (i : Int)
    rw [decide_eq_true ⟨by omega, by omega⟩] at this
    exact this
  obtain ⟨lab, vr, gm, vc, cs, f, hm, hix, hcl, -, -, hr2, hc48⟩ := h
  have HM := hide hm
  have HCL := hide hcl
  have hcs := hm.2.2.2.2.1
  obtain ⟨i0, hi0, hz0, hz1, hz2⟩ := info_parts info2
  obtain ⟨ar, cr, rfl⟩ := own_len hm.2.1
  obtain ⟨ac, cc, rfl⟩ := own_len hm.2.2.2.1
  have CC : Hid (∀ W, Below w.heap.size w W → W.cell? ⟨g, 0, none⟩ = some (.slice ar rows.length cr) ∧ W.cell? ⟨g, 2, none⟩ = some (.slice ac cs.length cc)) := fun W hb => ⟨(HM.out.later hb).cell.1, (HM.out.later hb).cell.2.2⟩
  clear hm hcl hix
  have c2 : ∀ o, (w.alloc o).cell? ⟨g, 2, none⟩ = some (.slice ac cs.length cc) := fun o => (CC.out _ (below_alloc w o)).2
  go_enter Tryz.func149, Tryz.ntmps149
  go_wp2_with fail
  refine (J.out _ (below_alloc w _)).mono ?_
  rintro e w1 ⟨rfl, rfl⟩
  go_wp2_with (at_make; refine wpList_make_full _ rfl _ _ 30 rfl w.heap.size 2 i0 (.int .i64 0) 1 Tryz.underlying30 hi0 hz0 hz1 .i64 .i64 _ _ cs.length rfl rfl ?c1 ?c2 ?c3 ?c4 ?c5 ?_)
  case c1 => omega
  case c2 => omega
  case c3 => rw [hz2]; omega
  case c4 => unfold maxLen; omega
  case c5 => simp
  intro w1 hown hgrow
  rw [toList_madeCells_one] at hown
  obtain ⟨wb, hwb⟩ : ∃ X, X = w.alloc (.cells #[.int .i64 0, .int .i64 0] 29) := ⟨_, rfl⟩
  rw [← hwb] at hgrow
  have Bb : Below w.heap.size w wb := hwb ▸ below_alloc w _
  have hsb : wb.heap.size = w.heap.size + 1 := by rw [hwb]; simp
  have hbx : wb.heap[w.heap.size]? = some (.cells #[.int .i64 0, .int .i64 0] 29 (0, 0)) := hwb ▸ heap_alloc_new w _
  have B1 : Below wb.heap.size wb w1 := (Below.refl _ _).grown hgrow (Nat.le_refl _) (by intro k hk; cases hk)
  obtain ⟨ko, hko⟩ : ∃ k, k = w.heap.size + 1 := ⟨_, rfl⟩
  obtain ⟨kb, hkb⟩ : ∃ k, k = w.heap.size := ⟨_, rfl⟩
  have HSB : Hid (wb.heap.size ≤ ko ∧ w.heap.size ≤ ko ∧ kb < wb.heap.size ∧ w.heap.size = kb) := by refine ⟨?_, ?_, ?_, ?_⟩ <;> omega
  rw [← hko] at hown
  rw [← hkb] at hbx
  rw [← hko, ← hkb]
  have HO : Hid (w1.ownsRow w.heap.size 2 1 (.slice (some ⟨ko, 0, none⟩) cols.length cols.length) cols.length (zc ((rowOf cols i).take 0 ++ List.replicate (cols.length - 0) 0))) := by
    have e : zc ((rowOf cols i).take 0 ++ List.replicate (cols.length - 0) 0) = List.replicate cols.length (.int .i64 0) := by simp [zc]
    rw [e]
    exact hown
  have HBX := hide hbx
  have CB : Hid (∀ W, Below wb.heap.size wb W → Below w.heap.size w W) := fun W hb => below_on Bb hb
  obtain ⟨d0, d2⟩ := CC.out w1 (below_on Bb B1)
  clear hown hgrow hwb hsb hko hkb hbx c2
  go_upto_block 0 with fail
  clear d0 d2
  go_wp2_with fail
  go_loopw [26] (fun v26 W => ∃ j : Nat, j ≤ cols.length ∧ v26 = .int .i64 (j : Int) ∧ Hid (W.ownsRow w.heap.size 2 1 (.slice (some ⟨ko, 0, none⟩) cols.length cols.length) cols.length (zc ((rowOf cols i).take j ++ List.replicate (cols.length - j) 0))) ∧ Hid (Below wb.heap.size wb W)) (fun v26 _ => cols.length - (intOf v26).toNat)
  case atStart => exact ⟨0, Nat.zero_le _, rfl, HO, B1⟩
  case round =>
    obtain ⟨j, hjl, rfl, HR, HB⟩ := hrel
    by_cases hj : j < cols.length
    · have t1 : (j : Int) < (cols.length : Int) := by omega
      have hmw := HM.out.later (CB.out _ HB.out)
      obtain ⟨gc, cc', ec, -, -⟩ := own_form hmw.2.2.2.1 (by omega)
      simp only [Value.slice.injEq] at ec
      obtain ⟨rfl, -, rfl⟩ := ec
      have e1 := own_slices hmw.2.2.2.1 j (by omega)
      have hrow := hmw.2.2.2.2.2.1 j (by omega) hj
      have hlen : cols[j].length = rows.length := HCL.out _ (List.getElem_mem hj)
      rw [hlen] at hrow
      obtain ⟨gj, cj, hv, -, -⟩ := own_form hrow (by omega)
      rw [hv] at e1 hrow
      have e2 := own_num hrow i (by omega)
      have eo : wr.cell? ⟨ko, j, none⟩ = some (.int .i64 0) := by
        rw [HR.out.cellAt j (by omega)]
        exact fill_at _ _ _ (rowOf_len _ _) hj
      have ef := HR.out.frozenAt j
      have hx : (rowOf cols i)[j]? = some (cols[j][i]'(by omega)) := by
        rw [List.getElem?_eq_getElem (by rw [rowOf_len]; exact hj), rowOf_at cols i j hj (by omega)]
      have hst := (HR.out.stored j (.int .i64 (cols[j][i]'(by omega)))).1
      rw [zc_set, fill_set _ _ _ _ (rowOf_len _ _) hj hx] at hst
      generalize cols[j][i]'(by omega) = x at *
      have HST := hide hst
      have ti : (i : Int) < (rows.length : Int) := by omega
      clear hst hrow hmw hv hlen hx
      go_wp2_with fail
      go_roundw
      case rel => exact ⟨j + 1, by omega, by go_num, HST, (HB.out.trans (Mv.below (S := fun q => q = ko) (Mv.set (S := fun q => q = ko) (Mv.refl _ _) rfl _ _) HB.out.size (fun k e => by have := HSB.out.1; omega)))⟩
      case measure => simp [intOf]; omega
    · obtain rfl : j = cols.length := by omega
      have t1 : ¬ (cols.length : Int) < (cols.length : Int) := by omega
      have hmw := HM.out.later (CB.out _ HB.out)
      obtain ⟨d0, d2⟩ := CC.out wr (CB.out _ HB.out)
      obtain ⟨gr, cr', er, -, -⟩ := own_form hmw.2.1 (by omega)
      simp only [Value.slice.injEq] at er
      obtain ⟨rfl, -, rfl⟩ := er
      obtain ⟨e1, e2⟩ := own_ent hmw.2.1 i hi
      have hbx : wr.heap[kb]? = some (.cells #[.int .i64 0, .int .i64 0] 29 (0, 0)) := (HB.out.block kb HSB.out.2.2.1).trans HBX.out
      have x0 : wr.cell? ⟨kb, 0, none⟩ = some (.int .i64 0) := by rw [cell_of_row wr kb _ _ 29 (0, 0) hbx]; rfl
      have x1 : wr.cell? ⟨kb, 1, none⟩ = some (.int .i64 0) := by rw [cell_of_row wr kb _ _ 29 (0, 0) hbx]; rfl
      have y0 := frozen_of_row wr kb 0 _ 29 hbx
      have y1 := frozen_of_row wr kb 1 _ 29 hbx
      have hfin : (zc ((rowOf cols i).take cols.length ++ List.replicate (cols.length - cols.length) 0)) = zc (rowOf cols i) := by
        rw [List.take_of_length_le (by rw [rowOf_len]; exact Nat.le_refl _)]
        simp
      have hr := HR.out
      rw [hfin] at hr
      have HRF := hide hr
      have HCB := hide (CB.out _ HB.out)
      have ti : (i : Int) < (rows.length : Int) := by omega
      obtain ⟨r1, hr1⟩ : ∃ r, r = rows[i].1 := ⟨_, rfl⟩
      obtain ⟨r2, hr2'⟩ : ∃ r, r = rows[i].2 := ⟨_, rfl⟩
      rw [← hr1] at e1
      rw [← hr2'] at e2
      have HR1 := hide hr1
      have HR2 := hide hr2'
      clear hr1 hr2'
      clear hr hmw hbx HR hfin
      go_wp2_with fail
      (try simp only [Exit.inBlock, Exit.then])
      have hko := HSB.out
      have hm : Mv wr ((wr.setCell ⟨kb, 0, none⟩ (.int .i64 r1)).setCell ⟨kb, 1, none⟩ (.int .i64 r2)) (fun q => q = kb) := Mv.set (S := fun q => q = kb) (Mv.set (S := fun q => q = kb) (Mv.refl _ _) rfl _ _) rfl _ _
      refine bodyPost_ret (v := .tuple #[.agg #[.int .i64 r1, .int .i64 r2], .slice (some ⟨ko, 0, none⟩) cols.length cols.length, .int .i64 0]) ?_ rfl ⟨_, by rw [HR1.out, HR2.out], hm.own HRF.out (fun k e e' => ?_), HCB.out.trans (hm.below HCB.out.size (fun k e => by omega))⟩
      · rw [results_cell2 rfl]
        go_simp
      · simp only [Value.ownBlock, Option.some.injEq] at e
        omega
end Go.Proofs.YtafmiolehlagkaaGreat
