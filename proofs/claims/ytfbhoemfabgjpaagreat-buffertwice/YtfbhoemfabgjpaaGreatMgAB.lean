import Derived.Test.YtfbhoemfabgjpaaGreatMgAA
import Derived.Lib.SliceRun
import Derived.Laws.ResultCell
/-
  New, Find, Len, and what is asked of a place.
-/
namespace Go.Proofs.YtfbhoemfabgjpaaGreat
open Go.RowKit
set_option maxRecDepth 100000
theorem new_bad (x : Int) (w : World) (h : x < 0 ∨ x > 48) : Calls Tryz.prog 91 #[.int .i64 x] w fun e w' => e = .returned (.tuple #[.pointer none, .int .i64 1]) ∧ w' = w := by
  go_enter Tryz.func91, Tryz.ntmps91
  by_cases h1 : x < 0
  · go_wp2_with fail
    go_ret2
    exact ⟨rfl, rfl⟩
  · have h2 : x > 48 := by omega
    go_wp2_with fail
    go_ret2
    exact ⟨rfl, rfl⟩
theorem new_any (k : Nat) (w : World) (h : k ≤ 48) : Calls Tryz.prog 91 #[.int .i64 (k : Int)] w fun e w' => ∃ g, e = .returned (.tuple #[.pointer (some ⟨g, 0, none⟩), .int .i64 0]) ∧ Tb w' (fun q => w.heap.size ≤ q) g 0 [] (List.replicate k []) ∧ Below w.heap.size w w' := by
  have t1 : ¬ (k : Int) < 0 := by omega
  have t2 : ¬ (k : Int) > 48 := by omega
  have hmm := @run_makeMap Tryz.prog
  obtain ⟨i0, hi, hz0, hz1, hz2⟩ := info_parts info27
  go_enter Tryz.func91, Tryz.ntmps91
  go_wp2_with (at_make; refine wpList_make_full _ rfl _ _ 106 rfl w.heap.size 35 i0 (.slice none 0 0) 1 Tryz.underlying106 hi hz0 hz1 .i64 .i64 _ _ k rfl rfl ?c1 ?c2 ?c3 ?c4 ?c5 ?_)
  case c1 => omega
  case c2 => omega
  case c3 => omega
  case c4 => unfold maxLen; omega
  intro w1 hown hgrow
  rw [toList_madeCells_one] at hown
  have hmp : Mp w1 w.heap.size 0 (fun _ => none) := (Mp.made w).kept hgrow (by simp)
  have hb1 : Below w.heap.size w w1 := (below_alloc w (.map #[] 0)).grown hgrow (by simp) (by intro k hk; cases hk)
  have hs1 : w.heap.size + 1 < w1.heap.size := by
    have := (hown.lt (w.heap.size + 1) rfl).2
    exact this
  have HO := hide hown
  have HMP := hide hmp
  have HB := hide hb1
  clear hown hgrow hmp hb1
  go_wp2_with fail
  go_ret2
  have hb2 := below_alloc w1 (.cells #[.slice none 0 0, .map (some w.heap.size), .slice (some ⟨w.heap.size + 1, 0, none⟩) k k] 108)
  refine ⟨_, rfl, ⟨fun q => if q = w.heap.size then 2 else if q = w.heap.size + 1 then 3 else 0, .slice none 0 0, w.heap.size, .slice (some ⟨w.heap.size + 1, 0, none⟩) k k, List.replicate k (.slice none 0 0), fun _ => none, ⟨heap_alloc_new w1 _, ⟨rfl, .inl ⟨rfl, rfl⟩⟩, HMP.out.same (hb2.block _ (by omega)), ?_, by simp, fun j hj hj2 => ?_, ?_, fun q e => by simp [Value.ownBlock] at e, by simp, fun q e => ?_, fun j hj q e => ?_⟩, ⟨fun i hi => by simp at hi, fun e i he => by cases he⟩, fun c hc => ?_, ⟨HB.out.size, In.nil _, Nat.le_refl _, fun q e => ?_, fun v hv => ?_⟩, fun e he => by simp at he, by simp, by simp; omega⟩, below_on HB.out hb2⟩
  · have := own_lower (own_later HO.out hb2) (Nat.zero_le _)
    simpa using this
  · simp only [List.getElem_replicate]
    exact ⟨rfl, .inl ⟨rfl, rfl⟩⟩
  · dsimp only; rw [if_neg (by omega), if_neg (by omega)]
  · simp only [Value.ownBlock, Option.some.injEq] at e
    subst e
    simp
  · simp [Value.ownBlock] at e
  · rw [List.eq_of_mem_replicate hc]; rfl
  · simp only [Value.ownBlock, Option.some.injEq] at e
    omega
  · rw [List.eq_of_mem_replicate hv]
    exact In.nil _
theorem len_any {w : World} {S : Nat → Prop} {g n : Nat} {rows : List (Int × Int)} {cols : List (List Int)} (h : Tb w S g n rows cols) : Calls Tryz.prog 94 #[.pointer (some ⟨g, 0, none⟩)] w fun e w' => e = .returned (.int .i64 (rows.length : Int)) ∧ w' = w := by
  obtain ⟨lab, vr, gm, vc, cs, f, hm, -⟩ := h
  obtain ⟨c0, c1, c2⟩ := hm.cell
  obtain ⟨ao, c, rfl⟩ := own_len hm.2.1
  clear hm
  go_enter Tryz.func94, Tryz.ntmps94
  go_wp2_with fail
  go_ret
  exact ⟨rfl, rfl⟩
theorem hasrow_any {w : World} {S : Nat → Prop} {g n : Nat} {rows : List (Int × Int)} {cols : List (List Int)} (h : Tb w S g n rows cols) (x : Int) : Calls Tryz.prog 97 #[.pointer (some ⟨g, 0, none⟩), .int .i64 x] w fun e w' => e = .returned (.bool (decide (0 ≤ x ∧ x < (rows.length : Int)))) ∧ w' = w := by
  obtain ⟨lab, vr, gm, vc, cs, f, hm, -⟩ := h
  obtain ⟨c0, c1, c2⟩ := hm.cell
  obtain ⟨ao, c, rfl⟩ := own_len hm.2.1
  clear hm
  go_enter Tryz.func97, Tryz.ntmps97
  by_cases h1 : 0 ≤ x
  · have t1 : x ≥ 0 := h1
    by_cases h2 : x < (rows.length : Int)
    · rw [decide_eq_true ⟨h1, h2⟩]
      go_wp2_with fail
      go_ret
      exact ⟨rfl, rfl⟩
    · rw [decide_eq_false (fun e => h2 e.2)]
      go_wp2_with fail
      go_ret
      exact ⟨rfl, rfl⟩
  · rw [decide_eq_false (fun e => h1 e.1)]
    have t1 : ¬ x ≥ 0 := h1
    go_wp2_with fail
    go_ret
    exact ⟨rfl, rfl⟩
/-- What Find tells. -/
def Fnd (rows : List (Int × Int)) (e : Int × Int) (r : Int) : Prop := (r = -1 ∧ e ∉ rows) ∨ ∃ (i : Nat) (hi : i < rows.length), r = (i : Int) ∧ rows[i] = e
set_option maxHeartbeats 1000000 in
theorem find_any {w : World} {S : Nat → Prop} {g n : Nat} {rows : List (Int × Int)} {cols : List (List Int)} (h : Tb w S g n rows cols) (a b : Int) (hb : InB (a, b)) : Calls Tryz.prog 77 #[.pointer (some ⟨g, 0, none⟩), .agg #[.int .i64 a, .int .i64 b]] w fun e w' => ∃ r, e = .returned (.int .i64 r) ∧ Fnd rows (a, b) r ∧ Below w.heap.size w w' := by
  obtain ⟨lab, vr, gm, vc, cs, f, hm, hix, -⟩ := h
  obtain ⟨c0, c1, c2⟩ := hm.cell
  have HM := hide hm
  have HIX := hide hix
  obtain ⟨kl, hkl⟩ := key_of (a, b) hb
  clear hm hix
  go_enter Tryz.func77, Tryz.ntmps77
  go_upto_region 1 with fail
  obtain ⟨w1, hw1⟩ : ∃ X, X = w.alloc (.cells #[.int .i64 a, .int .i64 b] 34) := ⟨_, rfl⟩
  have B1 : Below w.heap.size w w1 := hw1 ▸ below_alloc w _
  have hx1 : w1.heap[w.heap.size]? = some (.cells #[.int .i64 a, .int .i64 b] 34 (0, 0)) := hw1 ▸ heap_alloc_new w _
  rw [← hw1]
  have p0 : w1.cell? ⟨w.heap.size, 0, none⟩ = some (.int .i64 a) := by rw [cell_of_row w1 _ _ _ 34 (0, 0) hx1]; rfl
  have p1 : w1.cell? ⟨w.heap.size, 1, none⟩ = some (.int .i64 b) := by rw [cell_of_row w1 _ _ _ 34 (0, 0) hx1]; rfl
  have d1 := (HM.out.later B1).cell.2.1
  obtain ⟨c, hlk, hc⟩ := (HM.out.later (below_on B1 (below_drew w1))).2.2.1.look (a, b) hb
  have HC := hide hc
  clear hx1 hw1 hc c0 c1 c2
  go_region_law (fail)
  all_goals
    cases hf : f (a, b) with
    | none =>
      simp only [Option.isSome_none]
      go_wp2_with fail
      go_ret
      exact ⟨-1, rfl, .inl ⟨rfl, HIX.out.off.1 hf⟩, below_on B1 (below_drew _)⟩
    | some i =>
      obtain rfl := HC.out i hf
      simp only [Option.isSome_some]
      go_wp2_with fail
      go_ret
      obtain ⟨hi, hx⟩ := HIX.out.2 _ _ hf
      exact ⟨_, rfl, .inr ⟨i, hi, rfl, hx⟩, below_on B1 (below_drew _)⟩
end Go.Proofs.YtfbhoemfabgjpaaGreat

/-
  slices.Clone; Column; Row.
-/
namespace Go.Proofs.YtfbhoemfabgjpaaGreat
open Go.RowKit
set_option maxRecDepth 100000
theorem zc_one (l : List Int) : ∀ u ∈ zc l, u.oneCell' = true := by
  intro u hu
  simp only [zc, List.mem_map] at hu
  obtain ⟨b, _, rfl⟩ := hu
  rfl
set_option maxHeartbeats 1000000 in
theorem clone_any (v : Value) (n : Nat) (l : List Int) (w : World) (h : w.ownsRow 0 2 1 v n (zc l)) (hn : n ≤ 1000000) :
    Calls Tryz.prog 33 #[v] w fun e w' => ∃ v', e = .returned v' ∧ w'.ownsRow w.heap.size 2 1 v' n (zc l) ∧ Below w.heap.size w w' := by
  obtain ⟨i0, hi, hz0, hz1, hz2⟩ := info_parts info2
  have hl : n = l.length := by have := h.1; rw [zc_len] at this; omega
  have q27 : ∀ (w : World) (a : Option Addr) (n c n' c' : Nat), (binOp .eql 35 (.slice a n c) (.slice none n' c')).run Tryz.prog w = .ok (.bool a.isNone) w := fun w a n c n' c' => Lib.run_eql_slice_nil w _ _ a n c n' c' Tryz.underlying35
  subst hl
  rcases h.2 with ⟨rfl, hl⟩ | ⟨g, cap, cur, rfl, -, hg, h1, h2, hcs, htake⟩
  · obtain rfl : l = [] := List.eq_nil_of_length_eq_zero (by omega)
    clear h hl
    go_enter Tryz.func33, Tryz.ntmps33
    go_wp2_with fail
    go_ret
    exact ⟨_, rfl, World.ownsRow_nil _ _ _ _, Below.refl _ _⟩
  · have H := hide h
    clear h hg hcs htake
    go_enter Tryz.func33, Tryz.ntmps33
    go_wp2_with (at_builtin; refine wpList_append_own_at _ rfl _ _ 35 rfl w.heap.size 2 i0 (.int .i64 0) 1 8 Tryz.underlying35 hi hz0 hz1 hz2 rfl (by decide) _ 0 [] rfl (World.ownsRow_lit w #[] 0 (Nat.le_refl _) (Nat.zero_le _) rfl) ⟨g, 0, none⟩ l.length cap (zc l) rfl (by rw [zc_len]; omega) ?c1 (zc_one l) (by unfold maxLen; omega) (by omega) (by simp) ?_)
    case c1 => exact (H.out.alloc _).cells rfl
    intro v' w' ho hg _ _
    obtain ⟨ao, c, rfl⟩ := own_len ho
    have HO := hide ho
    have HG := hide hg
    clear ho hg
    go_wp2_with fail
    go_ret
    refine ⟨_, rfl, ?_, (below_alloc w _).grown HG.out (by simp) (fun k e => ?_)⟩
    · have := HO.out
      simpa using this
    · simp [Value.ownBlock] at e
      omega
theorem results_cell2 {fn : Func} {p u v : Tmp} {ty : TypeId} (h : fn.results = #[.cell p ty, .tmp u, .tmp v]) (tmps : Array Value) (P : Program) (w : World) :
    (results fn tmps).run P w =
      ((asAddr (tmps.getD p undef)).run P w).andThen fun a w₁ => ((loadVar ty a).run P w₁).andThen fun x w₂ => .ok (.tuple #[x, tmps.getD u undef, tmps.getD v undef]) w₂ := by
  simp only [results, h]
  simp [Sem.run_bind, Result.andThen]
theorem row_bad {w : World} {S : Nat → Prop} {g n : Nat} {rows : List (Int × Int)} {cols : List (List Int)} (h : Tb w S g n rows cols) (x : Int) (hx : ¬ (0 ≤ x ∧ x < (rows.length : Int))) : Calls Tryz.prog 76 #[.pointer (some ⟨g, 0, none⟩), .int .i64 x] w fun e w' => e = .returned (.tuple #[.agg #[.int .i64 0, .int .i64 0], .slice none 0 0, .int .i64 50]) ∧ Below w.heap.size w w' := by
  have J : Hid (∀ W, Below w.heap.size w W → Calls Tryz.prog 97 #[.pointer (some ⟨g, 0, none⟩), .int .i64 x] W fun e w' => e = .returned (.bool false) ∧ w' = W) := fun W hb => by
    have := hasrow_any (h.later hb) x
    rw [decide_eq_false hx] at this
    exact this
  go_enter Tryz.func76, Tryz.ntmps76
  go_wp2_with fail
  refine (J.out _ (below_alloc w _)).mono ?_
  rintro e w1 ⟨rfl, rfl⟩
  go_wp2_with fail
  (try simp only [Exit.inBlock, Exit.then])
  refine bodyPost_ret (v := .tuple #[.agg #[.int .i64 0, .int .i64 0], .slice none 0 0, .int .i64 50]) ?_ rfl ⟨rfl, below_alloc w _⟩
  rw [results_cell2 rfl]
  go_simp
/-- A row's numbers. -/
def rowOf (cols : List (List Int)) (i : Nat) : List Int := cols.map fun c => c.getD i 0
theorem rowOf_len (cols : List (List Int)) (i : Nat) : (rowOf cols i).length = cols.length := by simp [rowOf]
theorem rowOf_at (cols : List (List Int)) (i j : Nat) (hj : j < cols.length) (hi : i < cols[j].length) : (rowOf cols i)[j]'(by rw [rowOf_len]; exact hj) = cols[j][i] := by
  simp [rowOf, hi]
theorem fill_set (R : List Int) (k j : Nat) (x : Int) (hk : R.length = k) (hj : j < k) (hx : R[j]? = some x) : (R.take j ++ List.replicate (k - j) 0).set j x = R.take (j + 1) ++ List.replicate (k - (j + 1)) 0 := by
  have hl : (R.take j).length = j := by rw [List.length_take]; omega
  have e : k - j = (k - (j + 1)) + 1 := by omega
  rw [List.set_append_right _ _ (by omega), hl, Nat.sub_self, e, List.replicate_succ, List.set_cons_zero, List.take_add_one, hx]
  simp
theorem fill_at (R : List Int) (k j : Nat) (hk : R.length = k) (hj : j < k) : (zc (R.take j ++ List.replicate (k - j) 0))[j]? = some (.int .i64 0) := by
  have hl : (R.take j).length = j := by rw [List.length_take]; omega
  have : (R.take j ++ List.replicate (k - j) 0)[j]? = some 0 := by
    rw [List.getElem?_append_right (by omega), hl, Nat.sub_self, List.getElem?_replicate, if_pos (by omega)]
  rw [zc, List.getElem?_map, this]
  rfl
set_option maxHeartbeats 4000000 in
theorem row_any {w : World} {S : Nat → Prop} {g n : Nat} {rows : List (Int × Int)} {cols : List (List Int)} (h : Tb w S g n rows cols) (i : Nat) (hi : i < rows.length) : Calls Tryz.prog 76 #[.pointer (some ⟨g, 0, none⟩), .int .i64 (i : Int)] w fun e w' => ∃ v, e = .returned (.tuple #[.agg #[.int .i64 rows[i].1, .int .i64 rows[i].2], v, .int .i64 0]) ∧ w'.ownsRow w.heap.size 2 1 v cols.length (zc (rowOf cols i)) ∧ Below w.heap.size w w' := by
  have J : Hid (∀ W, Below w.heap.size w W → Calls Tryz.prog 97 #[.pointer (some ⟨g, 0, none⟩), .int .i64 (i : Int)] W fun e w' => e = .returned (.bool true) ∧ w' = W) := fun W hb => by
    have := hasrow_any (h.later hb) (i : Int)
    rw [decide_eq_true ⟨by omega, by omega⟩] at this
    exact this
  obtain ⟨lab, vr, gm, vc, cs, f, hm, hix, hcl, -, -, hr2, hc48⟩ := h
  have HM := hide hm
  have HCL := hide hcl
  have hcs := hm.2.2.2.2.1
  obtain ⟨i0, hi0, hz0, hz1, hz2⟩ := info_parts info2
  obtain ⟨ar, cr, rfl⟩ := own_len hm.2.1
  obtain ⟨ac, cc, rfl⟩ := own_len hm.2.2.2.1
  have CC : Hid (∀ W, Below w.heap.size w W → W.cell? ⟨g, 0, none⟩ = some (.slice ar rows.length cr) ∧ W.cell? ⟨g, 2, none⟩ = some (.slice ac cs.length cc)) := fun W hb => ⟨(HM.out.later hb).cell.1, (HM.out.later hb).cell.2.2⟩
  clear hm hcl hix
  have c2 : ∀ o, (w.alloc o).cell? ⟨g, 2, none⟩ = some (.slice ac cs.length cc) := fun o => (CC.out _ (below_alloc w o)).2
  go_enter Tryz.func76, Tryz.ntmps76
  go_wp2_with fail
  refine (J.out _ (below_alloc w _)).mono ?_
  rintro e w1 ⟨rfl, rfl⟩
  go_wp2_with (at_make; refine wpList_make_full _ rfl _ _ 35 rfl w.heap.size 2 i0 (.int .i64 0) 1 Tryz.underlying35 hi0 hz0 hz1 .i64 .i64 _ _ cs.length rfl rfl ?c1 ?c2 ?c3 ?c4 ?c5 ?_)
  case c1 => omega
  case c2 => omega
  case c3 => rw [hz2]; omega
  case c4 => unfold maxLen; omega
  case c5 => simp
  intro w1 hown hgrow
  rw [toList_madeCells_one] at hown
  obtain ⟨wb, hwb⟩ : ∃ X, X = w.alloc (.cells #[.int .i64 0, .int .i64 0] 34) := ⟨_, rfl⟩
  rw [← hwb] at hgrow
  have Bb : Below w.heap.size w wb := hwb ▸ below_alloc w _
  have hsb : wb.heap.size = w.heap.size + 1 := by rw [hwb]; simp
  have hbx : wb.heap[w.heap.size]? = some (.cells #[.int .i64 0, .int .i64 0] 34 (0, 0)) := hwb ▸ heap_alloc_new w _
  have B1 : Below wb.heap.size wb w1 := (Below.refl _ _).grown hgrow (Nat.le_refl _) (by intro k hk; cases hk)
  obtain ⟨ko, hko⟩ : ∃ k, k = w.heap.size + 1 := ⟨_, rfl⟩
  obtain ⟨kb, hkb⟩ : ∃ k, k = w.heap.size := ⟨_, rfl⟩
  have HSB : Hid (wb.heap.size ≤ ko ∧ w.heap.size ≤ ko ∧ kb < wb.heap.size ∧ w.heap.size = kb) := by refine ⟨?_, ?_, ?_, ?_⟩ <;> omega
  rw [← hko] at hown
  rw [← hkb] at hbx
  rw [← hko, ← hkb]
  have HO : Hid (w1.ownsRow w.heap.size 2 1 (.slice (some ⟨ko, 0, none⟩) cols.length cols.length) cols.length (zc ((rowOf cols i).take 0 ++ List.replicate (cols.length - 0) 0))) := by
    have e : zc ((rowOf cols i).take 0 ++ List.replicate (cols.length - 0) 0) = List.replicate cols.length (.int .i64 0) := by simp [zc]
    rw [e]
    exact hown
  have HBX := hide hbx
  have CB : Hid (∀ W, Below wb.heap.size wb W → Below w.heap.size w W) := fun W hb => below_on Bb hb
  obtain ⟨d0, d2⟩ := CC.out w1 (below_on Bb B1)
  clear hown hgrow hwb hsb hko hkb hbx c2
  go_upto_block 0 with fail
  clear d0 d2
  go_wp2_with fail
  go_loopw [26] (fun v26 W => ∃ j : Nat, j ≤ cols.length ∧ v26 = .int .i64 (j : Int) ∧ Hid (W.ownsRow w.heap.size 2 1 (.slice (some ⟨ko, 0, none⟩) cols.length cols.length) cols.length (zc ((rowOf cols i).take j ++ List.replicate (cols.length - j) 0))) ∧ Hid (Below wb.heap.size wb W)) (fun v26 _ => cols.length - (intOf v26).toNat)
  case atStart => exact ⟨0, Nat.zero_le _, rfl, HO, B1⟩
  case round =>
    obtain ⟨j, hjl, rfl, HR, HB⟩ := hrel
    by_cases hj : j < cols.length
    · have t1 : (j : Int) < (cols.length : Int) := by omega
      have hmw := HM.out.later (CB.out _ HB.out)
      obtain ⟨gc, cc', ec, -, -⟩ := own_form hmw.2.2.2.1 (by omega)
      simp only [Value.slice.injEq] at ec
      obtain ⟨rfl, -, rfl⟩ := ec
      have e1 := own_slices hmw.2.2.2.1 j (by omega)
      have hrow := hmw.2.2.2.2.2.1 j (by omega) hj
      have hlen : cols[j].length = rows.length := HCL.out _ (List.getElem_mem hj)
      rw [hlen] at hrow
      obtain ⟨gj, cj, hv, -, -⟩ := own_form hrow (by omega)
      rw [hv] at e1 hrow
      have e2 := own_num hrow i (by omega)
      have eo : wr.cell? ⟨ko, j, none⟩ = some (.int .i64 0) := by
        rw [HR.out.cellAt j (by omega)]
        exact fill_at _ _ _ (rowOf_len _ _) hj
      have ef := HR.out.frozenAt j
      have hx : (rowOf cols i)[j]? = some (cols[j][i]'(by omega)) := by
        rw [List.getElem?_eq_getElem (by rw [rowOf_len]; exact hj), rowOf_at cols i j hj (by omega)]
      have hst := (HR.out.stored j (.int .i64 (cols[j][i]'(by omega)))).1
      rw [zc_set, fill_set _ _ _ _ (rowOf_len _ _) hj hx] at hst
      generalize cols[j][i]'(by omega) = x at *
      have HST := hide hst
      have ti : (i : Int) < (rows.length : Int) := by omega
      clear hst hrow hmw hv hlen hx
      go_wp2_with fail
      go_roundw
      case rel => exact ⟨j + 1, by omega, by go_num, HST, (HB.out.trans (Mv.below (S := fun q => q = ko) (Mv.set (S := fun q => q = ko) (Mv.refl _ _) rfl _ _) HB.out.size (fun k e => by have := HSB.out.1; omega)))⟩
      case measure => simp [intOf]; omega
    · obtain rfl : j = cols.length := by omega
      have t1 : ¬ (cols.length : Int) < (cols.length : Int) := by omega
      have hmw := HM.out.later (CB.out _ HB.out)
      obtain ⟨d0, d2⟩ := CC.out wr (CB.out _ HB.out)
      obtain ⟨gr, cr', er, -, -⟩ := own_form hmw.2.1 (by omega)
      simp only [Value.slice.injEq] at er
      obtain ⟨rfl, -, rfl⟩ := er
      obtain ⟨e1, e2⟩ := own_ent hmw.2.1 i hi
      have hbx : wr.heap[kb]? = some (.cells #[.int .i64 0, .int .i64 0] 34 (0, 0)) := (HB.out.block kb HSB.out.2.2.1).trans HBX.out
      have x0 : wr.cell? ⟨kb, 0, none⟩ = some (.int .i64 0) := by rw [cell_of_row wr kb _ _ 34 (0, 0) hbx]; rfl
      have x1 : wr.cell? ⟨kb, 1, none⟩ = some (.int .i64 0) := by rw [cell_of_row wr kb _ _ 34 (0, 0) hbx]; rfl
      have y0 := frozen_of_row wr kb 0 _ 34 hbx
      have y1 := frozen_of_row wr kb 1 _ 34 hbx
      have hfin : (zc ((rowOf cols i).take cols.length ++ List.replicate (cols.length - cols.length) 0)) = zc (rowOf cols i) := by
        rw [List.take_of_length_le (by rw [rowOf_len]; exact Nat.le_refl _)]
        simp
      have hr := HR.out
      rw [hfin] at hr
      have HRF := hide hr
      have HCB := hide (CB.out _ HB.out)
      have ti : (i : Int) < (rows.length : Int) := by omega
      obtain ⟨r1, hr1⟩ : ∃ r, r = rows[i].1 := ⟨_, rfl⟩
      obtain ⟨r2, hr2'⟩ : ∃ r, r = rows[i].2 := ⟨_, rfl⟩
      rw [← hr1] at e1
      rw [← hr2'] at e2
      have HR1 := hide hr1
      have HR2 := hide hr2'
      clear hr1 hr2'
      clear hr hmw hbx HR hfin
      go_wp2_with fail
      (try simp only [Exit.inBlock, Exit.then])
      have hko := HSB.out
      have hm : Mv wr ((wr.setCell ⟨kb, 0, none⟩ (.int .i64 r1)).setCell ⟨kb, 1, none⟩ (.int .i64 r2)) (fun q => q = kb) := Mv.set (S := fun q => q = kb) (Mv.set (S := fun q => q = kb) (Mv.refl _ _) rfl _ _) rfl _ _
      refine bodyPost_ret (v := .tuple #[.agg #[.int .i64 r1, .int .i64 r2], .slice (some ⟨ko, 0, none⟩) cols.length cols.length, .int .i64 0]) ?_ rfl ⟨_, by rw [HR1.out, HR2.out], hm.own HRF.out (fun k e e' => ?_), HCB.out.trans (hm.below HCB.out.size (fun k e => by omega))⟩
      · rw [results_cell2 rfl]
        go_simp
      · simp only [Value.ownBlock, Option.some.injEq] at e
        omega
end Go.Proofs.YtfbhoemfabgjpaaGreat

/-
  What is written into a table's parts.
-/
namespace Go.Proofs.YtfbhoemfabgjpaaGreat
open Go.RowKit
set_option maxRecDepth 100000
def ext (lab : Nat → Nat) (n i : Nat) : Nat → Nat := fun k => if k < n then lab k else i
theorem ext_old {lab : Nat → Nat} {n i k : Nat} (h : k < n) : ext lab n i k = lab k := by unfold ext; rw [if_pos h]
theorem ext_new {lab : Nat → Nat} {n i k : Nat} (h : n ≤ k) : ext lab n i k = i := by unfold ext; rw [if_neg (by omega)]
section
variable {w W1 W' : World} {lab : Nat → Nat} {gt gm n : Nat} {vr vc v' : Value} {cs : List Value} {f f' : Int × Int → Option Nat} {rows rows' : List (Int × Int)} {cols : List (List Int)}
theorem lab_kept {v : Value} {i l : Nat} {B e s m : Nat} {xs : List Value} (h : w.ownsRow B e s v m xs) (hw : w.heap.size ≤ W1.heap.size) (hl : ∀ k, v.ownBlock = some k → lab k = l) : ∀ k, v.ownBlock = some k → ext lab W1.heap.size i k = l := fun k e => by
  rw [ext_old (Nat.lt_of_lt_of_le (h.lt k e).2 hw)]
  exact hl k e
theorem lab_put {v : Value} {l : Nat} {B e s m : Nat} {xs : List Value} (h : w.ownsRow B e s v m xs) (hw : w.heap.size ≤ W1.heap.size) (hl : ∀ k, v.ownBlock = some k → lab k = l) (ha : v'.ownBlock = v.ownBlock ∨ v'.ownBlock = some W1.heap.size) : ∀ k, v'.ownBlock = some k → ext lab W1.heap.size l k = l := fun k e => by
  rcases ha with ha | ha
  · exact lab_kept h hw hl k (ha ▸ e)
  · rw [e] at ha
    obtain rfl := Option.some.inj ha
    exact ext_new (Nat.le_refl _)
theorem Tm.rows_put (h : Tm w lab gt vr gm n vc cs f rows cols) (hb : Below w.heap.size w W1) (ho : W'.ownsRow 0 34 2 v' rows'.length (ez rows')) (hg : W1.grownBy W' vr.ownBlock) (ha : v'.ownBlock = vr.ownBlock ∨ v'.ownBlock = some W1.heap.size) :
    Tm (W'.setCell ⟨gt, 0, none⟩ v') (ext lab W1.heap.size 1) gt v' gm n vc cs f rows' cols ∧ Mv w (W'.setCell ⟨gt, 0, none⟩ v') (fun k => k = gt ∨ vr.ownBlock = some k) ∧ W'.cell? ⟨gt, 0, none⟩ = some vr ∧ W'.frozen? ⟨gt, 0, none⟩ = false := by
  have hsz := hb.size
  have hgt := h.lt
  have h1 := h.later hb
  obtain ⟨b1, b2, b3, b4, b5, b6, b7, b8, b9, b10, b11⟩ := h
  have hm : Mv W1 W' (fun k => vr.ownBlock = some k) := (Mv.refl _ _).grown hg (fun _ _ e => e)
  have ng : vr.ownBlock ≠ some gt := fun e => by have := b8 gt e; omega
  have hv' : v'.ownBlock ≠ some gt := fun e => by
    rcases ha with ha | ha
    · exact ng (ha ▸ e)
    · rw [e] at ha; have := Option.some.inj ha; omega
  obtain ⟨a1, a2, a3, a4, a5, a6, -⟩ := h1
  have hr : W'.heap[gt]? = some (.cells #[vr, .map (some gm), vc] 108 (0, 0)) := hm.at a1 (fun e => ng e)
  have hset : Mv W' (W'.setCell ⟨gt, 0, none⟩ v') (fun k => k = gt) := Mv.set (S := fun k => k = gt) (Mv.refl _ _) rfl _ _
  have hall : Mv W1 (W'.setCell ⟨gt, 0, none⟩ v') (fun k => k = gt ∨ vr.ownBlock = some k) := (hm.mono (fun k _ e => .inr e)).trans hset (fun k _ e => .inl e)
  refine ⟨⟨heap_setCell_same W' gt 0 _ 108 v' hr, own_set ho hv', a3.same (hall.2.2.2.2 gm a3.lt (fun e => ?_)), hall.own a4 (fun k e e' => ?_), a5, fun j hj hj2 => hall.own (a6 j hj hj2) (fun k e e' => ?_), ?_, lab_put b2 hsz b8 ha, ?_, lab_kept b4 hsz b10, fun j hj => lab_kept (b6 j hj (by omega)) hsz (b11 j hj)⟩, (Mv.of_below hb _).trans hall (fun k _ e => e), ?_, frozen_of_row W' gt 0 _ 108 hr⟩
  · rcases e with e | e
    · subst e; omega
    · have := b8 gm e; omega
  · have := b10 k e
    rcases e' with e' | e'
    · subst e'; omega
    · have := b8 k e'; omega
  · have := b11 j hj k e
    rcases e' with e' | e'
    · subst e'; omega
    · have := b8 k e'; omega
  · rw [ext_old (by omega)]; exact b7
  · rw [ext_old (Nat.lt_of_lt_of_le b3.lt hsz)]; exact b9
  · rw [cell_of_row W' gt _ _ 108 (0, 0) hr]; rfl
theorem Tm.map_put {n' : Nat} (h : Tm w lab gt vr gm n vc cs f rows cols) (hp : Mp W' gm n' f') (hg : w.grownBy W' (some gm)) : Tm W' lab gt vr gm n' vc cs f' rows cols ∧ Mv w W' (fun k => k = gm) := by
  have hm : Mv w W' (fun k => k = gm) := (Mv.refl _ _).grown hg (fun k _ e => (Option.some.inj e).symm)
  obtain ⟨b1, b2, b3, b4, b5, b6, b7, b8, b9, b10, b11⟩ := h
  refine ⟨⟨hm.at b1 (fun e => ?_), hm.own b2 (fun k e e' => ?_), hp, hm.own b4 (fun k e e' => ?_), b5, fun j hj hj2 => hm.own (b6 j hj hj2) (fun k e e' => ?_), b7, b8, b9, b10, b11⟩, hm⟩
  · subst e; omega
  · subst e'; have := b8 _ e; omega
  · subst e'; have := b10 _ e; omega
  · subst e'; have := b11 j hj _ e; omega
theorem Tm.col_put {gc c j : Nat} {col : List Int} (h : Tm w lab gt vr gm n (.slice (some ⟨gc, 0, none⟩) cs.length c) cs f rows cols) (hj : j < cs.length) (hb : Below w.heap.size w W1) (ho : W'.ownsRow 0 2 1 v' col.length (zc col)) (hg : W1.grownBy W' (cs[j]).ownBlock) (ha : v'.ownBlock = (cs[j]).ownBlock ∨ v'.ownBlock = some W1.heap.size) :
    Tm (W'.setCell ⟨gc, j, none⟩ v') (ext lab W1.heap.size (4 + j)) gt vr gm n (.slice (some ⟨gc, 0, none⟩) cs.length c) (cs.set j v') f rows (cols.set j col) ∧ Mv w (W'.setCell ⟨gc, j, none⟩ v') (fun k => k = gc ∨ (cs[j]).ownBlock = some k) ∧ W'.cell? ⟨gc, j, none⟩ = some cs[j] ∧ W'.frozen? ⟨gc, j, none⟩ = false := by
  have hsz := hb.size
  have hgt := h.lt
  have h1 := h.later hb
  obtain ⟨b1, b2, b3, b4, b5, b6, b7, b8, b9, b10, b11⟩ := h
  have hm : Mv W1 W' (fun k => (cs[j]).ownBlock = some k) := (Mv.refl _ _).grown hg (fun _ _ e => e)
  have lc : lab gc = 3 := b10 gc rfl
  have hgc : gc < w.heap.size := (b4.lt gc rfl).2
  have ng : (cs[j]).ownBlock ≠ some gc := fun e => by have := b11 j hj gc e; omega
  have hv' : v'.ownBlock ≠ some gc := fun e => by
    rcases ha with ha | ha
    · exact ng (ha ▸ e)
    · rw [e] at ha; have := Option.some.inj ha; omega
  obtain ⟨a1, a2, a3, a4, a5, a6, -⟩ := h1
  have hr : W'.ownsRow 0 35 1 (.slice (some ⟨gc, 0, none⟩) cs.length c) cs.length cs := hm.own a4 (fun k e e' => by
    simp only [Value.ownBlock, Option.some.injEq] at e
    subst e
    exact ng e')
  have hset : Mv W' (W'.setCell ⟨gc, j, none⟩ v') (fun k => k = gc) := Mv.set (S := fun k => k = gc) (Mv.refl _ _) rfl _ _
  have hall : Mv W1 (W'.setCell ⟨gc, j, none⟩ v') (fun k => k = gc ∨ (cs[j]).ownBlock = some k) := (hm.mono (fun k _ e => .inr e)).trans hset (fun k _ e => .inl e)
  refine ⟨⟨hall.at a1 (fun e => ?_), hall.own a2 (fun k e e' => ?_), a3.same (hall.2.2.2.2 gm a3.lt (fun e => ?_)), ?_, by simp [a5], fun i hi hi2 => ?_, ?_, lab_kept b2 hsz b8, ?_, lab_kept b4 hsz b10, fun i hi => ?_⟩, (Mv.of_below hb _).trans hall (fun k _ e => e), own_slices hr j hj, hr.frozenAt j⟩
  · rcases e with e | e
    · subst e; omega
    · have := b11 j hj gt e; omega
  · have := b8 k e
    rcases e' with e' | e'
    · subst e'; omega
    · have := b11 j hj k e'; omega
  · rcases e with e | e
    · subst e; omega
    · have := b11 j hj gm e; omega
  · have := (hr.stored j v').1
    rw [List.length_set]
    exact this
  · have hi' : i < cs.length := by simpa using hi
    have hi2' : i < cols.length := by simpa using hi2
    by_cases e : j = i
    · subst e
      simp only [List.getElem_set_self]
      exact own_set ho hv'
    · simp only [List.getElem_set_ne e]
      refine hall.own (a6 i hi' hi2') (fun k e1 e2 => ?_)
      have := b11 i hi' k e1
      rcases e2 with e2 | e2
      · subst e2; omega
      · have := b11 j hj k e2; omega
  · rw [ext_old (by omega)]; exact b7
  · rw [ext_old (Nat.lt_of_lt_of_le b3.lt hsz)]; exact b9
  · have hi' : i < cs.length := by simpa using hi
    by_cases e : j = i
    · subst e
      simp only [List.getElem_set_self]
      exact lab_put (b6 j hj (by omega)) hsz (b11 j hj) ha
    · simp only [List.getElem_set_ne e]
      exact lab_kept (b6 i hi' (by omega)) hsz (b11 i hi')
end
end Go.Proofs.YtfbhoemfabgjpaaGreat
