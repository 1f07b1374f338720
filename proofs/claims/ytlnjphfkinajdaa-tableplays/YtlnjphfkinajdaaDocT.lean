/-
  The document's Row and Column.
-/
import Derived.Test.YtlnjphfkinajdaaFz
namespace Go.Proofs.Ytlnjphfkinajdaa
open Go.RowKit
section
variable {w : World} {S : Nat → Prop} {g : Nat} {rows : List (Int × Int)} {cols : List (List Int)}
set_option maxHeartbeats 2000000 in
theorem drow_bad (h : Dt w S g rows cols) (x : Int) (hx : ¬ (0 ≤ x ∧ x < (rows.length : Int))) : Calls Try.prog 34 #[.pointer (some ⟨g, 0, none⟩), .int .i64 x] w fun e w' => e = .returned (.tuple #[.agg #[.int .i64 0, .int .i64 0], .slice none 0 0, .int .i64 50]) ∧ Below w.heap.size w w' := by
  obtain ⟨vl, vs, hm, -⟩ := h
  obtain ⟨ao, c, rfl⟩ := own_len hm.2.1
  have c1 : ∀ o, (w.alloc o).cell? ⟨g, 1, none⟩ = some (.slice ao rows.length c) := fun o => (hm.later (below_alloc w o)).cell.2
  clear hm
  go_enter Try.func34, Try.ntmps34
  by_cases h1 : x < 0
  · clear hx
    go_wp2_with fail
    (try simp only [Exit.inBlock, Exit.then])
    refine bodyPost_ret (v := .tuple #[.agg #[.int .i64 0, .int .i64 0], .slice none 0 0, .int .i64 50]) ?_ rfl ⟨rfl, below_alloc w _⟩
    rw [results_cell2 rfl]
    go_simp
  · have h2 : x ≥ (rows.length : Int) := by omega
    clear hx
    go_wp2_with fail
    (try simp only [Exit.inBlock, Exit.then])
    refine bodyPost_ret (v := .tuple #[.agg #[.int .i64 0, .int .i64 0], .slice none 0 0, .int .i64 50]) ?_ rfl ⟨rfl, below_alloc w _⟩
    rw [results_cell2 rfl]
    go_simp
set_option maxHeartbeats 4000000 in
set_option maxRecDepth 100000 in
theorem drow_any (h : Dt w S g rows cols) (i : Nat) (hi : i < rows.length) : Calls Try.prog 34 #[.pointer (some ⟨g, 0, none⟩), .int .i64 (i : Int)] w fun e w' => ∃ v, e = .returned (.tuple #[.agg #[.int .i64 rows[i].1, .int .i64 rows[i].2], v, .int .i64 0]) ∧ w'.ownsRow w.heap.size 2 1 v cols.length (zc (rowOf cols i)) ∧ Below w.heap.size w w' := by
  obtain ⟨vl, vs, hm, hcl, -, hr2, hc2⟩ := h
  obtain ⟨gl, c, rfl, -, -⟩ := own_form hm.2.1 (by omega)
  have hvl := hm.2.2.1
  have hrow := (hm.2.2.2.2.1 i (by omega)).1
  rw [rowOf_len] at hrow
  have HC : Hid (∀ W, Below w.heap.size w W → (W.cell? ⟨g, 1, none⟩ = some (.slice (some ⟨gl, 0, none⟩) rows.length c) ∧ W.cell? ⟨gl, i * 3, none⟩ = some (.int .i64 rows[i].1) ∧ W.cell? ⟨gl, i * 3 + 1, none⟩ = some (.int .i64 rows[i].2) ∧ W.cell? ⟨gl, i * 3 + 2, none⟩ = some (vs[i]'(by omega))) ∧ Fz W (vs[i]'(by omega)) (rowOf cols i)) := fun W hW =>
    ⟨⟨(hm.later hW).cell.2, own_rows (own_later hm.2.1 hW) hvl i hi⟩, (own_fz hrow).later hW⟩
  have t1 : (i : Int) < (rows.length : Int) := by omega
  have t2 : ¬ (i : Int) < 0 := by omega
  have t3 : ¬ (i : Int) ≥ (rows.length : Int) := by omega
  have hl : (rowOf cols i).length = cols.length := rowOf_len _ _
  generalize rowOf cols i = R at *
  generalize vs[i]'(by omega) = vi at *
  generalize rows[i] = p at *
  have c1 : ∀ o, (w.alloc o).cell? ⟨g, 1, none⟩ = some (.slice (some ⟨gl, 0, none⟩) rows.length c) := fun o => (HC.out _ (below_alloc w o)).1.1
  clear hm hrow hcl hvl
  go_enter Try.func34, Try.ntmps34
  go_upto_region 3 with fail
  obtain ⟨w1, hw1⟩ : ∃ X, X = w.alloc (.cells #[.int .i64 0, .int .i64 0] 32) := ⟨_, rfl⟩
  have B1 : Below w.heap.size w w1 := hw1 ▸ below_alloc w _
  have hx1 : w1.heap[w.heap.size]? = some (.cells #[.int .i64 0, .int .i64 0] 32 (0, 0)) := hw1 ▸ heap_alloc_new w _
  have hs1 : w1.heap.size = w.heap.size + 1 := by rw [hw1]; simp
  rw [← hw1]
  obtain ⟨kx, hkx⟩ : ∃ k, k = w.heap.size := ⟨_, rfl⟩
  rw [← hkx] at hx1 ⊢
  clear hw1 c1
  obtain ⟨p1, p2⟩ := p
  dsimp only at HC
  obtain ⟨⟨c1, e0, e1, e2⟩, -⟩ := HC.out w1 B1
  have CA : ∀ o, ((w1.drew.alloc o).cell? ⟨g, 1, none⟩ = some (.slice (some ⟨gl, 0, none⟩) rows.length c) ∧ (w1.drew.alloc o).cell? ⟨gl, i * 3, none⟩ = some (.int .i64 p1) ∧ (w1.drew.alloc o).cell? ⟨gl, i * 3 + 1, none⟩ = some (.int .i64 p2) ∧ (w1.drew.alloc o).cell? ⟨gl, i * 3 + 2, none⟩ = some vi) := fun o => (HC.out _ (below_on B1 (below_on (below_drew w1) (below_alloc _ _)))).1
  obtain ⟨⟨o0, ho0⟩, CAl⟩ : (∃ o : Obj, o = .cells #[] 2) ∧ ∀ o : Obj, True := ⟨⟨_, rfl⟩, fun _ => trivial⟩
  have d1 := fun o => (CA o).1
  have d2 := fun o => (CA o).2.1
  have d3 := fun o => (CA o).2.2.1
  have d4 := fun o => (CA o).2.2.2
  have FZ : Hid (∀ o, Fz (w1.drew.alloc o) vi R) := fun o => (HC.out _ (below_on B1 (below_on (below_drew w1) (below_alloc _ _)))).2
  have LW : Hid (∀ (o : Obj) (v' : Value) (w' : World), w'.ownsRow w1.heap.size 2 1 v' R.length (zc R) → (w1.drew.alloc o).grownBy w' (some w1.heap.size) → Hid (∀ u0 u1, ((w'.setCell ⟨kx, 0, none⟩ u0).setCell ⟨kx, 1, none⟩ u1).ownsRow w.heap.size 2 1 v' cols.length (zc R) ∧ Below w.heap.size w ((w'.setCell ⟨kx, 0, none⟩ u0).setCell ⟨kx, 1, none⟩ u1)) ∧ w'.cell? ⟨g, 1, none⟩ = some (.slice (some ⟨gl, 0, none⟩) rows.length c) ∧ w'.cell? ⟨gl, i * 3, none⟩ = some (.int .i64 p1) ∧ w'.cell? ⟨gl, i * 3 + 1, none⟩ = some (.int .i64 p2) ∧ w'.cell? ⟨gl, i * 3 + 2, none⟩ = some vi ∧ w'.cell? ⟨kx, 0, none⟩ = some (.int .i64 0) ∧ w'.cell? ⟨kx, 1, none⟩ = some (.int .i64 0) ∧ w'.frozen? ⟨kx, 0, none⟩ = false ∧ w'.frozen? ⟨kx, 1, none⟩ = false) := fun o v' w' h1 h2 => by
    have hb := ((below_on (below_drew w1) (below_alloc w1.drew o)).grown h2 (by simp) (by intro k hk; cases hk; simp))
    have hb2 := below_on B1 hb
    have hne : v'.ownBlock ≠ some kx := fun e => by have := (h1.lt kx e).1; omega
    refine ⟨fun u0 u1 => ⟨?_, ?_⟩, ?_⟩
    · rw [← hl]; exact own_lower (own_set (own_set h1 hne) hne) (by omega)
    · exact hb2.trans (Mv.below (Mv.set (S := fun k => k = kx) (Mv.set (S := fun k => k = kx) (Mv.refl _ _) rfl _ _) rfl _ _) hb2.size (fun k e => by omega))
    · obtain ⟨⟨z1, z2, z3, z4⟩, -⟩ := HC.out w' hb2
      have hk := (hb.block kx (by omega)).trans hx1
      exact ⟨z1, z2, z3, z4, by rw [cell_of_row w' kx _ _ 32 (0, 0) hk]; rfl, by rw [cell_of_row w' kx _ _ 32 (0, 0) hk]; rfl, frozen_of_row w' kx _ _ 32 hk, frozen_of_row w' kx _ _ 32 hk⟩
  have n1 : g < kx := by have := World.block_lt_of_cell? w _ ((HC.out w (Below.refl _ _)).1.1); simp at this; omega
  have n2 : gl < kx := by have := World.block_lt_of_cell? w _ ((HC.out w (Below.refl _ _)).1.2.1); simp at this; omega
  have m1 : ¬ g = kx := by omega
  have m2 : ¬ gl = kx := by omega
  have m3 : ¬ kx = g := by omega
  have m4 : ¬ kx = gl := by omega
  clear CA CAl ho0 hkx hs1 hx1
  go_region_held3 (fun W => W.cell? ⟨g, 1, none⟩ = some (.slice (some ⟨gl, 0, none⟩) rows.length c) ∧ W.cell? ⟨gl, i * 3, none⟩ = some (.int .i64 p1) ∧ W.cell? ⟨gl, i * 3 + 1, none⟩ = some (.int .i64 p2) ∧ W.cell? ⟨gl, i * 3 + 2, none⟩ = some vi) (go_keep) (first | (refine step_append_fz _ rfl (.tmp 27) (.tmp 35) rfl w1.heap.size (.slice (some ⟨w1.heap.size, 0, none⟩) 0 0) vi [] R (by simp [Act.eval]) (World.ownsRow_lit w1.drew #[] 0 (Nat.le_refl _) (Nat.zero_le _) rfl) (by simp [Act.eval]) (FZ.out _) (by simp; omega) (by simp) ?_; intro v' w' h1 h2 h3; obtain ⟨HF, z1, z2, z3, z4, z5, z6, z7, z8⟩ := LW.out _ v' w' h1 h2; clear h1 h2 h3))
  go_wp2_with fail
  (try simp only [Exit.inBlock, Exit.then])
  refine bodyPost_ret (v := .tuple #[.agg #[.int .i64 p1, .int .i64 p2], v', .int .i64 0]) ?_ rfl ⟨v', rfl, HF.out _ _⟩
  rw [results_cell2 rfl]
  go_simp
end
section
variable {w : World} {S : Nat → Prop} {g : Nat} {rows : List (Int × Int)} {cols : List (List Int)}
set_option maxHeartbeats 2000000 in
theorem dcol_bad (h : Dt w S g rows cols) (x : Int) (hx : ¬ (0 ≤ x ∧ x < (cols.length : Int))) : Calls Try.prog 36 #[.pointer (some ⟨g, 0, none⟩), .int .i64 x] w fun e w' => e = .returned (.tuple #[.slice none 0 0, .int .i64 63]) ∧ w' = w := by
  obtain ⟨vl, vs, hm, -⟩ := h
  obtain ⟨c0, -⟩ := hm.cell
  clear hm
  go_enter Try.func36, Try.ntmps36
  by_cases h1 : x < 0
  · clear hx
    go_wp2_with fail
    go_ret2
    exact ⟨rfl, rfl⟩
  · have h2 : x ≥ (cols.length : Int) := by omega
    clear hx
    go_wp2_with fail
    go_ret2
    exact ⟨rfl, rfl⟩
set_option maxHeartbeats 4000000 in
theorem dcol_any (h : Dt w S g rows cols) (j : Nat) (hj : j < cols.length) : Calls Try.prog 36 #[.pointer (some ⟨g, 0, none⟩), .int .i64 (j : Int)] w fun e w' => ∃ v, e = .returned (.tuple #[v, .int .i64 0]) ∧ w'.ownsRow w.heap.size 2 1 v rows.length (zc cols[j]) ∧ Below w.heap.size w w' := by
  obtain ⟨i2, hi2, hx0, hx1, hx2⟩ := info_parts info2
  obtain ⟨vl, vs, hm, hcl, -, hr2, hc2⟩ := h
  have hlen := hcl _ (List.getElem_mem hj)
  obtain ⟨ao, c, rfl⟩ := own_len hm.2.1
  obtain ⟨c0, -⟩ := hm.cell
  have HM := hide hm
  have t1 : (j : Int) < (cols.length : Int) := by omega
  have t2 : ¬ (j : Int) < 0 := by omega
  have t3 : ¬ (j : Int) ≥ (cols.length : Int) := by omega
  clear hm hcl
  go_enter Try.func36, Try.ntmps36
  go_wp2_with fail
  go_loopw [6, 7] (fun v6 v7 wr => ∃ k : Nat, k ≤ rows.length ∧ v7 = .int .i64 (k : Int) ∧ Hid (Below w.heap.size w wr) ∧ Hid (wr.ownsRow w.heap.size 2 1 v6 k (zc (cols[j].take k)))) (fun _ v7 _ => rows.length - (intOf v7).toNat)
  case atStart => exact ⟨0, Nat.zero_le _, rfl, Below.refl _ _, World.ownsRow_nil _ _ _ _⟩
  case round =>
    obtain ⟨k, hk, rfl, HB, HR⟩ := hrel
    obtain ⟨-, c1⟩ := (HM.out.later HB.out).cell
    have hsz := HB.out.size
    by_cases hlt : k < rows.length
    · have u1 : (k : Int) < (rows.length : Int) := by omega
      have hP := HM.out.later HB.out
      obtain ⟨gl, c', ee, -, -⟩ := own_form hP.2.1 (by omega)
      simp only [Value.slice.injEq] at ee
      obtain ⟨rfl, -, rfl⟩ := ee
      have hvl := hP.2.2.1
      obtain ⟨-, -, e2⟩ := own_rows hP.2.1 hvl k hlt
      have hrow := (hP.2.2.2.2.1 k (by omega)).1
      rw [rowOf_len] at hrow
      obtain ⟨gj, cj, hv, -, -⟩ := own_form hrow (by omega)
      rw [hv] at e2 hrow
      have e3 := own_num hrow j (by rw [rowOf_len]; exact hj)
      have e4 : (rowOf cols k)[j]'(by rw [rowOf_len]; exact hj) = cols[j][k]'(by omega) := by simp [rowOf, hlen, hlt]
      rw [e4] at e3
      have hs : (cols[j].take (k + 1)) = cols[j].take k ++ [cols[j][k]'(by omega)] := by
        rw [List.take_add_one, List.getElem?_eq_getElem (by omega)]; rfl
      have HS := hide hs
      generalize cols[j][k]'(by omega) = y at *
      generalize cols[j].take k = L at *
      obtain ⟨ao3, c3, rfl⟩ := own_len HR.out
      have K : Hid (∀ (v' : Value) (w' : World), w'.ownsRow w.heap.size 2 1 v' (k + 1) (zc L ++ [.int .i64 y]) → (wr.alloc (.cells #[.int .i64 y] 2)).grownBy w' (Value.slice ao3 k c3).ownBlock → Below w.heap.size w w' ∧ w'.ownsRow w.heap.size 2 1 v' (k + 1) (zc (cols[j].take (k + 1)))) := fun v' w' h1 h2 => by
        refine ⟨(below_on HB.out (below_alloc wr _)).grown h2 (by simp; omega) (fun q e => (HR.out.lt q e).1), ?_⟩
        rw [HS.out, zc_append]
        simpa [zc] using h1
      clear hP hrow hv hvl e4 hs HS c0
      go_wp2_with (at_builtin; refine wpList_append_lies _ rfl _ _ 27 rfl w.heap.size 2 i2 (.int .i64 0) 1 8 Try.underlying27 hi2 hx0 hx1 hx2 rfl (by decide) _ _ _ rfl (HR.out.alloc _) ⟨wr.heap.size, 0, none⟩ 1 1 [.int .i64 y] rfl rfl ?d1 ?d2 (by omega) (by unfold maxLen; omega) (by omega) ?d5 _ rfl ?_)
      case d1 =>
        intro q u hq
        match q, hq with
        | 0, hq => simp at hq; subst hq; simp [Addr.add]
      case d2 =>
        intro u hu
        simp at hu
        rcases hu with rfl; rfl
      case d5 => simp; omega
      intro g9 c9 w9 h1 h2 _ _
      obtain ⟨h3, h4⟩ := K.out _ _ h1 h2
      have H3 := hide h3
      have H4 := hide h4
      clear h1 h2 h3 h4 K
      go_wp2_with fail
      go_roundw
      case rel => exact ⟨k + 1, by omega, by go_num, H3, H4⟩
      case measure => simp [intOf]; omega
    · obtain rfl : k = rows.length := by omega
      have hr := HR.out
      rw [List.take_of_length_le (by omega)] at hr
      have HR1 := hide hr
      have u1 : ¬ (rows.length : Int) < (rows.length : Int) := by omega
      clear hr HR
      go_wp2_with fail
      go_ret2
      exact ⟨_, rfl, HR1.out, HB.out⟩
end
end Go.Proofs.Ytlnjphfkinajdaa
