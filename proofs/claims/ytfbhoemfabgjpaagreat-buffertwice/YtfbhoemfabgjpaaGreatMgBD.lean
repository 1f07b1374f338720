import Derived.Test.YtfbhoemfabgjpaaGreatMgBC
/-
  Buffer: the example.
-/
namespace Go.Proofs.YtfbhoemfabgjpaaGreat
open Go.RowKit
set_option maxRecDepth 100000
set_option maxHeartbeats 8000000 in
theorem shown_any (w : World) : Calls Tryz.prog 4 #[] w fun e w' => e = .returned (.bool true) ∧ Below w.heap.size w w' := by
  have J1 := hide (bf_new w)
  go_enter Tryz.func4, Tryz.ntmps4
  go_wp2_with fail
  refine J1.out.mono ?_
  rintro e w1 ⟨gb, gx, rfl, hB, hl, b1⟩
  have HB := hide hB
  have HL := hide hl
  have B1 := hide b1
  have J2 := hide (bks_any w1)
  clear hB hl b1 J1
  go_wp2_with fail
  refine J2.out.mono ?_
  rintro e w2 ⟨vk, rfl, hk, b2⟩
  have B2 := hide b2
  have J3 := hide (wn_new (hk w2 (Below.refl _ _)) bks_may)
  clear hk b2 J2
  go_wp2_with fail
  refine J3.out.mono ?_
  rintro e w3 ⟨gw, rfl, ⟨own, ho, hx⟩, b3⟩
  have hB3 := HB.out.later (below_on B2.out b3)
  have hq3 : ∀ k, k = gb ∨ k = gx → own k = 0 ∧ w.heap.size ≤ k ∧ k < w3.heap.size := fun k hk => by
    have h1 := HL.out
    have h2 := B2.out.size
    have h3 := b3.size
    rcases hk with rfl | rfl <;> exact ⟨ho _ (by omega), by omega, by omega⟩
  have HB3 := hide hB3
  have HQ3 := hide hq3
  have HX3 := hide hx
  have HO3 : Hid (∀ k, k < w.heap.size → own k = 0) := fun k hk => ho k (by have := B1.out.size; have := B2.out.size; omega)
  have BW3 : Hid (Below w.heap.size w w3) := below_on (below_on B1.out B2.out) b3
  have J4 : Hid (Calls Tryz.prog 8 #[.pointer (some ⟨gb, 0, none⟩), .int .i64 1, .agg #[.int .i64 5, .int .i64 1], .agg #[.int .i64 2, .int .i64 0, .int .i64 1, .int .i64 0, .slice none 0 0, .slice none 0 0]] w3 fun e w' => e = .returned (.int .i64 0) ∧ ∃ c', Alike c' ⟨2, 0, 1, 0, .slice none 0 0, .slice none 0 0, [], []⟩ ∧ Bf w' (fun k => (k = gb ∨ k = gx) ∨ w3.heap.size ≤ k ∧ k < w'.heap.size) gb gx (fun e => if e = (1, 5) then [] ++ [c'] else []) 1 ∧ Mv w3 w' (fun k => k = gb ∨ k = gx)) := HB3.out.put 1 5 1 ⟨⟨by omega, by omega⟩, by omega, by omega⟩ (cm_lit1 w3) (by omega)
  clear hB3 hq3 hx ho b3 J3 HB HL B1 B2
  go_wp2_with fail
  refine J4.out.mono ?_
  rintro e w4 ⟨rfl, c1, hc1, hB4, m4⟩
  have HB4 := hide hB4
  have HC1 := hide hc1
  have M4 := hide m4
  clear hB4 hc1 m4 J4 HB3
  obtain ⟨w5, hw5⟩ : ∃ X, X = (w4.alloc (.cells #[.int .i64 7] 2)).alloc (.cells #[.int .i64 2, .slice (some ⟨w4.heap.size, 0, none⟩) 1 1] 51) := ⟨_, rfl⟩
  have b5 : Below w4.heap.size w4 w5 := by rw [hw5]; exact below_on (below_alloc w4 _) (below_alloc _ _)
  have rp : w5.heap[w4.heap.size + 1]? = some (.cells #[.int .i64 2, .slice (some ⟨w4.heap.size, 0, none⟩) 1 1] 51 (0, 0)) := by
    rw [hw5]
    have := heap_alloc_new (w4.alloc (.cells #[.int .i64 7] 2)) (.cells #[.int .i64 2, .slice (some ⟨w4.heap.size, 0, none⟩) 1 1] 51)
    simpa using this
  have rv : w5.heap[w4.heap.size]? = some (.cells #[.int .i64 7] 2 (0, 0)) := by
    rw [hw5]
    exact ((below_alloc (w4.alloc (.cells #[.int .i64 7] 2)) _).block w4.heap.size (by simp)).trans (heap_alloc_new w4 _)
  have B5 := hide b5
  have hok : CmOk False w5 (fun _ => True) ⟨1, 0, 0, 0, .slice none 0 0, .slice (some ⟨w4.heap.size + 1, 0, none⟩) 1 1, [], [(2, [7])]⟩ := by
    refine ⟨⟨⟨none, 0, rfl, Nat.le_refl _, Nat.zero_le _, fun j hj => absurd hj (by simp)⟩, fun j e => trivial⟩, ⟨[(2, some ⟨w4.heap.size, 0, none⟩, 1, 1)], ⟨some ⟨w4.heap.size + 1, 0, none⟩, 1, rfl, Nat.le_refl _, by unfold maxLen; simp, fun j hj => ⟨w4.heap.size + 1, 0, rfl, ?_⟩⟩, rfl, fun j e => trivial, fun i h1 h2 => ?_, fun h => h.elim⟩, ⟨by simp, by simp, by simp, by simp, by simp, ⟨by simp only; omega, by simp only; omega⟩⟩, fun h => h.elim⟩
    · obtain rfl : j = 0 := by simpa using hj
      exact ⟨by rw [cell_of_row w5 _ _ _ 51 (0, 0) rp]; rfl, by rw [cell_of_row w5 _ _ _ 51 (0, 0) rp]; rfl⟩
    · obtain rfl : i = 0 := by simpa using h1
      refine ⟨rfl, ⟨some ⟨w4.heap.size, 0, none⟩, 1, rfl, Nat.le_refl _, by unfold maxLen; simp, fun j hj => ⟨w4.heap.size, 0, rfl, ?_⟩⟩, fun j e => trivial⟩
      obtain rfl : j = 0 := by simpa using hj
      rw [cell_of_row w5 _ _ _ 2 (0, 0) rv]
      rfl
  have J5 : Hid (Calls Tryz.prog 8 #[.pointer (some ⟨gb, 0, none⟩), .int .i64 0, .agg #[.int .i64 9, .int .i64 1], .agg #[.int .i64 1, .int .i64 0, .int .i64 0, .int .i64 0, .slice none 0 0, .slice (some ⟨w4.heap.size + 1, 0, none⟩) 1 1]] w5 fun e w' => e = .returned (.int .i64 0) ∧ ∃ c', Alike c' ⟨1, 0, 0, 0, .slice none 0 0, .slice (some ⟨w4.heap.size + 1, 0, none⟩) 1 1, [], [(2, [7])]⟩ ∧ Bf w' (fun k => ((k = gb ∨ k = gx) ∨ w3.heap.size ≤ k ∧ k < w4.heap.size) ∨ w5.heap.size ≤ k ∧ k < w'.heap.size) gb gx (fun e => if e = (0, 9) then (if ((0 : Int), (9 : Int)) = (1, 5) then [] ++ [c1] else []) ++ [c'] else if e = (1, 5) then [] ++ [c1] else []) 2 ∧ Mv w5 w' (fun k => (k = gb ∨ k = gx) ∨ w3.heap.size ≤ k ∧ k < w4.heap.size)) := (HB4.out.later b5).put 0 9 1 ⟨⟨by omega, by omega⟩, by omega, by omega⟩ hok (by omega)
  clear b5 rp rv hok HB4
  go_wp2_with fail
  rw [← hw5]
  clear hw5
  refine J5.out.mono ?_
  rintro e w6 ⟨rfl, c2, hc2, hB6, m6⟩
  have HC2 := hide hc2
  obtain ⟨L, hL⟩ : ∃ L : Int × Int → List Cm, L = fun e => if e = (0, 9) then [c2] else if e = (1, 5) then [c1] else [] := ⟨_, rfl⟩
  have hB6' : Bf w6 (fun k => ((k = gb ∨ k = gx) ∨ w3.heap.size ≤ k ∧ k < w4.heap.size) ∨ w5.heap.size ≤ k ∧ k < w6.heap.size) gb gx L 2 := by
    rw [hL]
    exact hB6
  have hLk : ∀ ss : List (Int × Int), (∀ x, x ∈ ss ↔ L x ≠ []) → ss.Pairwise ltT → allL L ss = [c2, c1] := fun ss h1 h2 => by
    obtain rfl := two_keys (by rw [hL]; simp) (by rw [hL]; simp) (fun x e1 e2 => by rw [hL]; simp [e1, e2]) h1 h2
    unfold allL
    rw [hL]
    simp
  have HLK := hide hLk
  -- the world's side, from w3 on
  have hm36 : Mv w3 w6 (fun k => k = gb ∨ k = gx) := ((M4.out.later B5.out).trans m6 (fun k hk e => by
    rcases e with e | e
    · exact e
    · omega))
  have hx6 := HX3.out.frame hm36 (fun k hk e => (HQ3.out k e).1)
  have HX6 := hide hx6
  have HB6 := hide hB6'
  have HM36 := hide hm36
  have BW6 : Hid (Below w.heap.size w w6) := BW3.out.trans (hm36.below BW3.out.size (fun k e => (HQ3.out k e).2.1))
  have JA : Hid (Calls Tryz.prog 11 #[.pointer (some ⟨gb, 0, none⟩)] w6 fun e w' => ∃ g c, e = .returned (.slice (some ⟨g, 0, none⟩) 2 c) ∧ (∃ cs, w'.heap[g]? = some (.cells cs 38 (0, 0))) ∧ w6.heap.size ≤ g ∧ (w'.cell? ⟨g, 0, none⟩ = some (.int .i64 1) ∧ w'.cell? ⟨g, 6, none⟩ = some (.int .i64 2)) ∧ Below w6.heap.size w6 w') := hide ((hB6'.all (by omega)).mono (by
    rintro e w' ⟨v, ss, l, e1, ⟨q1, q2⟩, ⟨q3, q4⟩, q5, q6⟩
    have ea := hLk ss q1 q2
    rw [ea] at q3 q4
    match l, q3, q4, q5 with
    | [x, y], _, q4, q5 =>
      have h0 : x.op = 1 := (q4 0 (by simp) (by simp)).1.trans hc2.1
      have h1 : y.op = 2 := (q4 1 (by simp) (by simp)).1.trans HC1.out.1
      rcases q5.2 with ⟨-, e0⟩ | ⟨g, c, cur, rfl, hg, -, -⟩
      · simp at e0
      · obtain ⟨cs, hcs⟩ := own_ty q5 (g := g) rfl
        exact ⟨g, c, e1, ⟨cs, hcs⟩, hg, ⟨(q5.cellAt 0 (by simp)).trans (congrArg (fun t => some (Value.int .i64 t)) h0), (q5.cellAt 6 (by simp)).trans (congrArg (fun t => some (Value.int .i64 t)) h1)⟩, q6⟩))
  have HS34 : Hid (w3.heap.size ≤ w4.heap.size) := M4.out.size
  clear hL hB6 hB6' hLk m6 hm36 hx6 hc2 J5 HX3 M4
  go_wp2_with fail
  refine JA.out.mono ?_
  rintro e w7 ⟨gl, cl, rfl, hcs, hgl, hc7, b7⟩
  have JP : Hid (Calls Tryz.prog 9 #[.pointer (some ⟨gb, 0, none⟩), .pointer (some ⟨gw, 0, none⟩)] w7 fun e w' => ∃ g c, e = .returned (.tuple #[.slice (some ⟨g, 0, none⟩) 1 c, .int .i64 0]) ∧ (w'.cell? ⟨g, 0, none⟩ = some (.int .i64 0) ∧ w'.cell? ⟨g, 1, none⟩ = some (.int .i64 1)) ∧ (w'.cell? ⟨gl, 0, none⟩ = some (.int .i64 1) ∧ w'.cell? ⟨gl, 6, none⟩ = some (.int .i64 2)) ∧ Hid (Below w.heap.size w w' ∧ ∃ own' N σ, Wn w' own' gw N bksK σ.1 σ.2.1 σ.2.2 ∧ (σ : St).2.2 (0, 1) = none)) := by
    refine hide (((HB6.out.later b7).apply (by omega) (HX6.out.later b7) (by omega) (fun k hk hQ => ?_)).mono ?_)
    · have h6 := HM36.out.size
      have key : rel own w3 0 k = 0 ∨ w6.heap.size ≤ k := by
        by_cases h1 : k < w3.heap.size
        · left
          rw [rel_old h1]
          rcases hQ with (h2 | h2) | h2
          · exact (HQ3.out k h2).1
          · omega
          · have := HS34.out
            have := B5.out.size
            exact absurd h2 (by omega)
        · exact .inl (rel_new (by omega))
      rcases key with h | h
      · by_cases h1 : k < w6.heap.size
        · rw [rel_old h1]
          exact h
        · exact rel_new (by omega)
      · exact rel_new h
    · rintro e w' ⟨v, rf, rfl, σ, l, ss, own', ⟨q1, q2⟩, hr, ⟨hrow, -⟩, hw, hk⟩
      rw [HLK.out ss q1 q2] at hr
      obtain ⟨rfl, rfl, hn⟩ := run_two ⟨HC2.out.1, HC2.out.2.2.2.2.2⟩ ⟨HC1.out.1, HC1.out.2.1, HC1.out.2.2.1⟩ hr
      obtain ⟨cs, hcs⟩ := hcs
      have h6 := HM36.out.size
      have er : w'.heap[gl]? = some (.cells cs 38 (0, 0)) := hk.2.at hcs (fun e => e.1 (rel_new hgl))
      have ec : ∀ j, w'.cell? ⟨gl, j, none⟩ = w7.cell? ⟨gl, j, none⟩ := fun j => by
        rw [cell_of_row w' _ _ _ 38 (0, 0) er, cell_of_row w7 _ _ _ 38 (0, 0) hcs]
      have hbb : Below w.heap.size w w' := (below_on BW6.out b7).trans ⟨hk.2.1, hk.2.2.1, hk.2.2.2.1, hk.2.2.2.2.1, fun k hk2 => hk.2.2.2.2.2 k (by have := BW6.out.size; have := b7.size; omega) (fun e => e.1 (by rw [rel_old (by have := BW6.out.size; omega), rel_old (by have := BW3.out.size; omega)]; exact HO3.out k hk2))⟩
      rcases hrow.2 with ⟨-, e0⟩ | ⟨g, c, cur, rfl, -, -, -⟩
      · simp at e0
      · exact ⟨g, c, rfl, ⟨(hrow.cellAt 0 (by simp)).trans rfl, (hrow.cellAt 1 (by simp)).trans rfl⟩, ⟨(ec 0).trans hc7.1, (ec 6).trans hc7.2⟩, hbb, own', _, σ, hw, hn⟩
  clear hcs hgl hc7 b7 JA HB6 HX6 HC1 HC2 HLK BW6 HM36 HQ3 HO3 BW3
  go_wp2_with fail
  refine JP.out.mono ?_
  rintro e w8 ⟨ge, ce, rfl, ⟨x0, x1⟩, ⟨y0, y1⟩, hh⟩
  obtain ⟨bb, own', N, σ, hw, hn⟩ := hh.out
  have J6 : Hid (Calls Tryz.prog 13 #[.pointer (some ⟨gw, 0, none⟩), .agg #[.int .i64 0, .int .i64 1]] w8 fun e w' => e = .returned (.bool false) ∧ Below w8.heap.size w8 w') := by
    have h := hw.lives 0 1
    rw [hn] at h
    exact h
  have BB := hide bb
  clear hh JP bb hw
  go_wp2_with fail
  refine J6.out.mono ?_
  rintro e w9 ⟨rfl, b9⟩
  have B9 : Hid (Below w.heap.size w w9) := below_on BB.out b9
  clear J6 BB b9
  go_wp2_with fail
  go_ret
  exact ⟨rfl, B9.out⟩
end Go.Proofs.YtfbhoemfabgjpaaGreat

/-
  Buffer: two buffers and a world beside one another; a buffer and two worlds.
-/
namespace Go.Proofs.YtfbhoemfabgjpaaGreat
open Go.RowKit
set_option maxRecDepth 100000
/-- Two buffers and a world. -/
structure Lw (w W : World) (Qa Qb : Nat → Prop) (own : Nat → Nat) (ga gx : Nat) (La : Int × Int → List Cm) (na gb gy : Nat) (Lb : Int × Int → List Cm) (nb gw N : Nat) (ks : List Kind) (σ : St) : Prop where
  a : Bf W Qa ga gx La na
  b : Bf W Qb gb gy Lb nb
  wn : Wn W own gw N ks σ.1 σ.2.1 σ.2.2
  qa : ∀ k, Qa k → k < W.heap.size ∧ own k = 0 ∧ ¬ Qb k ∧ w.heap.size ≤ k
  qb : ∀ k, Qb k → k < W.heap.size ∧ own k = 0 ∧ w.heap.size ≤ k
  od : ∀ k, k < w.heap.size → own k = 0
  bl : Below w.heap.size w W
section
variable {w W W' : World} {Qa Qb : Nat → Prop} {own : Nat → Nat} {ga gx na gb gy nb gw N : Nat} {La Lb : Int × Int → List Cm} {ks : List Kind} {σ : St}
theorem Lw.later (h : Lw w W Qa Qb own ga gx La na gb gy Lb nb gw N ks σ) (hb : Below W.heap.size W W') : Lw w W' Qa Qb (rel own W 0) ga gx La na gb gy Lb nb gw N ks σ where
  a := h.a.later hb
  b := h.b.later hb
  wn := h.wn.later hb
  qa := fun k hk => by
    obtain ⟨h1, h2, h3, h4⟩ := h.qa k hk
    exact ⟨by have := hb.size; omega, by rw [rel_old h1]; exact h2, h3, h4⟩
  qb := fun k hk => by
    obtain ⟨h1, h2, h3⟩ := h.qb k hk
    exact ⟨by have := hb.size; omega, by rw [rel_old h1]; exact h2, h3⟩
  od := fun k hk => by rw [rel_old (by have := h.bl.size; omega)]; exact h.od k hk
  bl := below_on h.bl hb
theorem Lw.putA {La' : Int × Int → List Cm} {na' : Nat} (h : Lw w W Qa Qb own ga gx La na gb gy Lb nb gw N ks σ) (ha : Bf W' (fun k => Qa k ∨ W.heap.size ≤ k ∧ k < W'.heap.size) ga gx La' na') (hm : Mv W W' Qa) : Lw w W' (fun k => Qa k ∨ W.heap.size ≤ k ∧ k < W'.heap.size) Qb (rel own W 0) ga gx La' na' gb gy Lb nb gw N ks σ where
  a := ha
  b := h.b.frame hm (fun k _ hk e => (h.qa k e).2.2.1 hk)
  wn := h.wn.frame hm (fun k _ hk => (h.qa k hk).2.1)
  qa := fun k hk => by
    have hs := hm.size
    rcases hk with hk | hk
    · obtain ⟨h1, h2, h3, h4⟩ := h.qa k hk
      exact ⟨by omega, by rw [rel_old h1]; exact h2, h3, h4⟩
    · exact ⟨hk.2, rel_new hk.1, fun e => by have := (h.qb k e).1; omega, by have := h.bl.size; omega⟩
  qb := fun k hk => by
    obtain ⟨h1, h2, h3⟩ := h.qb k hk
    exact ⟨by have := hm.size; omega, by rw [rel_old h1]; exact h2, h3⟩
  od := fun k hk => by rw [rel_old (by have := h.bl.size; omega)]; exact h.od k hk
  bl := h.bl.trans (hm.below h.bl.size (fun k hk => (h.qa k hk).2.2.2))
theorem Lw.putB {Lb' : Int × Int → List Cm} {nb' : Nat} (h : Lw w W Qa Qb own ga gx La na gb gy Lb nb gw N ks σ) (hb : Bf W' (fun k => Qb k ∨ W.heap.size ≤ k ∧ k < W'.heap.size) gb gy Lb' nb') (hm : Mv W W' Qb) : Lw w W' Qa (fun k => Qb k ∨ W.heap.size ≤ k ∧ k < W'.heap.size) (rel own W 0) ga gx La na gb gy Lb' nb' gw N ks σ where
  a := h.a.frame hm (fun k _ hk e => (h.qa k hk).2.2.1 e)
  b := hb
  wn := h.wn.frame hm (fun k _ hk => (h.qb k hk).2.1)
  qa := fun k hk => by
    have hs := hm.size
    obtain ⟨h1, h2, h3, h4⟩ := h.qa k hk
    exact ⟨by omega, by rw [rel_old h1]; exact h2, fun e => by rcases e with e | e; exact h3 e; omega, h4⟩
  qb := fun k hk => by
    have hs := hm.size
    rcases hk with hk | hk
    · obtain ⟨h1, h2, h3⟩ := h.qb k hk
      exact ⟨by omega, by rw [rel_old h1]; exact h2, h3⟩
    · exact ⟨hk.2, rel_new hk.1, by have := h.bl.size; omega⟩
  od := fun k hk => by rw [rel_old (by have := h.bl.size; omega)]; exact h.od k hk
  bl := h.bl.trans (hm.below h.bl.size (fun k hk => (h.qb k hk).2.2))
theorem Lw.did {own' : Nat → Nat} {N' : Nat} {σ' : St} (h : Lw w W Qa Qb own ga gx La na gb gy Lb nb gw N ks σ) (hw : Wn W' own' gw N' ks σ'.1 σ'.2.1 σ'.2.2) (hk : Wk own own' W W') : Lw w W' Qa Qb own' ga gx La na gb gy Lb nb gw N' ks σ' where
  a := h.a.frame hk.2 (fun k _ hq e => e.1 (h.qa k hq).2.1)
  b := h.b.frame hk.2 (fun k _ hq e => e.1 (h.qb k hq).2.1)
  wn := hw
  qa := fun k hq => by
    obtain ⟨h1, h2, h3, h4⟩ := h.qa k hq
    exact ⟨by have := hk.2.size; omega, by rw [hk.1 k h1]; exact h2, h3, h4⟩
  qb := fun k hq => by
    obtain ⟨h1, h2, h3⟩ := h.qb k hq
    exact ⟨by have := hk.2.size; omega, by rw [hk.1 k h1]; exact h2, h3⟩
  od := fun k hq => by rw [hk.1 k (by have := h.bl.size; omega)]; exact h.od k hq
  bl := h.bl.trans ⟨hk.2.1, hk.2.2.1, hk.2.2.2.1, hk.2.2.2.2.1, fun k hq => hk.2.2.2.2.2 k (by have := h.bl.size; omega) (fun e => e.1 (h.od k hq))⟩
end
/-- A buffer and two worlds, which share their kinds alone. -/
structure Lx (w W : World) (Qb : Nat → Prop) (own own2 : Nat → Nat) (gb gy : Nat) (Lb : Int × Int → List Cm) (nb gw gv N : Nat) (ks : List Kind) (σ τ : St) : Prop where
  b : Bf W Qb gb gy Lb nb
  wn : Wn W own gw N ks σ.1 σ.2.1 σ.2.2
  wv : Wn W own2 gv N ks τ.1 τ.2.1 τ.2.2
  qb : ∀ k, Qb k → k < W.heap.size ∧ (own k = 0 ∧ own2 k = 0) ∧ w.heap.size ≤ k
  sp : ∀ k, k < W.heap.size → (own k ≠ 0 → own k ≠ 2 → own2 k = 0) ∧ (own2 k ≠ 0 → own2 k ≠ 2 → own k = 0)
  od : ∀ k, k < w.heap.size → own k = 0 ∧ own2 k = 0
  bl : Below w.heap.size w W
section
variable {w W W' : World} {Qa Qb : Nat → Prop} {own own2 : Nat → Nat} {ga gx na gb gy nb gw gv N : Nat} {La Lb : Int × Int → List Cm} {ks : List Kind} {σ τ : St}
theorem Lx.later (h : Lx w W Qb own own2 gb gy Lb nb gw gv N ks σ τ) (hb : Below W.heap.size W W') : Lx w W' Qb (rel own W 0) (rel own2 W 0) gb gy Lb nb gw gv N ks σ τ where
  b := h.b.later hb
  wn := h.wn.later hb
  wv := h.wv.later hb
  qb := fun k hk => by
    obtain ⟨h1, h2, h3⟩ := h.qb k hk
    exact ⟨by have := hb.size; omega, by rw [rel_old h1, rel_old h1]; exact h2, h3⟩
  sp := fun k hk => by
    by_cases h1 : k < W.heap.size
    · rw [rel_old h1, rel_old h1]
      exact h.sp k h1
    · rw [rel_new (by omega), rel_new (by omega)]
      exact ⟨fun e => absurd rfl e, fun e => absurd rfl e⟩
  od := fun k hk => by rw [rel_old (by have := h.bl.size; omega), rel_old (by have := h.bl.size; omega)]; exact h.od k hk
  bl := below_on h.bl hb
/-- The one world is turned. -/
theorem Lx.did {own' : Nat → Nat} {N' : Nat} {σ' : St} (h : Lx w W Qb own own2 gb gy Lb nb gw gv N ks σ τ) (hw : Wn W' own' gw N' ks σ'.1 σ'.2.1 σ'.2.2) (hN : N ≤ N') (hk : Wk own own' W W') : Lx w W' Qb own' (rel own2 W 0) gb gy Lb nb gw gv N' ks σ' τ where
  b := h.b.frame hk.2 (fun k _ hq e => e.1 (h.qb k hq).2.1.1)
  wn := hw
  wv := (h.wv.frame hk.2 (fun k hk1 e => (h.sp k hk1).1 e.1 e.2)).up hN
  qb := fun k hq => by
    obtain ⟨h1, h2, h3⟩ := h.qb k hq
    exact ⟨by have := hk.2.size; omega, by rw [hk.1 k h1, rel_old h1]; exact h2, h3⟩
  sp := fun k hq => by
    by_cases h1 : k < W.heap.size
    · rw [rel_old h1, hk.1 k h1]
      exact h.sp k h1
    · rw [rel_new (by omega)]
      exact ⟨fun _ _ => rfl, fun e => absurd rfl e⟩
  od := fun k hq => by rw [hk.1 k (by have := h.bl.size; omega), rel_old (by have := h.bl.size; omega)]; exact h.od k hq
  bl := h.bl.trans ⟨hk.2.1, hk.2.2.1, hk.2.2.2.1, hk.2.2.2.2.1, fun k hq => hk.2.2.2.2.2 k (by have := h.bl.size; omega) (fun e => e.1 (h.od k hq).1)⟩
/-- The two are alike. -/
theorem Lx.turn (h : Lx w W Qb own own2 gb gy Lb nb gw gv N ks σ τ) : Lx w W Qb own2 own gb gy Lb nb gv gw N ks τ σ where
  b := h.b
  wn := h.wv
  wv := h.wn
  qb := fun k hk => ⟨(h.qb k hk).1, (h.qb k hk).2.1.symm, (h.qb k hk).2.2⟩
  sp := fun k hk => (h.sp k hk).symm
  od := fun k hk => (h.od k hk).symm
  bl := h.bl
/-- A clone. -/
theorem Lw.cloned {g' : Nat} (h : Lw w W Qa Qb own ga gx La na gb gy Lb nb gw N ks σ) (hb : Below W.heap.size W W') (hv : Wn W' own2 g' (N + 8192) ks σ.1 σ.2.1 σ.2.2) (ho : ∀ k, k < W.heap.size → own2 k = if own k = 2 then 2 else 0) : Lx w W' Qb (rel own W 0) own2 gb gy Lb nb gw g' (N + 8192) ks σ σ where
  b := h.b.later hb
  wn := (h.wn.later hb).up (by omega)
  wv := hv
  qb := fun k hk => by
    obtain ⟨h1, h2, h3⟩ := h.qb k hk
    exact ⟨by have := hb.size; omega, ⟨by rw [rel_old h1]; exact h2, by rw [ho k h1, h2]; rfl⟩, h3⟩
  sp := fun k hk => by
    by_cases h1 : k < W.heap.size
    · rw [rel_old h1, ho k h1]
      refine ⟨fun _ e => by rw [if_neg e], fun e1 e2 => ?_⟩
      by_cases e : own k = 2
      · rw [if_pos e] at e2
        exact absurd rfl e2
      · rw [if_neg e] at e1
        exact absurd rfl e1
    · rw [rel_new (by omega)]
      exact ⟨fun e => absurd rfl e, fun _ _ => rfl⟩
  od := fun k hk => by
    have h1 := h.bl.size
    rw [rel_old (by omega), ho k (by omega), h.od k hk]
    exact ⟨rfl, rfl⟩
  bl := below_on h.bl hb
end
end Go.Proofs.YtfbhoemfabgjpaaGreat

/-
  Buffer: the steps that come in.
-/
namespace Go.Proofs.YtfbhoemfabgjpaaGreat
open Go.RowKit
set_option maxRecDepth 100000
/-- A step: a system, an entity, a command. -/
structure Sm where
  s : Int
  x : Int
  y : Int
  c : Cm
def SwAt (V : World) (g o j : Nat) (m : Sm) : Prop :=
  V.cell? ⟨g, o + j * 13 + 3, none⟩ = some (.int .i64 m.s) ∧ (V.cell? ⟨g, o + j * 13 + 5, none⟩ = some (.int .i64 m.x) ∧ V.cell? ⟨g, o + j * 13 + 5 + 1, none⟩ = some (.int .i64 m.y)) ∧ V.cell? ⟨g, o + j * 13 + 7, none⟩ = some (.int .i64 m.c.op) ∧ V.cell? ⟨g, o + j * 13 + 7 + 1, none⟩ = some (.int .i64 m.c.ix) ∧ V.cell? ⟨g, o + j * 13 + 7 + 2, none⟩ = some (.int .i64 m.c.gn) ∧ V.cell? ⟨g, o + j * 13 + 7 + 3, none⟩ = some (.int .i64 m.c.kd) ∧ V.cell? ⟨g, o + j * 13 + 7 + 4, none⟩ = some m.c.vs ∧ V.cell? ⟨g, o + j * 13 + 7 + 5, none⟩ = some m.c.ps
def Sw (w : World) (a : Option Addr) (g o : Nat) (l : List Sm) : Prop :=
  (0 < l.length → a = some ⟨g, o, none⟩ ∧ g < w.heap.size) ∧ ∀ j (hj : j < l.length), SwAt w g o j l[j] ∧ InB (l[j].s, l[j].x) ∧ CmOk False w (fun _ => True) l[j].c
theorem Sw.at {w V : World} {a : Option Addr} {g o : Nat} {l : List Sm} (h : Sw w a g o l) (hb : Below w.heap.size w V) {j : Nat} (hj : j < l.length) : SwAt V g o j l[j] := by
  have hg := (h.1 (by omega)).2
  have hm := Mv.of_below hb (fun _ => False)
  obtain ⟨⟨c0, ⟨c1, c2⟩, c3, c4, c5, c6, c7, c8⟩, -⟩ := h.2 j hj
  exact ⟨hm.cell c0 id, ⟨hm.cell c1 id, hm.cell c2 id⟩, hm.cell c3 id, hm.cell c4 id, hm.cell c5 id, hm.cell c6 id, hm.cell c7 id, hm.cell c8 id⟩
end Go.Proofs.YtfbhoemfabgjpaaGreat
