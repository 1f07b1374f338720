/-
  The law's from.
-/
import Derived.Test.YtejbdhbphbgckaaLent
namespace Go.Proofs.Ytejbdhbphbgckaa
open Go.RowKit
theorem alloc_last (w : World) (cs : Array Value) (t : TypeId) : (w.alloc (.cells cs t)).heap[w.heap.size]? = some (.cells cs t (0, 0)) := by
  show (w.heap.push _)[w.heap.size]? = _
  simp
/-- What both Froms answer. -/
def Gx (w : World) (most : Int) (G F : List Int) (p : Option Addr) (x : Int) (w' : World) : Prop :=
  (p = none ∧ x = 1 ∧ ¬ Good most G F) ∨ ∃ g n gs fr, p = some ⟨g, 0, none⟩ ∧ x = 0 ∧ most = (n : Nat) ∧ G = up gs ∧ F = up fr ∧ Pl w' (fun k => w.heap.size ≤ k) g n gs fr
theorem got_gx {w : World} {most : Int} {G F : List Int} {e : Ending} {w' : World} (h : Got w most G F e w') : ∃ p x, e = .returned (.tuple #[.pointer p, .int .i64 x]) ∧ Gx w most G F p x w' ∧ Below w.heap.size w w' := by
  obtain ⟨hb, ⟨rfl, hn⟩ | ⟨g, n, gs, fr, rfl, h1, h2, h3, h4⟩⟩ := h
  · exact ⟨_, _, rfl, .inl ⟨rfl, rfl, hn⟩, hb⟩
  · exact ⟨_, _, rfl, .inr ⟨g, n, gs, fr, rfl, rfl, h1, h2, h3, h4⟩, hb⟩
def Dx (w : World) (most : Int) (G F : List Int) (p : Option Addr) (w' : World) : Prop :=
  (p = none ∧ ¬ Good most G F) ∨ ∃ g n gs fr, p = some ⟨g, 0, none⟩ ∧ most = (n : Nat) ∧ G = up gs ∧ F = up fr ∧ Dl w' (fun k => w.heap.size ≤ k) g n gs fr
theorem gx_dx {w w1 W : World} {most : Int} {G F : List Int} {p : Option Addr} {x : Int} {e : Ending} {w' : World} (h : Gx w most G F p x w1) (k : DGot W most G F e w') : ∃ q, e = .returned (.tuple #[.pointer q, .int .i64 x]) ∧ q.isNone = p.isNone ∧ Dx W most G F q w' ∧ Below W.heap.size W w' := by
  obtain ⟨hb, ⟨rfl, hn⟩ | ⟨g, n, gs, fr, rfl, h1, h2, h3, h4⟩⟩ := k
  · rcases h with ⟨rfl, rfl, _⟩ | ⟨g, n, gs, fr, rfl, rfl, a1, a2, a3, a4⟩
    · exact ⟨none, rfl, rfl, .inl ⟨rfl, hn⟩, hb⟩
    · exact absurd ⟨n, gs, fr, a1, a2, a3, a4.2⟩ hn
  · rcases h with ⟨rfl, rfl, hn⟩ | ⟨g', n', gs', fr', rfl, rfl, a1, a2, a3, a4⟩
    · exact absurd ⟨n, gs, fr, h1, h2, h3, h4.2⟩ hn
    · exact ⟨_, rfl, rfl, .inr ⟨g, n, gs, fr, rfl, h1, h2, h3, h4⟩, hb⟩
/-- Written over, up to a place. -/
def ov (A : List Int) (i : Nat) : List Int := List.replicate i (-7) ++ A.drop i
theorem ov_zero (A : List Int) : ov A 0 = A := by simp [ov]
theorem ov_len (A : List Int) (i : Nat) (h : i ≤ A.length) : (ov A i).length = A.length := by simp [ov]; omega
theorem ov_at (A : List Int) (i : Nat) (h : i < A.length) (h2 : i < (ov A i).length) : (ov A i)[i] = A[i] := by
  simp [ov]
theorem ov_set (A : List Int) (i : Nat) (h : i < A.length) : (ov A i).set i (-7) = ov A (i + 1) := by
  unfold ov
  rw [List.set_append_right _ _ (by simp), List.drop_eq_getElem_cons h, List.length_replicate, Nat.sub_self, List.set_cons_zero, List.replicate_succ', List.append_assoc]
  rfl
theorem Rz.frozen {w : World} {g : Nat} {l : List Int} (h : Rz w g l) (j : Nat) : w.frozen? ⟨g, j, none⟩ = false := by
  unfold Rz at h
  simp [World.frozen?, h]
theorem Rz.set {w : World} {g : Nat} {l : List Int} (h : Rz w g l) (j : Nat) (z : Int) : Rz (w.setCell ⟨g, j, none⟩ (.int .i64 z)) g (l.set j z) := by
  unfold Rz at h ⊢
  rw [heap_setCell_same _ g j _ 3 _ h]
  simp [zc, List.map_set]
theorem Ls.over1 {w W : World} {ga gb i : Nat} {A B : List Int} (h : Ls w W ga gb (ov A i) B) (hi : i < A.length) {W' : World} (hb : Below W.heap.size W W') : Ls w (W'.setCell ⟨ga, i, none⟩ (.int .i64 (-7))) ga gb (ov A (i + 1)) B := by
  have h' := h.later hb
  refine h'.first ?_ (grown_set _ _ _ _)
  rw [← ov_set A i hi]
  exact h'.2.2.1.set i _
theorem Ls.over2 {w W : World} {ga gb i : Nat} {A B : List Int} (h : Ls w W ga gb A (ov B i)) (hi : i < B.length) {W' : World} (hb : Below W.heap.size W W') : Ls w (W'.setCell ⟨gb, i, none⟩ (.int .i64 (-7))) ga gb A (ov B (i + 1)) := by
  have h' := h.later hb
  refine h'.second ?_ (grown_set _ _ _ _)
  rw [← ov_set B i hi]
  exact h'.2.2.2.1.set i _
theorem tail_zero (G : List Int) (i : Nat) (h : ¬ i < G.length) (h2 : i < (G ++ List.replicate 8 (0 : Int)).length) : (G ++ List.replicate 8 (0 : Int))[i] = 0 := by
  rw [List.getElem_append_right (by omega), List.getElem_replicate]
theorem mv_write {w W W' : World} {S : Nat → Prop} {g j : Nat} {u : Value} (h : Mv w W S) (hb : Below W.heap.size W W') (hs : S g) : Mv w (W'.setCell ⟨g, j, none⟩ u) S :=
  have hg : W'.grownBy (W'.setCell ⟨g, j, none⟩ u) (some g) := grown_set _ _ _ _
  ⟨hg.os.trans (hb.os.trans h.1), hg.tape.trans (hb.tape.trans h.2.1), hg.output.trans (hb.output.trans h.2.2.1), Nat.le_trans h.2.2.2.1 (Nat.le_trans hb.size hg.size), fun k hk hn => (hg.block k (Nat.lt_of_lt_of_le hk (Nat.le_trans h.2.2.2.1 hb.size)) (fun e => by cases e; exact hn hs)).trans ((hb.block k (Nat.lt_of_lt_of_le hk h.2.2.2.1)).trans (h.2.2.2.2 k hk hn))⟩
/-- What from answers: a pair, each with its blocks, or none. -/
def Fd (w : World) (most : Int) (G F : List Int) (e : Ending) (w' : World) : Prop :=
  ∃ p q : Option Addr, e = .returned (.tuple #[.agg #[.pointer p, .pointer q], .bool true]) ∧ Below w.heap.size w w' ∧
    ((p = none ∧ q = none ∧ ¬ Good most G F) ∨ ∃ (gp gq n : Nat) (gs fr : List Nat) (S T : Nat → Prop), p = some ⟨gp, 0, none⟩ ∧ q = some ⟨gq, 0, none⟩ ∧ most = (n : Nat) ∧ G = up gs ∧ F = up fr ∧ Pl w' S gp n gs fr ∧ Dl w' T gq n gs fr ∧ (∀ k, S k → w.heap.size ≤ k) ∧ (∀ k, T k → w.heap.size ≤ k) ∧ ∀ k, S k → ¬ T k)
theorem from_end {w W w5 w6 wr : World} {ga gb : Nat} {A B G F : List Int} {most x : Int} {p q : Option Addr} (h1 : Gx W most G F p x w5) (k1 : ga < W.heap.size) (k2 : gb < W.heap.size) (h2 : q.isNone = p.isNone) (h3 : Dx w5 most G F q w6) (h4 : Below w5.heap.size w5 w6) (h0 : Below W.heap.size W w5) (h5 : Mv w6 wr (fun k => k = ga ∨ k = gb)) (h6 : Ls w wr ga gb A B) :
    Fd w most G F (.returned (.tuple #[.agg #[.pointer p, .pointer q], .bool true])) ((wr.setCell ⟨w.heap.size, 0, none⟩ (.pointer p)).setCell ⟨w.heap.size, 1, none⟩ (.pointer q)) := by
  obtain ⟨b1, b2, b3, b4, b5, b6⟩ := h6
  have hM : Mv w6 ((wr.setCell ⟨w.heap.size, 0, none⟩ (.pointer p)).setCell ⟨w.heap.size, 1, none⟩ (.pointer q)) (fun k => k < W.heap.size) := by
    refine mv_write (mv_write (h5.mono ?_) (Below.refl _ _) (by omega)) (Below.refl _ _) (by omega)
    rintro k - (rfl | rfl) <;> assumption
  refine ⟨p, q, rfl, (b1.grown (grown_set _ _ _ _) b1.size (fun k e => by cases e; exact Nat.le_refl _)).grown (grown_set _ _ _ _) (by simpa using b1.size) (fun k e => by cases e; exact Nat.le_refl _), ?_⟩
  rcases h1 with ⟨rfl, rfl, hn⟩ | ⟨g, n, gs, fr, rfl, rfl, a1, a2, a3, a4⟩
  · rcases h3 with ⟨rfl, _⟩ | ⟨g', n', gs', fr', rfl, _⟩
    · exact .inl ⟨rfl, rfl, hn⟩
    · cases h2
  · rcases h3 with ⟨rfl, _⟩ | ⟨g', n', gs', fr', rfl, c1, c2, c3, c4⟩
    · cases h2
    · have e1 : n' = n := by omega
      have e2 : gs' = gs := up_inj (c2.symm.trans a2)
      have e3 : fr' = fr := up_inj (c3.symm.trans a3)
      subst e1 e2 e3
      have hs := h0.size
      refine .inr ⟨g, g', n', gs', fr', _, _, rfl, rfl, a1, a2, a3, ((a4.tight).later h4).frame hM (fun k hk => by omega), c4.frame hM (fun k hk => by omega), fun k hk => by omega, fun k hk => by omega, fun k hk => by omega⟩
set_option maxHeartbeats 2000000 in
set_option maxRecDepth 100000 in
theorem lawfrom_any (most : Int) (v1 v2 : Value) (G F : List Int) (w : World) (h1 : Is w v1 G) (h2 : Is w v2 F) (hG : G.length ≤ 1000000000) (hF : F.length ≤ 1000000000) :
    Calls Try.prog 23 #[.int .i64 most, v1, v2] w (Fd w most G F) := by
  obtain ⟨i0, hi, hz0, hz1, hz2⟩ := info_parts info3
  have H1 := hide h1
  have H2 := hide h2
  obtain ⟨ao1, c1, rfl, a1, a2, -⟩ := h1
  obtain ⟨ao2, c2, rfl, b1, b2, -⟩ := h2
  unfold maxLen at a2 b2
  go_enter Try.func23, Try.ntmps23
  go_wp2_with (at_make; refine wpList_make_full _ rfl _ _ 33 rfl w.heap.size 3 i0 (.int .i64 0) 1 Try.underlying33 hi hz0 hz1 .i64 .i64 _ _ (G.length + 8) rfl rfl ?c1 ?c2 ?c3 ?c4 ?c5 ?_)
  case c1 => omega
  case c2 => omega
  case c3 => rw [hz2]; omega
  case c4 => unfold maxLen; omega
  case c5 => simp
  intro w1 hown hgrow
  rw [made_ints] at hown
  have R1 : Hid (Rz w1 (w.heap.size + 1) (List.replicate (G.length + 8) 0)) := (own_block hown).1
  have hx : w.alloc (.cells #[.pointer none, .pointer none] 28) = w.alloc (.cells #[.pointer none, .pointer none] 28) := rfl
  have B0 : Hid (Below (w.heap.size + 1) (w.alloc (.cells #[.pointer none, .pointer none] 28)) w1) := (Below.refl _ _).grown hgrow (by simp) (by intro k hk; cases hk)
  have S1 : Hid (w.heap.size + 1 < w1.heap.size) := R1.out.lt
  clear hown hgrow hx
  go_wp2_with (at_make; refine wpList_make_full _ rfl _ _ 33 rfl w.heap.size 3 i0 (.int .i64 0) 1 Try.underlying33 hi hz0 hz1 .i64 .i64 _ _ (F.length + 8) rfl rfl ?c1 ?c2 ?c3 ?c4 ?c5 ?_)
  case c1 => omega
  case c2 => omega
  case c3 => rw [hz2]; omega
  case c4 => unfold maxLen; omega
  case c5 => have := S1.out; omega
  intro w2 hown hgrow
  rw [made_ints] at hown
  have R2 : Hid (Rz w2 w1.heap.size (List.replicate (F.length + 8) 0)) := (own_block hown).1
  have B1 : Hid (Below w1.heap.size w1 w2) := (Below.refl _ _).grown hgrow (Nat.le_refl _) (by intro k hk; cases hk)
  clear hown hgrow
  have L2 : Hid (Ls w w2 (w.heap.size + 1) w1.heap.size (List.replicate (G.length + 8) 0) (List.replicate (F.length + 8) 0)) := by
    have hl0 : (w.alloc (.cells #[.pointer none, .pointer none] 28)).heap[w.heap.size]? = some (.cells #[.pointer none, .pointer none] 28 (0, 0)) := alloc_last w _ _
    have hb0 : Below w.heap.size w w1 := below_on (below_alloc w _) (by simpa using B0.out)
    exact ⟨below_on hb0 B1.out, (B1.out.block _ (by have := S1.out; omega)).trans ((B0.out.block _ (by omega)).trans hl0), R1.out.on B1.out S1.out, R2.out, by omega, S1.out⟩
  obtain ⟨ga, hga⟩ : ∃ x, x = w.heap.size + 1 := ⟨_, rfl⟩
  obtain ⟨gb, hgb⟩ : ∃ x, x = w1.heap.size := ⟨_, rfl⟩
  rw [← hga, ← hgb]
  rw [← hga, ← hgb] at L2
  clear R1 B0 S1 R2 B1 hga hgb
  have hs1 := hide (H1.out.src L2.out.1)
  go_wp2_with (refine wpList_copy_keep rfl _ _ 33 33 rfl 3 Try.underlying33 size3 _ _ _ _ _ _ rfl rfl ga 0 (zc (List.replicate (G.length + 8) 0)) 3 L2.out.2.2.1 (zc G) ?d1 ?d2 ?d3 (zc_one G) ?_)
  case d1 => rw [zc_len]; simp
  case d2 => intro h0; rw [zc_len] at h0; first | exact ⟨rfl, hs1.out h0⟩ | exact hs1.out h0
  case d3 => simp [zc_len]
  intro w3 hr hg
  rw [splice_lent] at hr
  have L3 := hide (L2.out.first hr hg)
  clear hr hg L2 hs1
  have hs2 := hide (H2.out.src L3.out.1)
  go_wp2_with (refine wpList_copy_keep rfl _ _ 33 33 rfl 3 Try.underlying33 size3 _ _ _ _ _ _ rfl rfl gb 0 (zc (List.replicate (F.length + 8) 0)) 3 L3.out.2.2.2.1 (zc F) ?d1 ?d2 ?d3 (zc_one F) ?_)
  case d1 => rw [zc_len]; simp
  case d2 => intro h0; rw [zc_len] at h0; first | exact ⟨rfl, hs2.out h0⟩ | exact hs2.out h0
  case d3 => simp [zc_len]
  intro w4 hr hg
  rw [splice_lent] at hr
  have L4 := hide (L3.out.second hr hg)
  clear hr hg L3 hs2
  have z1 : (0 : Int) ≤ (G.length : Int) := by omega
  have z2 : (G.length : Int) ≤ (G.length : Int) + 8 := by omega
  have z3 : (0 : Int) ≤ (F.length : Int) := by omega
  have z4 : (F.length : Int) ≤ (F.length : Int) + 8 := by omega
  have z5 : G.length ≤ G.length + 8 := by omega
  have z6 : F.length ≤ F.length + 8 := by omega
  have J : Hid (∀ W, Below w4.heap.size w4 W → Calls Try.prog 18 #[.int .i64 most, .slice (some ⟨ga, 0, none⟩) G.length (G.length + 8), .slice (some ⟨gb, 0, none⟩) F.length (F.length + 8)] W fun e w' => ∃ p x, e = .returned (.tuple #[.pointer p, .int .i64 x]) ∧ Hid (Gx W most G F p x w' ∧ (ga < W.heap.size ∧ gb < W.heap.size ∧ Below W.heap.size W w') ∧ Ls w w' ga gb (G ++ List.replicate 8 0) (F ++ List.replicate 8 0))) := fun W hW => by
    have hL := L4.out.later hW
    refine (from_any most _ _ G F W (hL.2.2.1.is (by omega) (by unfold maxLen; omega)) (hL.2.2.2.1.is (by omega) (by unfold maxLen; omega))).mono ?_
    intro e w' h
    obtain ⟨p, x, he, h1, h2⟩ := got_gx h
    exact ⟨p, x, he, h1, ⟨hL.2.2.1.lt, hL.2.2.2.1.lt, h2⟩, hL.later h2⟩
  go_upto_region 5 with fail
  go_region_held3 (fun _ => True) (go_keep) (first | (go_at_call 18; refine (J.out _ (below_drew _)).mono ?_; rintro e w5 ⟨p, x, rfl, HH⟩))
  have J2 : Hid (Calls Try.prog 34 #[.int .i64 most, .slice ao1 G.length c1, .slice ao2 F.length c2] w5 fun e w' => ∃ q, e = .returned (.tuple #[.pointer q, .int .i64 x]) ∧ Hid (q.isNone = p.isNone ∧ Dx w5 most G F q w' ∧ Below w5.heap.size w5 w' ∧ Ls w w' ga gb (G ++ List.replicate 8 0) (F ++ List.replicate 8 0))) := by
    refine (dfrom_any most _ _ G F w5 (H1.out.on HH.out.2.2.1) (H2.out.on HH.out.2.2.1)).mono ?_
    intro e w' h
    obtain ⟨q, he, h1, h2, h3⟩ := gx_dx HH.out.1 h
    exact ⟨q, he, h1, h2, h3, HH.out.2.2.later h3⟩
  clear J
  go_wp2_with (go_at_call 34; refine J2.out.mono ?_; rintro e w6 ⟨q, rfl, HD⟩)
  have hpq : (p.isNone == q.isNone) = true := by rw [HD.out.1]; simp
  rw [hpq]
  have L6 := hide HD.out.2.2.2
  clear hpq J2 L4
  obtain ⟨A, hA⟩ : ∃ x, x = G ++ List.replicate 8 (0 : Int) := ⟨_, rfl⟩
  obtain ⟨B, hB⟩ : ∃ x, x = F ++ List.replicate 8 (0 : Int) := ⟨_, rfl⟩
  rw [← hA, ← hB] at L6
  have lA : Hid (A.length = G.length + 8) := by rw [hA]; simp [Hid]
  have lB : Hid (B.length = F.length + 8) := by rw [hB]; simp [Hid]
  have EA := hide hA
  have EB := hide hB
  clear hA hB
  go_loopw [14, 15] (fun v14 v15 W => ∃ i : Nat, i ≤ G.length + 8 ∧ v15 = .int .i64 (i : Int) ∧ v14 = .bool true ∧ Hid (Ls w W ga gb (ov A i) B ∧ Mv w6 W (fun k => k = ga ∨ k = gb))) (fun _ v15 _ => G.length + 8 - (intOf v15).toNat)
  case atStart => exact ⟨0, Nat.zero_le _, rfl, rfl, by rw [ov_zero]; exact L6.out, Mv.refl _ _⟩
  case round =>
    obtain ⟨i, hil, rfl, rfl, HR⟩ := hrel
    by_cases hlt : i < G.length + 8
    · have hiA : i < A.length := by have := lA.out; omega
      have hcc : wr.cell? ⟨ga, i, none⟩ = some (.int .i64 A[i]) := by
        have hl : i < (ov A i).length := by rw [ov_len _ _ (by omega)]; exact hiA
        rw [HR.out.1.2.2.1.cell i hl, ov_at _ _ hiA]
      have hfz : wr.frozen? ⟨ga, i, none⟩ = false := HR.out.1.2.2.1.frozen i
      have HS : Hid (∀ W, Below wr.heap.size wr W → Ls w (W.setCell ⟨ga, i, none⟩ (.int .i64 (-7))) ga gb (ov A (i + 1)) B ∧ Mv w6 (W.setCell ⟨ga, i, none⟩ (.int .i64 (-7))) (fun k => k = ga ∨ k = gb)) := fun W hW => ⟨HR.out.1.over1 hiA hW, mv_write HR.out.2 hW (.inl rfl)⟩
      have t1 : (i : Int) < (G.length : Int) + 8 := by omega
      by_cases hg : i < G.length
      · have t2 : (i : Int) < (G.length : Int) := by omega
        have t3 : ¬ (G.length : Int) ≤ (i : Int) := by omega
        have hAi : A[i] = G[i] := by have := EA.out; subst this; rw [List.getElem_append_left hg]
        rw [hAi] at hcc
        obtain ⟨_, _, e, -, -, h3⟩ := H1.out.on HR.out.1.1
        simp only [Value.slice.injEq] at e
        obtain ⟨rfl, -, rfl⟩ := e
        obtain ⟨g, o, rfl, c1⟩ := h3 i hg
        clear hAi h3
        generalize G[i] = y at *
        go_wp2_with fail
        go_quiet (fail)
        go_wp2_with fail
        exact ⟨⟨i + 1, by omega, by go_num, rfl, HS.out _ (below_drawn _ _)⟩, by simp [intOf]; omega⟩
      · have t2 : ¬ (i : Int) < (G.length : Int) := by omega
        have t3 : (G.length : Int) ≤ (i : Int) := by omega
        have hAi : A[i] = 0 := by have := EA.out; subst this; exact tail_zero G i hg hiA
        rw [hAi] at hcc
        clear hAi
        go_wp2_with fail
        go_quiet (fail)
        go_wp2_with fail
        exact ⟨⟨i + 1, by omega, by go_num, rfl, HS.out _ (below_drawn _ _)⟩, by simp [intOf]; omega⟩
    · obtain rfl : i = G.length + 8 := by omega
      have t1 : ¬ (G.length : Int) + 8 < (G.length : Int) + 8 := by omega
      have L7 := hide HR.out.1
      have M7 := hide HR.out.2
      clear HR
      go_wp2_with fail
      go_loopw [14, 16] (fun v14 v16 W => ∃ i : Nat, i ≤ F.length + 8 ∧ v16 = .int .i64 (i : Int) ∧ v14 = .bool true ∧ Hid (Ls w W ga gb (ov A (G.length + 8)) (ov B i) ∧ Mv w6 W (fun k => k = ga ∨ k = gb))) (fun _ v16 _ => F.length + 8 - (intOf v16).toNat)
      case atStart => exact ⟨0, Nat.zero_le _, rfl, rfl, by rw [ov_zero]; exact L7.out, M7.out⟩
      case round =>
        obtain ⟨i, hil, rfl, rfl, HR⟩ := hrel
        clear L7 M7 L6 t1
        by_cases hlt : i < F.length + 8
        · have hiA : i < B.length := by have := lB.out; omega
          have hcc : wr.cell? ⟨gb, i, none⟩ = some (.int .i64 B[i]) := by
            have hl : i < (ov B i).length := by rw [ov_len _ _ (by omega)]; exact hiA
            rw [HR.out.1.2.2.2.1.cell i hl, ov_at _ _ hiA]
          have hfz : wr.frozen? ⟨gb, i, none⟩ = false := HR.out.1.2.2.2.1.frozen i
          have HS : Hid (∀ W, Below wr.heap.size wr W → Ls w (W.setCell ⟨gb, i, none⟩ (.int .i64 (-7))) ga gb (ov A (G.length + 8)) (ov B (i + 1)) ∧ Mv w6 (W.setCell ⟨gb, i, none⟩ (.int .i64 (-7))) (fun k => k = ga ∨ k = gb)) := fun W hW => ⟨HR.out.1.over2 hiA hW, mv_write HR.out.2 hW (.inr rfl)⟩
          have t1 : (i : Int) < (F.length : Int) + 8 := by omega
          by_cases hg : i < F.length
          · have t2 : (i : Int) < (F.length : Int) := by omega
            have t3 : ¬ (F.length : Int) ≤ (i : Int) := by omega
            have hAi : B[i] = F[i] := by have := EB.out; subst this; rw [List.getElem_append_left hg]
            rw [hAi] at hcc
            obtain ⟨_, _, e, -, -, h3⟩ := H2.out.on HR.out.1.1
            simp only [Value.slice.injEq] at e
            obtain ⟨rfl, -, rfl⟩ := e
            obtain ⟨g, o, rfl, c1⟩ := h3 i hg
            clear hAi h3
            generalize F[i] = y at *
            go_wp2_with fail
            go_quiet (fail)
            go_wp2_with fail
            exact ⟨⟨i + 1, by omega, by go_num, rfl, HS.out _ (below_drawn _ _)⟩, by simp [intOf]; omega⟩
          · have t2 : ¬ (i : Int) < (F.length : Int) := by omega
            have t3 : (F.length : Int) ≤ (i : Int) := by omega
            have hAi : B[i] = 0 := by have := EB.out; subst this; exact tail_zero F i hg hiA
            rw [hAi] at hcc
            clear hAi
            go_wp2_with fail
            go_quiet (fail)
            go_wp2_with fail
            exact ⟨⟨i + 1, by omega, by go_num, rfl, HS.out _ (below_drawn _ _)⟩, by simp [intOf]; omega⟩
        · obtain rfl : i = F.length + 8 := by omega
          have t1 : ¬ (F.length : Int) + 8 < (F.length : Int) + 8 := by omega
          have bx := HR.out.1.2.1
          have fx0 : wr.frozen? ⟨w.heap.size, 0, none⟩ = false := by simp [World.frozen?, bx]
          have fx1 : wr.frozen? ⟨w.heap.size, 1, none⟩ = false := by simp [World.frozen?, bx]
          have bx0 : wr.cell? ⟨w.heap.size, 0, none⟩ = some (.pointer none) := by simp [World.cell?, bx]
          have bx1 : wr.cell? ⟨w.heap.size, 1, none⟩ = some (.pointer none) := by simp [World.cell?, bx]
          clear bx
          go_wp2_with fail
          (try simp only [Exit.inBlock, Exit.then])
          refine bodyPost_ret (v := .tuple #[.agg #[.pointer p, .pointer q], .bool true]) ?_ rfl (from_end HH.out.1 HH.out.2.1.1 HH.out.2.1.2.1 HD.out.1 HD.out.2.1 HD.out.2.2.1 HH.out.2.1.2.2 HR.out.2 HR.out.1)
          rw [results_cell_tmp rfl]
          go_simp
end Go.Proofs.Ytejbdhbphbgckaa
