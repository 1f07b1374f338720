/-
  Buffer: the chapter's example.
-/
import Derived.Test.YtiolaenkfhcajaaGreatBWor
namespace Go.Proofs.YtiolaenkfhcajaaGreat
open Go.RowKit
set_option maxRecDepth 100000
set_option maxHeartbeats 8000000 in
theorem shown_any (w : World) : Calls Tryz.prog 4 #[] w fun e w' => e = .returned (.bool true) ∧ Below w.heap.size w w' := by
  have J1 := hide (bnew_any w)
  go_enter Tryz.func4, Tryz.ntmps4
  go_wp2_with fail
  refine J1.out.mono ?_
  rintro e w1 ⟨gb, gx, rfl, hB, hl, b1⟩
  have HB := hide hB
  have HL := hide hl
  have B1 := hide b1
  have J2 := hide (bks_any w1)
  clear hB hl b1 J1
  go_wp2_with fail
  refine J2.out.mono ?_
  rintro e w2 ⟨vk, rfl, hk, b2⟩
  have HK := hide hk
  have B2 := hide b2
  have J3 := hide (wnew_any (hk w2 (Below.refl _ _)) bks_may (fun _ => ([], [])))
  clear hk b2 J2
  go_wp2_with fail
  refine J3.out.mono ?_
  rintro e w3 ⟨gw, rfl, ⟨own, vkk, gp, gm, gt, ho, hx⟩, b3⟩
  have HO := hide ho
  have HX := hide hx
  have B3 := hide b3
  clear ho hx b3 J3
  go_wp2_with fail
  have hB3 := HB.out.later (below_on B2.out B3.out)
  have J4 : Hid (Calls Tryz.prog 9 #[.pointer (some ⟨gb, 0, none⟩), .int .i64 1, .agg #[.int .i64 5, .int .i64 1], .agg #[.int .i64 2, .int .i64 0, .int .i64 1, .int .i64 0, .slice none 0 0, .slice none 0 0]] w3 fun r w' => r = .returned (.int .i64 0) ∧ ∃ S' U' n' f', Bg w' S' U' gb gx n' f' (fun e => if e = (1, 5) then [⟨2, 0, 1, 0, .slice none 0 0, .slice none 0 0⟩] else []) 1 ∧ (∀ k, S' k → ¬ k < w.heap.size) ∧ (∃ own', (∀ k, S' k ∨ U' k → own' k = 0) ∧ (∀ k, k < w.heap.size → own' k = 0) ∧ Wx 0 w' own' gw vkk gp gm gt 0 bksK [] [] (fun _ => none) (fun _ => none) (fun _ => ([], []))) ∧ Below w.heap.size w w') := hide ((bput_any (P := fun _ => False) (c := ⟨2, 0, 1, 0, .slice none 0 0, .slice none 0 0⟩) hB3 1 5 1 ⟨⟨by omega, by omega⟩, by omega, by omega⟩ ⟨rfl, .inl rfl⟩ (by omega)).mono (by
    rintro e w' ⟨rfl, S', U', n', f', c', ⟨-, -, -, -, e5, -⟩, k1, k2, k3, k4⟩
    obtain rfl := e5 rfl
    have s1 := B1.out.size
    have s2 := B2.out.size
    have s3 := B3.out.size
    have hg1 := HL.out
    have z1 := HB.out.bs gb HB.out.sb
    have z2 := HB.out.bs gx HB.out.sm
    have hz : ∀ k, k = gb ∨ k = gx → own k = 0 := fun k hk => HO.out k (by rcases hk with rfl | rfl <;> omega)
    refine ⟨rfl, S', U', n', f', k1, (fun k hk h1 => by rcases k3 k hk with (rfl | rfl) | h2 <;> omega), ⟨rel own w3 0, fun k hk => ?_, fun k hk => ?_, HX.out.frame (L := 0) (.inl rfl) k2 (fun k _ hk => .inr (hz k hk))⟩, ?_⟩
    · by_cases h1 : k < w3.heap.size
      · rw [rel_old h1]
        rcases hk with hk | hk
        · rcases k3 k hk with h2 | h2
          · exact hz k h2
          · omega
        · rcases k4 k hk with h2 | h2
          · exact absurd h2 id
          · omega
      · exact rel_new (by omega)
    · rw [rel_old (by omega), HO.out k (by omega)]
    · have hbb : Below w.heap.size w w3 := below_on (below_on B1.out B2.out) B3.out
      exact hbb.trans ⟨k2.1, k2.2.1, k2.2.2.1, k2.2.2.2.1, fun k hk => k2.2.2.2.2 k (by omega) (fun e => by rcases e with rfl | rfl <;> omega)⟩))
  clear hB3 HB HL HO HX B1 B2 B3 HK
  refine J4.out.mono ?_
  rintro e w4 ⟨rfl, S1, U1, n1, f1, hB4, hF, ⟨own1, ho1, hn1, hx1⟩, b4⟩
  have HB := hide hB4
  have HF := hide hF
  have HO := hide ho1
  have HN := hide hn1
  have HX := hide hx1
  have B4 := hide b4
  clear hB4 hF ho1 hn1 hx1 b4 J4
  obtain ⟨w5, hw5⟩ : ∃ X, X = (w4.alloc (.cells #[.int .i64 7] 2)).alloc (.cells #[.int .i64 2, .slice (some ⟨w4.heap.size, 0, none⟩) 1 1] 50) := ⟨_, rfl⟩
  have b5 : Below w4.heap.size w4 w5 := by rw [hw5]; exact below_on (below_alloc w4 _) (below_alloc _ _)
  have rp : w5.heap[w4.heap.size + 1]? = some (.cells #[.int .i64 2, .slice (some ⟨w4.heap.size, 0, none⟩) 1 1] 50 (0, 0)) := by
    rw [hw5]
    have := heap_alloc_new (w4.alloc (.cells #[.int .i64 7] 2)) (.cells #[.int .i64 2, .slice (some ⟨w4.heap.size, 0, none⟩) 1 1] 50)
    simpa using this
  have rv : w5.heap[w4.heap.size]? = some (.cells #[.int .i64 7] 2 (0, 0)) := by
    rw [hw5]
    exact ((below_alloc (w4.alloc (.cells #[.int .i64 7] 2)) _).block w4.heap.size (by simp)).trans (heap_alloc_new w4 _)
  have sp := lt_of_block rp
  have PP : P1 w5 (fun j => w4.heap.size ≤ j ∧ j < w5.heap.size) (.slice (some ⟨w4.heap.size + 1, 0, none⟩) 1 1) 2 [7] := by
    refine ⟨⟨(2, some ⟨w4.heap.size, 0, none⟩, 1, 1), .inr ⟨w4.heap.size + 1, 0, 1, rfl, Nat.le_refl _, by unfold maxLen; omega, fun j u hj => ?_⟩, rfl, ⟨some ⟨w4.heap.size, 0, none⟩, 1, rfl, Nat.le_refl _, by unfold maxLen; omega, fun j hj => ⟨w4.heap.size, 0, rfl, ?_⟩⟩, fun j e => ?_, fun e => by cases e⟩, fun j e => ?_⟩
    · rw [cell_of_row w5 _ _ _ 50 (0, 0) rp]
      match j, hj with
      | 0, hj => exact hj
      | 1, hj => exact hj
      | j + 2, hj => simp [pz] at hj
    · rw [cell_of_row w5 _ _ _ 2 (0, 0) rv]
      match j, hj with
      | 0, _ => rfl
      | j + 1, hj => simp at hj
    · have e : some w4.heap.size = some j := e
      injection e with e
      omega
    · have e : some (w4.heap.size + 1) = some j := e
      injection e with e
      omega
  have J5 : Hid (Calls Tryz.prog 9 #[.pointer (some ⟨gb, 0, none⟩), .int .i64 0, .agg #[.int .i64 9, .int .i64 1], .agg #[.int .i64 1, .int .i64 0, .int .i64 0, .int .i64 0, .slice none 0 0, .slice (some ⟨w4.heap.size + 1, 0, none⟩) 1 1]] w5 fun r w' => r = .returned (.int .i64 0) ∧ ∃ S' U' n' f' a1 m1 p1, Bg w' S' U' gb gx n' f' (fun e => if e = (0, 9) then [⟨1, 0, 0, 0, .slice none 0 0, .slice a1 m1 p1⟩] else if e = (1, 5) then [⟨2, 0, 1, 0, .slice none 0 0, .slice none 0 0⟩] else []) 2 ∧ P1 w' U' (.slice a1 m1 p1) 2 [7] ∧ (∃ own', (∀ k, S' k ∨ U' k → own' k = 0) ∧ (∀ k, k < w.heap.size → own' k = 0) ∧ Wx 0 w' own' gw vkk gp gm gt 0 bksK [] [] (fun _ => none) (fun _ => none) (fun _ => ([], []))) ∧ Below w.heap.size w w') := hide ((bput_any (c := ⟨1, 0, 0, 0, .slice none 0 0, .slice (some ⟨w4.heap.size + 1, 0, none⟩) 1 1⟩) (HB.out.later b5) 0 9 1 ⟨⟨by omega, by omega⟩, by omega, by omega⟩ ⟨rfl, .inr ⟨2, [7], PP, by simp, rfl, rfl⟩⟩ (by omega)).mono (by
    rintro e w' ⟨rfl, S', U', n', f', c', ⟨e1, e2, e3, e4, -, e6⟩, k1, k2, k3, k4⟩
    have hok : CmOk w' U' c' := k1.cs (0, 9) c' (by rw [if_pos rfl]; simp)
    obtain ⟨a1, m1, p1, ec⟩ := hok.at
    rw [e1, e2, e3, e4] at ec
    have hpp : P1 w' U' c'.ps 2 [7] := by
      rcases hok.2 with h0 | ⟨k, V, h0, -, rfl, rfl⟩
      · have := e6 h0
        cases this
      · exact h0
    rw [if_neg (by decide), List.nil_append] at k1
    have s4 := B4.out.size
    have s5 := b5.size
    have hx5 := HX.out.later b5
    have hz : ∀ k, S1 k ∨ U1 k → rel own1 w4 0 k = 0 := fun k hk => by
      rw [rel_old (by rcases hk with hk | hk; exact HB.out.bs k hk; exact HB.out.bu k hk)]
      exact HO.out k hk
    refine ⟨rfl, S', U', n', f', a1, m1, p1, by rw [ec] at k1; exact k1, by rw [ec] at hpp; exact hpp, ⟨rel (rel own1 w4 0) w5 0, fun k hk => ?_, fun k hk => ?_, hx5.frame (L := 0) (.inl rfl) k2 (fun k _ hk => .inr (hz k (.inl hk)))⟩, ?_⟩
    · by_cases h1 : k < w5.heap.size
      · rw [rel_old h1]
        rcases hk with hk | hk
        · rcases k3 k hk with h2 | h2
          · exact hz k (.inl h2)
          · omega
        · rcases k4 k hk with h2 | h2
          · exact hz k (.inr h2)
          · omega
      · exact rel_new (by omega)
    · rw [rel_old (by omega), rel_old (by omega), HN.out k hk]
    · have hbb : Below w.heap.size w w5 := below_on B4.out b5
      exact hbb.trans ⟨k2.1, k2.2.1, k2.2.2.1, k2.2.2.2.1, fun k hk => k2.2.2.2.2 k (by omega) (fun e => HF.out k e hk)⟩))
  clear HB HO HN HX B4 HF PP rp rv sp b5
  go_wp2_with fail
  rw [← hw5]
  clear hw5
  refine J5.out.mono ?_
  rintro e w6 ⟨rfl, S2, U2, n2, f2, a1, m1, p1, hB, hP, ⟨own2, ho2, hn2, hx2⟩, b6⟩
  have JA : Hid (Calls Tryz.prog 12 #[.pointer (some ⟨gb, 0, none⟩)] w6 fun e w' => ∃ g c, e = .returned (.slice (some ⟨g, 0, none⟩) 2 c) ∧ (∃ cs, w'.heap[g]? = some (.cells cs 40 (0, 0))) ∧ w6.heap.size ≤ g ∧ (w'.cell? ⟨g, 0, none⟩ = some (.int .i64 1) ∧ w'.cell? ⟨g, 6, none⟩ = some (.int .i64 2)) ∧ Below w6.heap.size w6 w') := hide ((ball_any hB (by omega)).mono (by
    rintro e w' ⟨v, ss, l, e1, ⟨q1, q2⟩, ⟨q3, q4⟩, q5, q6⟩
    obtain rfl := two_keys (by rw [if_pos rfl]; simp) (by rw [if_neg (by decide), if_pos rfl]; simp) (fun x h1 h2 => by rw [if_neg h1, if_neg h2]) q1 q2
    have ea : allL (fun e => if e = ((0 : Int), (9 : Int)) then [(⟨1, 0, 0, 0, .slice none 0 0, .slice a1 m1 p1⟩ : Cm)] else if e = (1, 5) then [⟨2, 0, 1, 0, .slice none 0 0, .slice none 0 0⟩] else []) [(0, 9), (1, 5)] = [⟨1, 0, 0, 0, .slice none 0 0, .slice a1 m1 p1⟩, ⟨2, 0, 1, 0, .slice none 0 0, .slice none 0 0⟩] := by
      unfold allL
      simp
    rw [ea] at q3 q4
    match l, q3, q4, q5 with
    | [x, y], _, q4, q5 =>
      have h0 : x.op = 1 := (q4 0 (by simp) (by simp)).1
      have h1 : y.op = 2 := (q4 1 (by simp) (by simp)).1
      rcases q5.2 with ⟨-, e0⟩ | ⟨g, c, cur, rfl, hg, -, -⟩
      · simp at e0
      · obtain ⟨cs, hcs⟩ := own_ty q5 (g := g) rfl
        exact ⟨g, c, e1, ⟨cs, hcs⟩, hg, ⟨(q5.cellAt 0 (by simp)).trans (congrArg (fun t => some (Value.int .i64 t)) h0), (q5.cellAt 6 (by simp)).trans (congrArg (fun t => some (Value.int .i64 t)) h1)⟩, q6⟩))
  have HB := hide hB
  have HP := hide hP
  have HO := hide ho2
  have HN := hide hn2
  have HX := hide hx2
  have B6 := hide b6
  clear hB hP ho2 hn2 hx2 b6 J5
  go_wp2_with fail
  refine JA.out.mono ?_
  rintro e w7 ⟨gl, cl, rfl, hcs, hgl, hc7, b7⟩
  have JP : Hid (Calls Tryz.prog 10 #[.pointer (some ⟨gb, 0, none⟩), .pointer (some ⟨gw, 0, none⟩)] w7 fun e w' => ∃ g c, e = .returned (.tuple #[.slice (some ⟨g, 0, none⟩) 1 c, .int .i64 0]) ∧ (w'.cell? ⟨g, 0, none⟩ = some (.int .i64 0) ∧ w'.cell? ⟨g, 1, none⟩ = some (.int .i64 1)) ∧ (w'.cell? ⟨gl, 0, none⟩ = some (.int .i64 1) ∧ w'.cell? ⟨gl, 6, none⟩ = some (.int .i64 2)) ∧ Hid (Below w.heap.size w w' ∧ ∃ own' f' q' T', Wx 0 w' own' gw vkk gp gm gt 4 bksK [1] [0] f' q' T')) := hide ((apply_world (HB.out.later b7) (by omega) (HX.out.later b7) (fun k hk => ⟨by rw [rel_old (HB.out.bu k hk)]; exact HO.out k (.inr hk), by have := HB.out.bu k hk; have := b7.size; omega⟩) (HP.out.frame (Mv.of_below b7 (fun _ => False)) (fun _ _ e => e)) (if_pos rfl) ((if_neg (by decide)).trans (if_pos rfl)) (fun x h1 h2 => by rw [if_neg h1, if_neg h2])).mono (by
    rintro e w' ⟨g, c, rfl, hc, hm, hw⟩
    obtain ⟨cs, hcs⟩ := hcs
    have er : w'.heap[gl]? = some (.cells cs 40 (0, 0)) := (hm.2.2.2.2 gl (lt_of_block hcs) (fun e => e (rel_new hgl))).trans hcs
    have ec : ∀ j, w'.cell? ⟨gl, j, none⟩ = w7.cell? ⟨gl, j, none⟩ := fun j => by
      rw [cell_of_row w' _ _ _ 40 (0, 0) er, cell_of_row w7 _ _ _ 40 (0, 0) hcs]
    have s6 := B6.out.size
    have s7 := b7.size
    have hbb : Below w.heap.size w w7 := below_on B6.out b7
    exact ⟨g, c, rfl, hc, ⟨(ec 0).trans hc7.1, (ec 6).trans hc7.2⟩, hbb.trans ⟨hm.1, hm.2.1, hm.2.2.1, hm.2.2.2.1, fun k hk => hm.2.2.2.2 k (by omega) (fun e => e (by rw [rel_old (by omega)]; exact HN.out k hk))⟩, hw⟩))
  clear hcs hgl hc7 b7 JA HB HP HO HN HX B6
  go_wp2_with fail
  refine JP.out.mono ?_
  rintro e w8 ⟨ge, ce, rfl, ⟨x0, x1⟩, ⟨y0, y1⟩, hh⟩
  obtain ⟨bb, own', f', q', T', hw⟩ := hh.out
  have J6 := hide (lives0 hw)
  have BB := hide bb
  clear hh JP bb hw
  go_wp2_with fail
  refine J6.out.mono ?_
  rintro e w9 ⟨rfl, b9⟩
  have B9 : Hid (Below w.heap.size w w9) := below_on BB.out b9
  clear J6 BB b9
  go_wp2_with fail
  go_ret
  exact ⟨rfl, B9.out⟩
end Go.Proofs.YtiolaenkfhcajaaGreat
