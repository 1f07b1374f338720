/-
  PlanPlays: the walk.
-/
import Derived.Test.YthgjdmomcpcolaaPs
import Derived.Test.YthgjdmomcpcolaaDd
namespace Go.Proofs.Ythgjdmomcpcolaa
open Go.RowKit
set_option maxRecDepth 100000
theorem lg_ex (L : List Sy) (os : List Int) : ∃ b : Bool, (b = true ↔ Lg L os) := by
  by_cases h : Lg L os
  · exact ⟨true, ⟨fun _ => h, fun _ => rfl⟩⟩
  · exact ⟨false, ⟨fun e => (by cases e), fun e => absurd e h⟩⟩
section
variable {w : World} {B g : Nat} {L : List Sy} {vo : Value} {os : List Int} {b : Bool}
theorem ask_legal (hp : Pl w B g (L.map setS)) (ho : Rl w vo os) (hb : b = true ↔ Lg L os) : Calls Try.prog 13 #[.pointer (some ⟨g, 0, none⟩), vo] w fun e w' => e = .returned (.bool b) ∧ Below w.heap.size w w' := by
  refine (legal_any hp ho).mono ?_
  rintro e w' ⟨b', rfl, h1, h2⟩
  have : b' = b := by rw [Bool.eq_iff_iff, h1, hb]; exact Lg.sets.symm
  rw [this]
  exact ⟨rfl, h2⟩
theorem dask_legal (hp : Dp w B g L) (ho : Rl w vo os) (hb : b = true ↔ Lg L os) : Calls Try.prog 14 #[.pointer (some ⟨g, 0, none⟩), vo] w fun e w' => e = .returned (.bool b) ∧ Below w.heap.size w w' := by
  refine (dlegal_any hp ho).mono ?_
  rintro e w' ⟨b', rfl, h1, h2⟩
  have : b' = b := by rw [Bool.eq_iff_iff, h1, hb]
  rw [this]
  exact ⟨rfl, h2⟩
end
theorem trs_short (l : List Sy) : (trs l).length ≤ 200 := by
  unfold trs
  rw [List.length_map, List.length_take]
  omega
/-- A row that is being written over. -/
theorem row_over {W : World} {B g c n : Nat} {zs : List Int} (h : Rw W B (.slice (some ⟨g, 0, none⟩) n c) zs) (hz : zs.length = n) (i : Nat) (x : Int) : ∃ ys : List Int, ys.length = n ∧ Rw (W.setCell ⟨g, i, none⟩ (.int .i64 x)) B (.slice (some ⟨g, 0, none⟩) n c) ys := by
  subst hz
  exact ⟨zs.set i x, by simp, h.set i x⟩
set_option maxHeartbeats 32000000 in
theorem plays_any {w : World} {vl vm vk vo : Value} {l m : List Sy} {picks order : List Int} (hl : Sa w vl l) (hm : Sa w vm m) (hk : Rl w vk picks) (ho : Rl w vo order) (hks : picks.length * 8 ≤ 140737488355328) (hos : order.length * 8 ≤ 140737488355328) (a b : Int) :
    Calls Try.prog 3 #[vl, vm, vk, vo, .int .i64 a, .int .i64 b] w fun e w' => e = .returned (.bool true) ∧ Below w.heap.size w w' := by
  have HL := hide hl
  have HM := hide hm
  have HK := hide hk
  have HO := hide ho
  have HKS := hide hks
  have HOS := hide hos
  obtain ⟨al, cl, vs0, rfl, -⟩ := hl
  obtain ⟨am, cm, vs1, rfl, -⟩ := hm
  obtain ⟨ak, ck, rfl, hk1, hk2, hk3⟩ := hk
  obtain ⟨ao, co, rfl, ho1, ho2, ho3⟩ := ho
  have HK3 := hide hk3
  have HO3 := hide ho3
  obtain ⟨np, hnp⟩ : ∃ n, n = picks.length := ⟨_, rfl⟩
  obtain ⟨no, hno⟩ : ∃ n, n = order.length := ⟨_, rfl⟩
  have HNP := hide hnp
  have HNO := hide hno
  have hnpb : (np : Int) ≤ 17592186044416 := by omega
  have hnob : (no : Int) ≤ 17592186044416 := by omega
  rw [← hnp] at hk1 HK ⊢
  rw [← hno] at ho1 HO ⊢
  obtain ⟨Lp, hLp⟩ : ∃ L, L = trs l := ⟨_, rfl⟩
  obtain ⟨Lq, hLq⟩ : ∃ L, L = trs m := ⟨_, rfl⟩
  obtain ⟨bp, hbp⟩ := lg_ex Lp order
  obtain ⟨bq, hbq⟩ := lg_ex Lq order
  obtain ⟨dp, hdp⟩ : ∃ d, d = cz Lp a b := ⟨_, rfl⟩
  obtain ⟨dq, hdq⟩ : ∃ d, d = cz Lq a b := ⟨_, rfl⟩
  have HBP := hide hbp
  have HBQ := hide hbq
  have HDP := hide hdp
  have HDQ := hide hdq
  have JG1 : Hid (∀ W, Below w.heap.size w W → Calls Try.prog 7 #[.slice al l.length cl] W fun e w' => ∃ g, e = .returned (.pointer (some ⟨g, 0, none⟩)) ∧ Pl w' W.heap.size g (Lp.map setS) ∧ Below W.heap.size W w') := fun W hW => by rw [hLp]; exact given_any (HL.out.later hW)
  have JG2 : Hid (∀ W, Below w.heap.size w W → Calls Try.prog 7 #[.slice am m.length cm] W fun e w' => ∃ g, e = .returned (.pointer (some ⟨g, 0, none⟩)) ∧ Pl w' W.heap.size g (Lq.map setS) ∧ Below W.heap.size W w') := fun W hW => by rw [hLq]; exact given_any (HM.out.later hW)
  have JY1 : Hid (∀ W, Below w.heap.size w W → Calls Try.prog 9 #[.slice al l.length cl] W fun e w' => ∃ v' ys, e = .returned v' ∧ Yo w' W.heap.size v' ys Lp ∧ Below W.heap.size W w') := fun W hW => by rw [hLp]; exact systems_any (HL.out.later hW)
  have JY2 : Hid (∀ W, Below w.heap.size w W → Calls Try.prog 9 #[.slice am m.length cm] W fun e w' => ∃ v' ys, e = .returned v' ∧ Yo w' W.heap.size v' ys Lq ∧ Below W.heap.size W w') := fun W hW => by rw [hLq]; exact systems_any (HM.out.later hW)
  have HLL : Hid (Lp.length ≤ 1000 ∧ Lq.length ≤ 1000) := by
    have h1 := trs_short l
    have h2 := trs_short m
    rw [hLp, hLq]
    exact ⟨by omega, by omega⟩
  clear hks hos hk3 ho3 hnp hno hLp hLq hbp hbq hdp hdq HL HM
  go_enter Try.func3, Try.ntmps3
  go_wp2_with fail
  refine (shown_any w).mono ?_
  rintro e w1 ⟨rfl, b1⟩
  have B1 := hide b1
  clear b1
  go_wp2_with fail
  refine (JG1.out w1 B1.out).mono ?_
  rintro e w2 ⟨gp, rfl, p2, b2⟩
  have P2 := hide p2
  have B2 := hide (below_on B1.out b2)
  clear p2 b2
  go_wp2_with fail
  refine (JG2.out w2 B2.out).mono ?_
  rintro e w3 ⟨gq, rfl, p3, b3⟩
  have P3 := hide (And.intro (P2.out.later b3) p3)
  have B3 := hide (below_on B2.out b3)
  clear p3 b3 P2
  go_wp2_with fail
  refine (JY1.out w3 B3.out).mono ?_
  rintro e w4 ⟨v4, y4, rfl, p4, b4⟩
  obtain ⟨a4, c4, hv4⟩ := own_len p4.1
  have J4 := hide (dnew_any p4 HLL.out.1)
  have P4 := hide (And.intro (P3.out.1.later b4) (P3.out.2.later b4))
  have B4 := hide (below_on B3.out b4)
  clear p4 b4 P3
  subst hv4
  go_wp2_with fail
  refine J4.out.mono ?_
  rintro e w5 ⟨gr, rfl, p5, b5⟩
  have P5 := hide (And.intro (P4.out.1.later b5) (And.intro (P4.out.2.later b5) p5))
  have B5 := hide (below_on B4.out b5)
  clear p5 b5 P4 J4
  go_wp2_with fail
  refine (JY2.out w5 B5.out).mono ?_
  rintro e w6 ⟨v6, y6, rfl, p6, b6⟩
  obtain ⟨a6, c6, hv6⟩ := own_len p6.1
  have J6 := hide (dnew_any p6 HLL.out.2)
  have P6 := hide (And.intro (P5.out.1.later b6) (And.intro (P5.out.2.1.later b6) (P5.out.2.2.later b6)))
  have B6 := hide (below_on B5.out b6)
  clear p6 b6 P5
  subst hv6
  go_wp2_with fail
  refine J6.out.mono ?_
  rintro e w7 ⟨gs, rfl, p7, b7⟩
  have P7 : Hid (∀ W, Below w7.heap.size w7 W → (Pl W w1.heap.size gp (Lp.map setS) ∧ Pl W w2.heap.size gq (Lq.map setS)) ∧ Dp W w4.heap.size gr Lp ∧ Dp W w6.heap.size gs Lq) := fun W hW => ⟨⟨(P6.out.1.later b7).later hW, (P6.out.2.1.later b7).later hW⟩, (P6.out.2.2.later b7).later hW, p7.later hW⟩
  have B7 := hide (below_on B6.out b7)
  clear p7 b7 P6 J6 B1 B2 B3 B4 B5 B6
  go_wp2_with fail
  go_loopw [18] (fun v18 X => ∃ i : Nat, i ≤ 20 ∧ v18 = .int .i64 (i : Int) ∧ Hid (Below w7.heap.size w7 X)) (fun v18 _ => 20 - (intOf v18).toNat)
  case atStart => exact ⟨0, by omega, rfl, Below.refl _ _⟩
  case round =>
    obtain ⟨i, hi, rfl, HR⟩ := hrel
    by_cases hlt : i < 20
    · have t1 : (i : Int) < 20 := by omega
      go_wp2_with fail
      refine (JG2.out wr (below_on B7.out HR.out)).mono ?_
      rintro e wa ⟨g1, rfl, -, ba⟩
      have BA := hide (below_on HR.out ba)
      clear ba HR
      go_wp2_with fail
      refine (JG1.out wa (below_on B7.out BA.out)).mono ?_
      rintro e wb ⟨g2, rfl, -, bb⟩
      have BB := hide (below_on BA.out bb)
      clear bb BA
      go_wp2_with fail
      go_roundw
      case rel => exact ⟨i + 1, by omega, rfl, BB.out⟩
      case measure => simp only [intOf]; omega
    · have t1 : ¬ (i : Int) < 20 := by omega
      obtain ⟨w8, rfl⟩ : ∃ X, X = wr := ⟨_, rfl⟩
      obtain ⟨gb, hgb⟩ : ∃ g, g = w8.heap.size := ⟨_, rfl⟩
      have JA : Hid (∀ W n m S vx vk xs, Below w8.heap.size w8 W → Rl W vx xs → Rl W vk xs → xs.length * 8 ≤ 140737488355328 → Bm W gb S n m n m → n ≤ 30000 → m ≤ 1000 → Calls Try.prog 11 #[.pointer (some ⟨gp, 0, none⟩), .pointer (some ⟨gq, 0, none⟩), .pointer (some ⟨gr, 0, none⟩), .pointer (some ⟨gs, 0, none⟩), vx, vk, .pointer (some ⟨gb, 0, none⟩)] W fun e w' => e = .returned (.bool true) ∧ (∃ N M, N ≤ n + 7000 ∧ M ≤ m + 10 ∧ Bm w' gb (fun k => S k ∨ W.heap.size ≤ k) N M N M) ∧ Mv W w' S) := fun W n m S vx vk xs hW h1 h2 h3 h4 h5 h6 => by
        obtain ⟨⟨q1, q2⟩, q3, q4⟩ := P7.out W (below_on HR.out hW)
        exact asks_any q1 q2 q3 q4 h1 h2 h3 h4 h5 h6
      have JL : Hid (∀ W vy os bx, Below w8.heap.size w8 W → Rl W vy os → (bx = true ↔ Lg Lp os) → Calls Try.prog 13 #[.pointer (some ⟨gp, 0, none⟩), vy] W (fun e w' => e = .returned (.bool bx) ∧ Below W.heap.size W w') ∧ Calls Try.prog 14 #[.pointer (some ⟨gr, 0, none⟩), vy] W (fun e w' => e = .returned (.bool bx) ∧ Below W.heap.size W w')) := fun W vy os bx hW h1 h2 => by
        obtain ⟨⟨q1, q2⟩, q3, q4⟩ := P7.out W (below_on HR.out hW)
        exact ⟨ask_legal q1 h1 h2, dask_legal q3 h1 h2⟩
      have JM : Hid (∀ W vy os bx, Below w8.heap.size w8 W → Rl W vy os → (bx = true ↔ Lg Lq os) → Calls Try.prog 13 #[.pointer (some ⟨gq, 0, none⟩), vy] W (fun e w' => e = .returned (.bool bx) ∧ Below W.heap.size W w') ∧ Calls Try.prog 14 #[.pointer (some ⟨gs, 0, none⟩), vy] W (fun e w' => e = .returned (.bool bx) ∧ Below W.heap.size W w')) := fun W vy os bx hW h1 h2 => by
        obtain ⟨⟨q1, q2⟩, q3, q4⟩ := P7.out W (below_on HR.out hW)
        exact ⟨ask_legal q2 h1 h2, dask_legal q4 h1 h2⟩
      have JC : Hid (∀ W, Below w8.heap.size w8 W → (Calls Try.prog 15 #[.pointer (some ⟨gp, 0, none⟩), .int .i64 a, .int .i64 b] W (fun e w' => e = .returned (.bool dp) ∧ Below W.heap.size W w') ∧ Calls Try.prog 16 #[.pointer (some ⟨gr, 0, none⟩), .int .i64 a, .int .i64 b] W (fun e w' => e = .returned (.bool dp) ∧ Below W.heap.size W w')) ∧ (Calls Try.prog 15 #[.pointer (some ⟨gq, 0, none⟩), .int .i64 a, .int .i64 b] W (fun e w' => e = .returned (.bool dq) ∧ Below W.heap.size W w') ∧ Calls Try.prog 16 #[.pointer (some ⟨gs, 0, none⟩), .int .i64 a, .int .i64 b] W (fun e w' => e = .returned (.bool dq) ∧ Below W.heap.size W w'))) := fun W hW => by
        obtain ⟨⟨q1, q2⟩, q3, q4⟩ := P7.out W (below_on HR.out hW)
        rw [HDP.out, HDQ.out]
        refine ⟨⟨?_, dconflict_any q3 a b⟩, ?_, dconflict_any q4 a b⟩
        · rw [cz_sets]
          exact conflict_any q1 a b
        · rw [cz_sets]
          exact conflict_any q2 a b
      have HK8 : Hid (∀ W, Below w8.heap.size w8 W → Rl W (.slice ak np ck) picks ∧ Rl W (.slice ao no co) order) := fun W hW => ⟨HK.out.later (below_on B7.out (below_on HR.out hW)), HO.out.later (below_on B7.out (below_on HR.out hW))⟩
      have HKB : Hid (∀ k, (Value.slice ak np ck).ownBlock = some k → 0 < np → k < w8.heap.size) := fun k e h0 => by
        obtain ⟨g, o, e2, hc⟩ := HK3.out (by rw [← HNP.out]; exact h0)
        subst e2
        cases e
        have := World.block_lt_of_cell? w _ (hc 0 (by rw [← HNP.out]; exact h0))
        have h1 := B7.out.size
        have h2 := HR.out.size
        exact Nat.lt_of_lt_of_le this (Nat.le_trans h1 h2)
      have HOB : Hid (∀ k, (Value.slice ao no co).ownBlock = some k → 0 < no → k < w8.heap.size) := fun k e h0 => by
        obtain ⟨g, o, e2, hc⟩ := HO3.out (by rw [← HNO.out]; exact h0)
        subst e2
        cases e
        have := World.block_lt_of_cell? w _ (hc 0 (by rw [← HNO.out]; exact h0))
        have h1 := B7.out.size
        have h2 := HR.out.size
        exact Nat.lt_of_lt_of_le this (Nat.le_trans h1 h2)
      have BW8 := hide (below_on B7.out HR.out)
      clear P7 JG1 JG2 JY1 JY2 HDP HDQ HR
      go_upto_region 16 with fail
      obtain ⟨w9, hw9⟩ : ∃ X, X = w8.alloc (.cells #[.slice none 0 0, .slice none 0 0, .slice none 0 0, .slice none 0 0, .int .i64 0, .int .i64 0] 35) := ⟨_, rfl⟩
      rw [← hw9, ← hgb]
      have hb9 : Below w8.heap.size w8 w9 := by rw [hw9]; exact below_alloc _ _
      have hm9 : Bm w9 gb (fun k => k = gb) 0 0 0 0 := by rw [hw9, hgb]; exact Bm.new w8
      have hz9 : w9.heap.size = gb + 1 := by rw [hw9, alloc_size, hgb]
      have H9 := hide (And.intro hb9 (And.intro hm9 (And.intro hz9 hgb)))
      have J10 := hide (lent_any (HK8.out w9 hb9).1 HKS.out)
      clear hw9 hb9 hm9 hz9 hgb
      go_wp2_with fail
      refine J10.out.mono ?_
      rintro e w10 ⟨vx, rfl, hx, b10⟩
      obtain ⟨gx, cx, hvx, hx2, hx3⟩ := hx
      rw [← HNP.out] at hvx hx2 hx3
      have hgx := hx2.lt gx rfl
      have HGX : Hid (w9.heap.size ≤ gx ∧ gx < w10.heap.size ∧ np + 8 ≤ cx ∧ Below w8.heap.size w8 w10 ∧ w8.heap.size = gb ∧ gb < gx) := ⟨hgx.1, hgx.2, hx3, below_on H9.out.1 b10, H9.out.2.2.2.symm, by have := H9.out.2.2.1; omega⟩
      have hcx2 := (own_cap hx2).2
      have HX2 := hide hx2
      have H10 : Hid (Bm w10 gb (fun k => k = gb ∨ w10.heap.size ≤ k) 0 0 0 0) := (H9.out.2.1.later b10).mono (fun k _ e => .inl e)
      have HPH : Hid (∀ W W' N M, Below w8.heap.size w8 W → w10.heap.size ≤ W.heap.size → Bm W' gb (fun k => (k = gb ∨ w10.heap.size ≤ k) ∨ W.heap.size ≤ k) N M N M → Mv W W' (fun k => k = gb ∨ w10.heap.size ≤ k) → Below w8.heap.size w8 W' ∧ w10.heap.size ≤ W'.heap.size ∧ Bm W' gb (fun k => k = gb ∨ w10.heap.size ≤ k) N M N M ∧ ∀ n zs, W.ownsRow w9.heap.size 3 1 (.slice (some ⟨gx, 0, none⟩) n cx) n zs → W'.ownsRow w9.heap.size 3 1 (.slice (some ⟨gx, 0, none⟩) n cx) n zs) := fun W W' N M h1 h2 h3 h4 => by
        obtain ⟨g1, g2, g3, g4, g5, g6⟩ := HGX.out
        have h10 := g4.size
        refine ⟨h1.trans (h4.below h1.size (fun k e => by rcases e with e | e <;> omega)), Nat.le_trans h2 h4.size, h3.mono (fun k _ e => e.elim id (fun e => .inr (by omega))), fun n zs hz => h4.own hz (fun k e x => ?_)⟩
        simp only [Value.ownBlock, Option.some.injEq] at e
        rcases x with x | x <;> omega
      have J11 := hide (JA.out w10 0 0 (fun k => k = gb ∨ w10.heap.size ≤ k) (.slice (some ⟨gx, 0, none⟩) np cx) (.slice ak np ck) picks HGX.out.2.2.2.1 (by
        have := own_cut hx2 (k := np) (by omega)
        rw [zc_take, List.take_left' HNP.out.symm] at this
        refine Rl.of (B := w9.heap.size) ?_
        unfold Rw
        rw [← HNP.out]
        exact this) (HK8.out w10 HGX.out.2.2.2.1).1 HKS.out H10.out (by omega) (by omega))
      clear b10 hx2 hx3 hgx J10
      subst hvx
      go_wp2_with fail
      refine J11.out.mono ?_
      rintro e w11 ⟨rfl, ⟨N1, M1, n1, m1, bm11⟩, mv11⟩
      have H11 := hide (HPH.out w10 w11 N1 M1 HGX.out.2.2.2.1 (Nat.le_refl _) bm11 mv11)
      have HN1 : Hid (N1 ≤ 7000 ∧ M1 ≤ 10) := ⟨by omega, by omega⟩
      have hx11 := H11.out.2.2.2 (np + 8) _ HX2.out
      have J12 := hide (back_any (B := w9.heap.size) (l := picks) (v := .slice (some ⟨gx, 0, none⟩) np cx) (u := .slice ak np ck) (w := w11) ⟨gx, cx, by rw [HNP.out], by rw [← HNP.out]; exact hx11, by rw [← HNP.out]; exact HGX.out.2.2.1⟩ (HK8.out w11 H11.out.1).1 (fun h0 k e1 e2 => by
        have h1 := HKB.out k e2 (by rw [HNP.out]; exact h0)
        simp only [Value.ownBlock, Option.some.injEq] at e1
        have := HGX.out
        omega) HKS.out)
      clear n1 m1 bm11 mv11 hx11 J11 H10 HX2
      go_wp2_with fail
      refine J12.out.mono ?_
      rintro e w12 ⟨rfl, hr12, mv12⟩
      have H12 : Hid (Below w8.heap.size w8 w12 ∧ w10.heap.size ≤ w12.heap.size ∧ Bm w12 gb (fun k => k = gb ∨ w10.heap.size ≤ k) N1 M1 N1 M1 ∧ w12.ownsRow w9.heap.size 3 1 (.slice (some ⟨gx, 0, none⟩) np cx) np (zc (List.replicate np (-3)))) := by
        obtain ⟨g1, g2, g3, g4, g5, g6⟩ := HGX.out
        refine ⟨H11.out.1.trans (mv12.below H11.out.1.size (fun k e => ?_)), Nat.le_trans H11.out.2.1 mv12.size, H11.out.2.2.1.frame mv12 (fun k e x => ?_), ?_⟩
        · simp only [Value.ownBlock, Option.some.injEq] at e
          omega
        · simp only [Value.ownBlock, Option.some.injEq] at x
          rcases e with e | e <;> omega
        · unfold Rw at hr12
          rw [List.length_replicate, ← HNP.out] at hr12
          exact hr12
      clear hr12 mv12 J12 H11
      go_wp2_with (at_builtin; refine wpList_append_nums rfl _ _ rfl w12.heap.size (.slice none 0 0) 0 [] rfl (World.ownsRow_nil _ _ _ _) (.slice (some ⟨gx, 0, none⟩) np cx) (List.replicate np (-3)) rfl ?o1 ?o2 ?o3 ?_)
      case o1 =>
        refine Rl.of (B := w9.heap.size) ?_
        unfold Rw
        rw [List.length_replicate]
        exact H12.out.2.2.2
      case o2 => have := HKS.out; have := HNP.out; rw [List.length_replicate]; omega
      case o3 => exact Nat.le_refl _
      intro v13 w13 h13 hg13 _
      have h13' : Rw w13 w12.heap.size v13 (List.replicate np (-3)) := by
        unfold Rw
        rw [List.length_replicate]
        exact h13
      have b13 : Below w12.heap.size w12 w13 := (Below.refl _ w12).grown hg13 (Nat.le_refl _) (fun k e => by simp [Value.ownBlock] at e)
      have J14 := hide (JA.out w13 N1 M1 (fun k => k = gb ∨ w10.heap.size ≤ k) (.slice (some ⟨gx, 0, none⟩) np cx) v13 (List.replicate np (-3)) (below_on H12.out.1 b13) (by
        refine (Rl.of (B := w9.heap.size) ?_).later b13
        unfold Rw
        rw [List.length_replicate]
        exact H12.out.2.2.2) (Rl.of h13') (by have := HKS.out; have := HNP.out; rw [List.length_replicate]; omega) (H12.out.2.2.1.later b13) (by have := HN1.out; omega) (by have := HN1.out; omega))
      have H13 : Hid (Below w8.heap.size w8 w13 ∧ w10.heap.size ≤ w13.heap.size ∧ w13.ownsRow w9.heap.size 3 1 (.slice (some ⟨gx, 0, none⟩) np cx) np (zc (List.replicate np (-3)))) := ⟨below_on H12.out.1 b13, Nat.le_trans H12.out.2.1 b13.size, own_later H12.out.2.2.2 b13⟩
      obtain ⟨a13, c13, hv13⟩ := own_len h13
      clear h13 h13' hg13 b13 H12
      subst hv13
      go_wp2_with fail
      refine J14.out.mono ?_
      rintro e w14 ⟨rfl, ⟨N2, M2, n2, m2, bm14⟩, mv14⟩
      have H14 := hide (HPH.out w13 w14 N2 M2 H13.out.1 H13.out.2.1 bm14 mv14)
      have HN2 : Hid (N2 ≤ 14000 ∧ M2 ≤ 20) := by have := HN1.out; exact ⟨by omega, by omega⟩
      have Q0 : Hid (Below w8.heap.size w8 w14 ∧ w10.heap.size ≤ w14.heap.size ∧ Bm w14 gb (fun k => k = gb ∨ w10.heap.size ≤ k) N2 M2 N2 M2 ∧ ∃ zs, zs.length = np ∧ Rw w14 w9.heap.size (.slice (some ⟨gx, 0, none⟩) np cx) zs) := by
        refine ⟨H14.out.1, H14.out.2.1, H14.out.2.2.1, List.replicate np (-3), by simp, ?_⟩
        unfold Rw
        rw [List.length_replicate]
        exact H14.out.2.2.2 np _ H13.out.2.2
      have hnx : np ≤ cx := by have := HGX.out; omega
      clear n2 m2 bm14 mv14 J14 H13 H14 HN1
      go_wp2_with fail
      go_loopw [26] (fun v26 X => ∃ i : Nat, i ≤ np ∧ v26 = .int .i64 (i : Int) ∧ Hid (Below w8.heap.size w8 X ∧ w10.heap.size ≤ X.heap.size ∧ Bm X gb (fun k => k = gb ∨ w10.heap.size ≤ k) N2 M2 N2 M2 ∧ ∃ zs, zs.length = np ∧ Rw X w9.heap.size (.slice (some ⟨gx, 0, none⟩) np cx) zs)) (fun v26 _ => np - (intOf v26).toNat)
      case atStart => exact ⟨0, Nat.zero_le _, rfl, Q0.out⟩
      case round =>
        obtain ⟨i, hi, rfl, HR⟩ := hrel
        clear Q0
        by_cases hlt : i < np
        · have t2 : (i : Int) < (np : Int) := by omega
          obtain ⟨r1, r2, r3, zs, r4, r5⟩ := HR.out
          have hzi : i < zs.length := by omega
          have r5' : Rw wr w9.heap.size (.slice (some ⟨gx, 0, none⟩) zs.length cx) zs := by rw [r4]; exact r5
          have c1 := r5'.at i hzi
          have f1 := r5'.frozenAt i
          obtain ⟨ak', ck', ek, -, -, hc⟩ := (HK8.out wr r1).1
          simp only [Value.slice.injEq] at ek
          obtain ⟨rfl, -, rfl⟩ := ek
          obtain ⟨gk, ok, rfl, hck⟩ := hc (by rw [← HNP.out]; omega)
          obtain ⟨j, hj⟩ : ∃ j, j = np - 1 - i := ⟨_, rfl⟩
          have hjp : j < picks.length := by have := HNP.out; omega
          have c2 := hck j hjp
          have t3 : (np : Int) - 1 - (i : Int) = (j : Int) := by omega
          have t4 : (j : Int) < (np : Int) := by omega
          generalize zs[i] = z at c1
          generalize picks[j] = y at c2
          have HN1 : Hid (Below w8.heap.size w8 (wr.setCell ⟨gx, i, none⟩ (.int .i64 y)) ∧ w10.heap.size ≤ (wr.setCell ⟨gx, i, none⟩ (.int .i64 y)).heap.size ∧ Bm (wr.setCell ⟨gx, i, none⟩ (.int .i64 y)) gb (fun k => k = gb ∨ w10.heap.size ≤ k) N2 M2 N2 M2 ∧ ∃ zs, zs.length = np ∧ Rw (wr.setCell ⟨gx, i, none⟩ (.int .i64 y)) w9.heap.size (.slice (some ⟨gx, 0, none⟩) np cx) zs) := by
            obtain ⟨g1, g2, g3, g4, g5, g6⟩ := HGX.out
            have hm : Mv wr (wr.setCell ⟨gx, i, none⟩ (.int .i64 y)) (fun k => k = gx) := Mv.set (S := fun k => k = gx) (Mv.refl wr _) rfl i _
            exact ⟨r1.trans (hm.below r1.size (fun k e => by omega)), Nat.le_trans r2 hm.size, r3.frame hm (fun k e x => by rcases e with e | e <;> omega), row_over r5 r4 i y⟩
          clear HR r1 r2 r3 r4 r5 r5' hck hzi hjp hj
          go_wp2_with fail
          exact ⟨⟨i + 1, by omega, rfl, HN1.out⟩, by simp only [intOf]; omega⟩
        · have t2 : ¬ (i : Int) < (np : Int) := by omega
          obtain ⟨r1, r2, r3, zs, r4, r5⟩ := HR.out
          have HZ : Hid (zs.length = np ∧ zs.length * 8 ≤ 140737488355328) := ⟨r4, by have := HKS.out; have := HNP.out; omega⟩
          have H15 : Hid (Below w8.heap.size w8 wr ∧ w10.heap.size ≤ wr.heap.size ∧ Bm wr gb (fun k => k = gb ∨ w10.heap.size ≤ k) N2 M2 N2 M2 ∧ Rl wr (.slice (some ⟨gx, 0, none⟩) np cx) zs) := ⟨r1, r2, r3, Rl.of r5⟩
          obtain ⟨w15, rfl⟩ : ∃ X, X = wr := ⟨_, rfl⟩
          clear HR r1 r2 r3 r4 r5
          go_wp2_with (at_builtin; refine wpList_append_nums rfl _ _ rfl w15.heap.size (.slice none 0 0) 0 [] rfl (World.ownsRow_nil _ _ _ _) (.slice (some ⟨gx, 0, none⟩) np cx) zs rfl ?o1 ?o2 (Nat.le_refl _) ?_)
          case o1 => exact H15.out.2.2.2
          case o2 => have := HZ.out; omega
          intro v16 w16 h16 hg16 _
          have h16' : Rw w16 w15.heap.size v16 zs := by simpa using h16
          have b16 : Below w15.heap.size w15 w16 := (Below.refl _ w15).grown hg16 (Nat.le_refl _) (fun k e => by simp [Value.ownBlock] at e)
          have J17 := hide (JA.out w16 N2 M2 (fun k => k = gb ∨ w10.heap.size ≤ k) (.slice (some ⟨gx, 0, none⟩) np cx) v16 zs (below_on H15.out.1 b16) (H15.out.2.2.2.later b16) (Rl.of h16') HZ.out.2 (H15.out.2.2.1.later b16) (by have := HN2.out; omega) (by have := HN2.out; omega))
          have H16 : Hid (Below w8.heap.size w8 w16 ∧ w10.heap.size ≤ w16.heap.size) := ⟨below_on H15.out.1 b16, Nat.le_trans H15.out.2.1 b16.size⟩
          obtain ⟨a16, c16, hv16⟩ := own_len h16'
          clear h16 h16' hg16 b16 H15
          subst hv16
          go_wp2_with fail
          refine J17.out.mono ?_
          rintro e w17 ⟨rfl, ⟨N3, M3, n3, m3, bm17⟩, mv17⟩
          have H17 := hide (HPH.out w16 w17 N3 M3 H16.out.1 H16.out.2 bm17 mv17).1
          have J18 := hide (lent_any (HK8.out w17 H17.out).2 HOS.out)
          clear n3 m3 bm17 mv17 J17 H16
          go_wp2_with fail
          refine J18.out.mono ?_
          rintro e w18 ⟨vy, rfl, hy, b18⟩
          obtain ⟨gy, cy, hvy, hy2, hy3⟩ := hy
          rw [← HNO.out] at hvy hy2 hy3
          have hgy := hy2.lt gy rfl
          have HGY : Hid (w17.heap.size ≤ gy ∧ no + 8 ≤ cy ∧ w8.heap.size ≤ gy) := ⟨hgy.1, hy3, by have := H17.out.size; omega⟩
          have hcy2 := (own_cap hy2).2
          have HY2 : Hid (∀ W, Below w18.heap.size w18 W → W.ownsRow w17.heap.size 3 1 (.slice (some ⟨gy, 0, none⟩) (no + 8) cy) (no + 8) (zc (order ++ tl 8)) ∧ Rl W (.slice (some ⟨gy, 0, none⟩) no cy) order) := fun W hW => by
            have h1 := own_later hy2 hW
            refine ⟨h1, ?_⟩
            have := own_cut h1 (k := no) (by omega)
            rw [zc_take, List.take_left' HNO.out.symm] at this
            refine Rl.of (B := w17.heap.size) ?_
            unfold Rw
            rw [← HNO.out]
            exact this
          have H18 := hide (below_on H17.out b18)
          clear b18 hy2 hy3 hgy J18
          subst hvy
          go_wp2_with fail
          refine (JL.out w18 _ order bp H18.out (HY2.out w18 (Below.refl _ _)).2 HBP.out).1.mono ?_
          rintro e w19 ⟨rfl, b19⟩
          have H19 := hide (And.intro b19 (below_on H18.out b19))
          clear b19
          go_wp2_with fail
          refine (JM.out w19 _ order bq H19.out.2 (HY2.out w19 H19.out.1).2 HBQ.out).1.mono ?_
          rintro e w20 ⟨rfl, b20⟩
          have H20 := hide (And.intro (below_on H19.out.1 b20) (below_on H19.out.2 b20))
          have J21 := hide (back_any (B := w17.heap.size) (l := order) (v := .slice (some ⟨gy, 0, none⟩) no cy) (u := .slice ao no co) (w := w20) ⟨gy, cy, by rw [HNO.out], by rw [← HNO.out]; exact (HY2.out w20 H20.out.1).1, by rw [← HNO.out]; exact HGY.out.2.1⟩ (HK8.out w20 H20.out.2).2 (fun h0 k e1 e2 => by
            have h1 := HOB.out k e2 (by rw [HNO.out]; exact h0)
            simp only [Value.ownBlock, Option.some.injEq] at e1
            have := HGY.out
            omega) HOS.out)
          clear b20 H19
          go_wp2_with fail
          refine J21.out.mono ?_
          rintro e w21 ⟨rfl, hr21, mv21⟩
          have H21 : Hid (Below w8.heap.size w8 w21 ∧ ∃ zs, zs.length = no ∧ Rw w21 w17.heap.size (.slice (some ⟨gy, 0, none⟩) no cy) zs) := by
            refine ⟨H20.out.2.trans (mv21.below H20.out.2.size (fun k e => ?_)), _, ?_, hr21⟩
            · simp only [Value.ownBlock, Option.some.injEq] at e
              have := HGY.out
              omega
            · rw [List.length_replicate]
              exact HNO.out.symm
          clear hr21 mv21 J21 H20 HY2 H18
          go_wp2_with fail
          refine (JL.out w21 _ order bp H21.out.1 (HK8.out w21 H21.out.1).2 HBP.out).2.mono ?_
          rintro e w22 ⟨rfl, b22⟩
          have H22 := hide (And.intro b22 (below_on H21.out.1 b22))
          clear b22
          go_wp2_with fail
          refine (JM.out w22 _ order bq H22.out.2 (HK8.out w22 H22.out.2).2 HBQ.out).2.mono ?_
          rintro e w23 ⟨rfl, b23⟩
          have H23 := hide (And.intro (below_on H22.out.1 b23) (below_on H22.out.2 b23))
          clear b23 H22
          go_wp2_with fail
          refine (JC.out w23 H23.out.2).1.1.mono ?_
          rintro e w24 ⟨rfl, b24⟩
          have H24 := hide (And.intro (below_on H23.out.1 b24) (below_on H23.out.2 b24))
          clear b24 H23
          go_wp2_with fail
          refine (JC.out w24 H24.out.2).1.2.mono ?_
          rintro e w25 ⟨rfl, b25⟩
          have H25 := hide (And.intro (below_on H24.out.1 b25) (below_on H24.out.2 b25))
          clear b25 H24
          go_wp2_with fail
          refine (JC.out w25 H25.out.2).2.1.mono ?_
          rintro e w26 ⟨rfl, b26⟩
          have H26 := hide (And.intro (below_on H25.out.1 b26) (below_on H25.out.2 b26))
          clear b26 H25
          go_wp2_with fail
          refine (JC.out w26 H26.out.2).2.2.mono ?_
          rintro e w27 ⟨rfl, b27⟩
          have Q1 : Hid (Below w8.heap.size w8 w27 ∧ ∃ zs, zs.length = no ∧ Rw w27 w17.heap.size (.slice (some ⟨gy, 0, none⟩) no cy) zs) := by
            obtain ⟨q1, zs, q2, q3⟩ := H21.out
            exact ⟨below_on H26.out.2 b27, zs, q2, own_later q3 (below_on H26.out.1 b27)⟩
          have hny : no ≤ cy := by have := HGY.out; omega
          clear b27 H26 H21
          go_wp2_with fail
          go_loopw [32] (fun v32 X => ∃ i : Nat, i ≤ no ∧ v32 = .int .i64 (i : Int) ∧ Hid (Below w8.heap.size w8 X ∧ ∃ zs, zs.length = no ∧ Rw X w17.heap.size (.slice (some ⟨gy, 0, none⟩) no cy) zs)) (fun v32 _ => no - (intOf v32).toNat)
          case atStart => exact ⟨0, Nat.zero_le _, rfl, Q1.out⟩
          case round =>
            obtain ⟨i2, hi2, rfl, HR⟩ := hrel
            clear Q1
            by_cases hlt3 : i2 < no
            · have t2 : (i2 : Int) < (no : Int) := by omega
              obtain ⟨r1, zs2, r4, r5⟩ := HR.out
              have hzi : i2 < zs2.length := by omega
              have r5' : Rw wr w17.heap.size (.slice (some ⟨gy, 0, none⟩) zs2.length cy) zs2 := by rw [r4]; exact r5
              have c1 := r5'.at i2 hzi
              have f1 := r5'.frozenAt i2
              obtain ⟨ao', co', ek, -, -, hc⟩ := (HK8.out wr r1).2
              simp only [Value.slice.injEq] at ek
              obtain ⟨rfl, -, rfl⟩ := ek
              obtain ⟨gk, ok, rfl, hck⟩ := hc (by rw [← HNO.out]; omega)
              obtain ⟨j, hj⟩ : ∃ j, j = no - 1 - i2 := ⟨_, rfl⟩
              have hjp : j < order.length := by have := HNO.out; omega
              have c2 := hck j hjp
              have t3 : (no : Int) - 1 - (i2 : Int) = (j : Int) := by omega
              have t4 : (j : Int) < (no : Int) := by omega
              generalize zs2[i2] = z at c1
              generalize order[j] = y at c2
              have HN3 : Hid (Below w8.heap.size w8 (wr.setCell ⟨gy, i2, none⟩ (.int .i64 y)) ∧ ∃ zs, zs.length = no ∧ Rw (wr.setCell ⟨gy, i2, none⟩ (.int .i64 y)) w17.heap.size (.slice (some ⟨gy, 0, none⟩) no cy) zs) := by
                have hm : Mv wr (wr.setCell ⟨gy, i2, none⟩ (.int .i64 y)) (fun k => k = gy) := Mv.set (S := fun k => k = gy) (Mv.refl wr _) rfl i2 _
                exact ⟨r1.trans (hm.below r1.size (fun k e => by have := HGY.out; omega)), row_over r5 r4 i2 y⟩
              clear HR r1 r4 r5 r5' hck hzi hjp hj
              go_wp2_with fail
              exact ⟨⟨i2 + 1, by omega, rfl, HN3.out⟩, by simp only [intOf]; omega⟩
            · have t2 : ¬ (i2 : Int) < (no : Int) := by omega
              obtain ⟨r1, zs2, r4, r5⟩ := HR.out
              have HZ2 : Hid (zs2.length = no ∧ zs2.length * 8 ≤ 140737488355328) := ⟨r4, by have := HOS.out; have := HNO.out; omega⟩
              have H28 : Hid (Below w8.heap.size w8 wr ∧ Rl wr (.slice (some ⟨gy, 0, none⟩) no cy) zs2) := ⟨r1, Rl.of r5⟩
              obtain ⟨w28, rfl⟩ : ∃ X, X = wr := ⟨_, rfl⟩
              obtain ⟨bz, hbz⟩ := lg_ex Lp zs2
              have HBZ := hide hbz
              clear HR r1 r4 r5 hbz
              go_wp2_with (at_builtin; refine wpList_append_nums rfl _ _ rfl w28.heap.size (.slice none 0 0) 0 [] rfl (World.ownsRow_nil _ _ _ _) (.slice (some ⟨gy, 0, none⟩) no cy) zs2 rfl ?o1 ?o2 (Nat.le_refl _) ?_)
              case o1 => exact H28.out.2
              case o2 => have := HZ2.out; omega
              intro v29 w29 h29 hg29 _
              have h29' : Rw w29 w28.heap.size v29 zs2 := by simpa using h29
              have b29 : Below w28.heap.size w28 w29 := (Below.refl _ w28).grown hg29 (Nat.le_refl _) (fun k e => by simp [Value.ownBlock] at e)
              have H29 : Hid (Below w8.heap.size w8 w29 ∧ Rl w29 (.slice (some ⟨gy, 0, none⟩) no cy) zs2 ∧ Rl w29 v29 zs2) := ⟨below_on H28.out.1 b29, H28.out.2.later b29, Rl.of h29'⟩
              obtain ⟨a29, c29, hv29⟩ := own_len h29'
              clear h29 h29' hg29 b29 H28
              subst hv29
              go_wp2_with fail
              refine (JL.out w29 _ zs2 bz H29.out.1 H29.out.2.1 HBZ.out).1.mono ?_
              rintro e w30 ⟨rfl, b30⟩
              have H30 : Hid (Below w8.heap.size w8 w30 ∧ Rl w30 (.slice a29 zs2.length c29) zs2) := ⟨below_on H29.out.1 b30, H29.out.2.2.later b30⟩
              clear b30 H29
              go_wp2_with fail
              refine (JL.out w30 _ zs2 bz H30.out.1 H30.out.2 HBZ.out).2.mono ?_
              rintro e w31 ⟨rfl, b31⟩
              have H31 := hide (below_on BW8.out (below_on H30.out.1 b31))
              clear b31 H30
              go_wp2_with fail
              go_ret
              refine ⟨?_, H31.out⟩
              cases bz <;> rfl
end Go.Proofs.Ythgjdmomcpcolaa
