/-
  Verify: the document's access.
-/
import Derived.Test.YtfkhhplcogedmaaGreatDoorMgR
import Derived.Test.YtfkhhplcogedmaaGreatDoorVsG
import Derived.Deep.CutBlock
namespace Go.Proofs.YtfkhhplcogedmaaGreatDoor
open Go.RowKit
set_option maxRecDepth 100000
theorem frI_next (c : List Ins) (q : Nat) : frI c (q + 1) = if (iat c q).op = 26 then frI c q else q + 1 := rfl
set_option maxHeartbeats 8000000 in
theorem daccess_at {Q : Nat → Prop} {w : World} {ns cs nf cf n nr nw nk c3 c4 cc kc m1 k1 m2 k2 mx kx : Nat} {sa fa ka a1 a2 a3 a4 a5 ax : Option Addr} {ks : List Kind} (nm : ByteArray) (pa lo : Int) (code : List Ins) (pl : Nat) (sy : Bool) (re wrt : List Int) (n2 : ByteArray) (p2 l2 : Int) (hn : n = code.length) (hnk : nk = ks.length) (_hf1 : nf ≤ cf) (_hf2 : cf ≤ 9223372036854775807) (hk : Kr w (.slice ka nk kc) ks) (co : Il Q w (.slice a5 n cc) code) (hre : Nl Q w (.slice a3 nr c3) re) (hwr : Nl Q w (.slice a4 nw c4) wrt) (p : Nat) (hp : p < n) (hc : n ≤ 2000) :
    Calls Tryz.prog 34 #[.agg #[.slice sa ns cs, .slice fa nf cf], .slice ka nk kc, .agg #[.string nm, .int .i64 pa, .int .i64 lo, .slice a5 n cc, .slice a1 m1 k1, .slice a2 m2 k2, .slice a3 nr c3, .slice a4 nw c4, .string n2, .int .i64 p2, .int .i64 l2, .slice ax mx kx, .bool sy, .int .i64 (pl : Int)], .int .i64 (p : Int)] w fun e w' => e = .returned (.int .i64 (acN nf ks ⟨⟨nm, pa, lo, code⟩, pl, sy, re, wrt⟩ p)) ∧ Below w.heap.size w w' := by
  obtain ⟨g, o, cx, e, h1, h2, d1, d2, i1, i2⟩ := il_open co p (by rw [← hn]; exact hp)
  rw [← hn] at e h1
  simp only [Value.slice.injEq, true_and] at e
  obtain ⟨rfl, rfl⟩ := e
  obtain ⟨te, hte⟩ : ∃ t, t = acN nf ks ⟨⟨nm, pa, lo, code⟩, pl, sy, re, wrt⟩ p := ⟨_, rfl⟩
  rw [← hte]
  have TE := hide hte
  unfold acN b2D at TE
  dsimp only at TE
  have HK := hide hk
  have HC := hide co
  have HR := hide hre
  have HW := hide hwr
  have HN := hide hn
  obtain ⟨op, hop⟩ : ∃ y, y = (iat code p).op := ⟨_, rfl⟩
  obtain ⟨av, hav⟩ : ∃ y, y = (iat code p).a := ⟨_, rfl⟩
  have HOP := hide hop
  have HAV := hide hav
  rw [← hop] at d1 i1 TE
  rw [← hav] at d2 i2 TE
  have t1 : (p : Int) < (n : Int) := by omega
  clear hte co hre hwr hk hn hop hav
  have HNK := hide hnk
  clear hnk
  obtain ⟨w0, hw0⟩ : ∃ X, X = (w.alloc (.cells #[.slice sa ns cs, .slice fa nf cf] 25)).alloc (.cells #[.string nm, .int .i64 pa, .int .i64 lo, .slice (some ⟨g, o, none⟩) n cc, .slice a1 m1 k1, .slice a2 m2 k2, .slice a3 nr c3, .slice a4 nw c4, .string n2, .int .i64 p2, .int .i64 l2, .slice ax mx kx, .bool sy, .int .i64 (pl : Int)] 90) := ⟨_, rfl⟩
  have b0 : Below w.heap.size w w0 := by rw [hw0]; exact below_on (below_alloc w _) (below_alloc _ _)
  have kp : w0.heap[w.heap.size]? = some (.cells #[.slice sa ns cs, .slice fa nf cf] 25 (0, 0)) := by
    rw [hw0]
    exact ((below_alloc (w.alloc (.cells #[.slice sa ns cs, .slice fa nf cf] 25)) _).block w.heap.size (by simp)).trans (heap_alloc_new w _)
  have kr : w0.heap[w.heap.size + 1]? = some (.cells #[.string nm, .int .i64 pa, .int .i64 lo, .slice (some ⟨g, o, none⟩) n cc, .slice a1 m1 k1, .slice a2 m2 k2, .slice a3 nr c3, .slice a4 nw c4, .string n2, .int .i64 p2, .int .i64 l2, .slice ax mx kx, .bool sy, .int .i64 (pl : Int)] 90 (0, 0)) := by
    rw [hw0]
    have := heap_alloc_new (w.alloc (.cells #[.slice sa ns cs, .slice fa nf cf] 25)) (.cells #[.string nm, .int .i64 pa, .int .i64 lo, .slice (some ⟨g, o, none⟩) n cc, .slice a1 m1 k1, .slice a2 m2 k2, .slice a3 nr c3, .slice a4 nw c4, .string n2, .int .i64 p2, .int .i64 l2, .slice ax mx kx, .bool sy, .int .i64 (pl : Int)] 90)
    simpa using this
  have z1 := (b0.cell (World.block_lt_of_cell? w _ d1)).trans d1
  have z2 := (b0.cell (World.block_lt_of_cell? w _ d2)).trans d2
  have hr3 : w0.cell? ⟨w.heap.size + 1, 3, none⟩ = some (.slice (some ⟨g, o, none⟩) n cc) := by rw [cell_of_row w0 _ _ _ 90 (0, 0) kr]; rfl
  obtain ⟨gp, hgp⟩ : ∃ x, x = w.heap.size := ⟨_, rfl⟩
  obtain ⟨gr, hgr⟩ : ∃ x, x = w.heap.size + 1 := ⟨_, rfl⟩
  rw [← hgp] at kp
  rw [← hgr] at kr hr3
  clear d1 d2
  go_enter Tryz.func34, Tryz.ntmps34
  go_upto_region 1 with fail
  rw [← hw0, ← hgr, ← hgp]
  have B0 := hide b0
  have KP := hide kp
  have KR := hide kr
  clear hw0 hgr hgp b0 kp kr
  go_upto_region 3 with fail
  obtain ⟨WX, hWX⟩ : ∃ X, X = w0.alloc (.cells #[.int .i64 op, .int .i64 av] 28) := ⟨_, rfl⟩
  have bx : Below w0.heap.size w0 WX := hWX ▸ below_alloc w0 _
  have kx : WX.heap[w0.heap.size]? = some (.cells #[.int .i64 op, .int .i64 av] 28 (0, 0)) := by rw [hWX]; exact heap_alloc_new w0 _
  obtain ⟨x0, x1⟩ := row2 kx
  have kpx := (bx.block gp (lt_of_block KP.out)).trans KP.out
  have krx := (bx.block gr (lt_of_block KR.out)).trans KR.out
  have y1 : WX.cell? ⟨gp, 1, none⟩ = some (.slice fa nf cf) := by rw [cell_of_row WX _ _ _ 25 (0, 0) kpx]; rfl
  have y2 : WX.cell? ⟨gr, 2, none⟩ = some (.int .i64 lo) := by rw [cell_of_row WX _ _ _ 90 (0, 0) krx]; rfl
  have y6 : WX.cell? ⟨gr, 6, none⟩ = some (.slice a3 nr c3) := by rw [cell_of_row WX _ _ _ 90 (0, 0) krx]; rfl
  have y7 : WX.cell? ⟨gr, 7, none⟩ = some (.slice a4 nw c4) := by rw [cell_of_row WX _ _ _ 90 (0, 0) krx]; rfl
  have y12 : WX.cell? ⟨gr, 12, none⟩ = some (.bool sy) := by rw [cell_of_row WX _ _ _ 90 (0, 0) krx]; rfl
  have BX := hide (below_on B0.out bx)
  obtain ⟨gx, hgx⟩ : ∃ x, x = w0.heap.size := ⟨_, rfl⟩
  rw [← hgx] at x0 x1
  rw [← hWX, ← hgx]
  have JF : Hid (∀ k, Calls Tryz.prog 59 #[.slice ka nk kc, .int .i64 k] WX fun e w' => e = .returned (.int .i64 (fldD ks k)) ∧ w' = WX) := fun k => dfields_any (Kr.later HK.out BX.out) k
  have JR : Hid (∀ k, Calls Tryz.prog 60 #[.slice a3 nr c3, .int .i64 k] WX fun e w' => e = .returned (.bool (decide (k ∈ re))) ∧ w' = WX) := fun k => din_any (HR.out.later BX.out) k
  have JW : Hid (∀ k, Calls Tryz.prog 60 #[.slice a4 nw c4, .int .i64 k] WX fun e w' => e = .returned (.bool (decide (k ∈ wrt))) ∧ w' = WX) := fun k => din_any (HW.out.later BX.out) k
  unfold I6 at i2
  obtain ⟨kd, hkd⟩ : ∃ x, x = av.tdiv 8 := ⟨_, rfl⟩
  obtain ⟨td, htd⟩ : ∃ x, x = av.tmod 8 := ⟨_, rfl⟩
  obtain ⟨b1, hb1⟩ : ∃ b, b = b1D nf ks lo sy re wrt op av := ⟨_, rfl⟩
  rw [← hb1] at TE
  unfold b1D at hb1
  rw [← hkd, ← htd] at hb1
  have TB1 := hide hb1
  have tq : IntKind.i64.wrap (av.tdiv 8) = kd := by
    have h1 : (av.tdiv 8).natAbs = av.natAbs / 8 := Int.natAbs_tdiv av 8
    rw [IntKind.wrap_i64, hkd]
    omega
  have tq2 : av.tdiv 8 = kd := hkd.symm
  have tw : wrap64 kd = kd := by rw [← tq]; unfold wrap64; rw [IntKind.wrap_i64]; omega
  have tm2 : av.tmod 8 = td := htd.symm
  clear hWX hgx hkd htd hb1 bx kx kpx krx z1 z2 hr3 i1
  go_upto_block 0 with fail
  rw [tw]
  go_cut [13] (fun v wx => v = .bool b1 ∧ WX = wx)
  case first => as_aux_lemma =>
    by_cases c2 : op = 2 ∨ op = 3
    · as_aux_lemma =>
      rw [if_pos c2] at TB1
      rcases c2 with rfl | rfl
      all_goals
        clear JF JR JW y6 y7 y12
        go_upto_region 9 with fail
        by_cases l0 : av < 0
        · obtain rfl : b1 = true := by rw [TB1.out]; exact decide_eq_true (.inl l0)
          clear TB1 TE
          go_wp2_with fail
          go_meet
          first | exact ⟨rfl, rfl⟩ | (refine ⟨?_, rfl⟩; simp [l0, l1]; done) | (refine ⟨?_, rfl⟩; simp [l0]; done)
        · by_cases l1 : lo ≤ av
          · obtain rfl : b1 = true := by rw [TB1.out]; exact decide_eq_true (.inr l1)
            clear TB1 TE
            go_wp2_with fail
            go_meet
            first | exact ⟨rfl, rfl⟩ | (refine ⟨?_, rfl⟩; simp [l0, l1]; done) | (refine ⟨?_, rfl⟩; simp [l0]; done)
          · obtain rfl : b1 = false := by rw [TB1.out]; exact decide_eq_false (fun h => h.elim l0 l1)
            clear TB1 TE
            go_wp2_with fail
            go_meet
            first | exact ⟨rfl, rfl⟩ | (refine ⟨?_, rfl⟩; simp [l0, l1]; done) | (refine ⟨?_, rfl⟩; simp [l0]; done)
    rw [if_neg c2] at TB1
    by_cases c4 : op = 4 ∨ op = 5
    · as_aux_lemma =>
      rw [if_pos c4] at TB1
      have F1 := hide (JF.out kd)
      have F2 := hide (JW.out kd)
      have F3 := hide (JR.out kd)
      obtain ⟨fd, hfd⟩ : ∃ x, x = fldD ks kd := ⟨_, rfl⟩
      rw [← hfd] at F1 TB1
      generalize decide (kd ∈ wrt) = bw at *
      generalize decide (kd ∈ re) = br at *
      clear JF JR JW hfd
      rcases c4 with rfl | rfl
      all_goals
        go_wp2_with fail
        refine F1.out.mono ?_
        rintro e w1 ⟨rfl, rfl⟩
        go_wp2_with fail
        refine F2.out.mono ?_
        rintro e w1 ⟨rfl, rfl⟩
        go_wp2_with fail
        refine F3.out.mono ?_
        rintro e w1 ⟨rfl, rfl⟩
        clear F1 F2 F3 c2
        cases sy with
        | false =>
          obtain rfl : b1 = true := by rw [TB1.out]; simp
          clear TB1 TE
          go_wp2_with fail
          go_meet
          first | exact ⟨rfl, rfl⟩ | (refine ⟨?_, rfl⟩; simp [l0, l1]; done) | (refine ⟨?_, rfl⟩; simp [l0]; done)
        | true =>
          by_cases l0 : av < 0
          · skip
            obtain rfl : b1 = true := by rw [TB1.out]; simp [l0]
            clear TB1 TE
            go_wp2_with fail
            go_meet
            first | exact ⟨rfl, rfl⟩ | (refine ⟨?_, rfl⟩; simp [l0, l1]; done) | (refine ⟨?_, rfl⟩; simp [l0]; done)
          · by_cases l1 : td ≥ fd
            · skip
              obtain rfl : b1 = true := by rw [TB1.out]; simp [show fd ≤ td from l1]
              clear TB1 TE
              go_wp2_with fail
              go_meet
              first | exact ⟨rfl, rfl⟩ | (refine ⟨?_, rfl⟩; simp [l0, l1]; done) | (refine ⟨?_, rfl⟩; simp [l0]; done)
            · have l2 : ¬ fd ≤ td := l1
              cases bw with
              | true =>
                obtain rfl : b1 = false := by rw [TB1.out]; simp [l0, l2]
                clear TB1 TE l2
                go_wp2_with fail
                go_meet
                first | exact ⟨rfl, rfl⟩ | (refine ⟨?_, rfl⟩; simp [l0, l1]; done) | (refine ⟨?_, rfl⟩; simp [l0]; done)
              | false =>
                cases br with
                | false =>
                  obtain rfl : b1 = true := by rw [TB1.out]; simp
                  clear TB1 TE l2
                  go_wp2_with fail
                  go_meet
                  first | exact ⟨rfl, rfl⟩ | (refine ⟨?_, rfl⟩; simp [l0, l1]; done) | (refine ⟨?_, rfl⟩; simp [l0]; done)
                | true =>
                  first
                    | (obtain rfl : b1 = false := by (rw [TB1.out]; simp [l0, l2])
                       clear TB1 TE l2
                       go_wp2_with fail
                       go_meet
                       first | exact ⟨rfl, rfl⟩ | (refine ⟨?_, rfl⟩; simp [l0, l1]; done) | (refine ⟨?_, rfl⟩; simp []; done))
                    | (obtain rfl : b1 = true := by (rw [TB1.out]; simp [l0, l2])
                       clear TB1 TE l2
                       go_wp2_with fail
                       go_meet
                       first | exact ⟨rfl, rfl⟩ | (refine ⟨?_, rfl⟩; simp [l0, l1]; done) | (refine ⟨?_, rfl⟩; simp [l0]; done))
    rw [if_neg c4] at TB1
    by_cases c21 : op = 21
    · as_aux_lemma =>
      rw [if_pos c21] at TB1
      subst c21
      clear JF JR JW y6 y7 y12
      go_upto_region 17 with fail
      by_cases l0 : av < 0
      · obtain rfl : b1 = true := by rw [TB1.out]; exact decide_eq_true (.inl l0)
        clear TB1 TE
        go_wp2_with fail
        go_meet
        first | exact ⟨rfl, rfl⟩ | (refine ⟨?_, rfl⟩; simp [l0, l1]; done) | (refine ⟨?_, rfl⟩; simp [l0]; done)
      · by_cases l1 : (nf : Int) ≤ av
        · obtain rfl : b1 = true := by rw [TB1.out]; exact decide_eq_true (.inr l1)
          clear TB1 TE
          go_wp2_with fail
          go_meet
          first | exact ⟨rfl, rfl⟩ | (refine ⟨?_, rfl⟩; simp [l0, l1]; done) | (refine ⟨?_, rfl⟩; simp [l0]; done)
        · obtain rfl : b1 = false := by rw [TB1.out]; exact decide_eq_false (fun h => h.elim l0 l1)
          clear TB1 TE
          go_wp2_with fail
          go_meet
          first | exact ⟨rfl, rfl⟩ | (refine ⟨?_, rfl⟩; simp [l0, l1]; done) | (refine ⟨?_, rfl⟩; simp [l0]; done)
    rw [if_neg c21] at TB1
    by_cases c22 : op = 22
    · rw [if_pos c22] at TB1
      subst c22
      clear JF JR JW
      obtain rfl : b1 = sy := TB1.out
      clear TB1 TE
      go_wp2_with fail
      go_meet
      first | exact ⟨rfl, rfl⟩ | (refine ⟨?_, rfl⟩; simp [l0, l1]; done) | (refine ⟨?_, rfl⟩; simp [l0]; done)
    rw [if_neg c22] at TB1
    by_cases c25 : op = 25 ∨ op = 27 ∨ op = 30 ∨ op = 23
    · as_aux_lemma =>
      rw [if_pos c25] at TB1
      obtain rfl : b1 = !sy := TB1.out
      clear JF JR JW TB1 TE
      rcases c25 with rfl | rfl | rfl | rfl
      all_goals
        go_wp2_with fail
        go_meet
        first | exact ⟨rfl, rfl⟩ | (refine ⟨?_, rfl⟩; simp [l0, l1]; done) | (refine ⟨?_, rfl⟩; simp [l0]; done)
    rw [if_neg c25] at TB1
    by_cases c26 : op = 26 ∨ op = 28
    · as_aux_lemma =>
      rw [if_pos c26] at TB1
      have F1 := hide (JF.out kd)
      obtain ⟨fd, hfd⟩ : ∃ x, x = fldD ks kd := ⟨_, rfl⟩
      rw [← hfd] at F1 TB1
      clear JF JR JW hfd
      rcases c26 with rfl | rfl
      all_goals
        go_wp2_with fail
        refine F1.out.mono ?_
        rintro e w1 ⟨rfl, rfl⟩
        clear F1
        cases sy with
        | false =>
          obtain rfl : b1 = true := by rw [TB1.out]; simp
          clear TB1 TE
          go_wp2_with fail
          go_meet
          first | exact ⟨rfl, rfl⟩ | (refine ⟨?_, rfl⟩; simp [l0, l1]; done) | (refine ⟨?_, rfl⟩; simp [l0]; done)
        | true =>
          by_cases l0 : av < 0
          · skip
            obtain rfl : b1 = true := by rw [TB1.out]; simp [l0]
            clear TB1 TE
            go_wp2_with fail
            go_meet
            first | exact ⟨rfl, rfl⟩ | (refine ⟨?_, rfl⟩; simp [l0, l1]; done) | (refine ⟨?_, rfl⟩; simp [l0]; done)
          · by_cases l1 : fd = td
            · have l3 : (fd != td) = false := by simp [l1]
              obtain rfl : b1 = false := by rw [TB1.out]; simp [l0, l1]
              clear TB1 TE
              go_wp2_with fail
              go_meet
              first | exact ⟨rfl, rfl⟩ | (refine ⟨?_, rfl⟩; simp [l0]; done) | (refine ⟨?_, rfl⟩; simp [l0]; done)
            · have l3 : (fd != td) = true := by simp [l1]
              obtain rfl : b1 = true := by rw [TB1.out]; simp [l1]
              clear TB1 TE
              go_wp2_with fail
              go_meet
              first | exact ⟨rfl, rfl⟩ | (refine ⟨?_, rfl⟩; simp [l0, l1]; done) | (refine ⟨?_, rfl⟩; simp [l0]; done)
    rw [if_neg c26] at TB1
    by_cases c29 : op = 29 ∨ op = 35
    · as_aux_lemma =>
      rw [if_pos c29] at TB1
      have F1 := hide (JF.out av)
      obtain ⟨fd, hfd⟩ : ∃ x, x = fldD ks av := ⟨_, rfl⟩
      rw [← hfd] at F1 TB1
      clear JF JR JW hfd
      rcases c29 with rfl | rfl
      all_goals
        go_upto_region 31 with fail
        cases sy with
        | false =>
          obtain rfl : b1 = true := by rw [TB1.out]; simp
          clear TB1 TE F1
          go_wp2_with fail
          go_meet
          first | exact ⟨rfl, rfl⟩ | (refine ⟨?_, rfl⟩; simp [l0, l1]; done) | (refine ⟨?_, rfl⟩; simp [l0]; done)
        | true =>
          obtain rfl : b1 = decide (fd < 0) := by rw [TB1.out]; simp
          clear TB1 TE
          by_cases l0 : fd < 0
          · skip
            go_wp2_with fail
            refine F1.out.mono ?_
            rintro e w1 ⟨rfl, rfl⟩
            clear F1
            go_wp2_with fail
            go_meet
            exact ⟨by simp [l0], rfl⟩
          · skip
            go_wp2_with fail
            refine F1.out.mono ?_
            rintro e w1 ⟨rfl, rfl⟩
            clear F1
            go_wp2_with fail
            go_meet
            exact ⟨by simp [], rfl⟩
    rw [if_neg c29] at TB1
    obtain rfl : b1 = false := TB1.out
    have f2 : (op == 2) = false := beq_eq_false_iff_ne.2 (by omega)
    have f3 : (op == 3) = false := beq_eq_false_iff_ne.2 (by omega)
    have f4 : (op == 4) = false := beq_eq_false_iff_ne.2 (by omega)
    have f5 : (op == 5) = false := beq_eq_false_iff_ne.2 (by omega)
    have f21 : (op == 21) = false := beq_eq_false_iff_ne.2 (by omega)
    have f22 : (op == 22) = false := beq_eq_false_iff_ne.2 (by omega)
    have f25 : (op == 25) = false := beq_eq_false_iff_ne.2 (by omega)
    have f27 : (op == 27) = false := beq_eq_false_iff_ne.2 (by omega)
    have f30 : (op == 30) = false := beq_eq_false_iff_ne.2 (by omega)
    have f23 : (op == 23) = false := beq_eq_false_iff_ne.2 (by omega)
    have f26 : (op == 26) = false := beq_eq_false_iff_ne.2 (by omega)
    have f28 : (op == 28) = false := beq_eq_false_iff_ne.2 (by omega)
    have f29 : (op == 29) = false := beq_eq_false_iff_ne.2 (by omega)
    have f35 : (op == 35) = false := beq_eq_false_iff_ne.2 (by omega)
    clear JF JR JW TB1 TE c2 c4 c21 c22 c25 c26 c29
    go_wp2_with fail
    go_meet
    first | exact ⟨rfl, rfl⟩ | (refine ⟨?_, rfl⟩; simp [l0, l1]; done) | (refine ⟨?_, rfl⟩; simp [l0]; done)
  obtain ⟨rfl, rfl⟩ := hcut
  obtain ⟨b2, hb2⟩ : ∃ b, b = (b1 || (decide (op = 26) && !inrI code p)) := ⟨_, rfl⟩
  rw [← hb2] at TE
  have TB2 := hide hb2
  have HCX : Hid (Il Q WX (.slice (some ⟨g, o, none⟩) n cc) code) := HC.out.later BX.out
  clear JF JR JW TB1 hb2
  obtain ⟨bq, hbq⟩ : ∃ b, b = (decide (op = 26) && !b1) := ⟨_, rfl⟩
  have HBQ := hide hbq
  clear hbq
  go_upto_region 32 with fail
  go_cut [152] (fun v wx => v = .bool bq ∧ WX = wx)
  case first => as_aux_lemma =>
    clear TE TB2 HCX y1 y2 y6 y7 y12 x1
    by_cases c26 : op = 26
    · subst c26
      cases b1 with
      | true =>
        obtain rfl : bq = false := HBQ.out
        go_wp2_with fail
        go_meet
        exact ⟨rfl, rfl⟩
      | false =>
        obtain rfl : bq = true := HBQ.out
        go_wp2_with fail
        go_meet
        exact ⟨rfl, rfl⟩
    · have f26 : (op == 26) = false := beq_eq_false_iff_ne.2 c26
      obtain rfl : bq = false := by rw [HBQ.out, decide_eq_false c26]; rfl
      go_wp2_with fail
      go_meet
      exact ⟨rfl, rfl⟩
  obtain ⟨rfl, rfl⟩ := hcut
  go_upto_if 152 with fail
  go_cut [13] (fun v wx => v = .bool b2 ∧ WX = wx)
  case first => as_aux_lemma =>
    clear TE y1 y2 y6 y7 y12 x1
    cases bq with
    | true =>
      have HQQ : op = 26 ∧ b1 = false := by simpa using HBQ.out.symm
      obtain ⟨rfl, rfl⟩ := HQQ
      clear HBQ
      have TB3 : Hid (b2 = !inrI code p) := TB2.out
      clear TB2
      have hp2 : p ≤ 2000 := by omega
      clear x0
      go_wp2_with fail
      go_loopw [18] (fun v18 W => ∃ r : Nat, r ≤ p ∧ v18 = .int .i64 (r : Int) ∧ Hid (frI code p = frI code (p - r)) ∧ W = WX) (fun v18 _ => p - (intOf v18).toNat)
      case atStart => exact ⟨0, Nat.zero_le _, rfl, rfl, rfl⟩
      case round =>
        obtain ⟨r, hr, rfl, HFR0, hW⟩ := hrel
        subst hW
        by_cases hlt : r < p
        · have u1 : (r : Int) < (p : Int) := by omega
          obtain ⟨q, hq⟩ : ∃ q, q = p - r - 1 := ⟨_, rfl⟩
          have hqn : q < code.length := by have := HN.out; omega
          obtain ⟨g', o', e', -, z1, -⟩ := HCX.out.nth hqn
          simp only [Option.some.injEq, Addr.mk.injEq, and_true] at e'
          obtain ⟨rfl, rfl⟩ := e'
          rw [← iat_eq hqn] at z1
          obtain ⟨oz, hoz⟩ : ∃ y, y = (iat code q).op := ⟨_, rfl⟩
          have HOZ := hide hoz
          rw [← hoz] at z1
          have w1 : IntKind.i64.wrap ((p : Int) - (r : Int)) = (q : Int) + 1 := by rw [IntKind.wrap_i64]; omega
          have w2 : IntKind.i64.wrap ((q : Int) + 1 - 1) = (q : Int) := by rw [IntKind.wrap_i64]; omega
          have w3 : (q : Int) < (n : Int) := by have := HN.out; omega
          have HQ := hide hq
          clear hoz hq hqn
          by_cases c7 : oz = 26
          · have HFR2 : Hid (frI code p = frI code (p - (r + 1))) := by
              have h1 := HFR0.out
              have h2 := HQ.out
              rw [show p - r = q + 1 by omega] at h1
              rw [frI_next, ← HOZ.out, if_pos c7] at h1
              rw [show p - (r + 1) = q by omega]
              exact h1
            subst c7
            clear HFR0
            go_wp2_with fail
            go_roundw
            case rel => exact ⟨r + 1, by omega, by go_num, HFR2, trivial⟩
            case measure => simp [intOf]; omega
          · have HFR : Hid (frI code p = p - r) := by
              have h1 := HFR0.out
              have h2 := HQ.out
              rw [show p - r = q + 1 by omega] at h1
              rw [frI_next, ← HOZ.out, if_neg c7] at h1
              unfold Hid
              omega
            have f0 : (oz == 26) = false := beq_eq_false_iff_ne.2 c7
            clear HFR0 c7
            go_upto_region 36 with fail
            clear f0 z1 w1 w2 w3 HQ HOZ
            have TB4 : Hid (b2 = !decide (p + 1 < n ∧ ((iat code (p + 1)).op = 26 ∨ (iat code (p + 1)).op = 27) ∧ r < 12)) := by
              unfold Hid
              rw [TB3.out, HN.out]
              unfold inrI
              rw [show p - frI code p = r by have := HFR.out; omega]
            have tp1 : IntKind.i64.wrap ((p : Int) + 1) = (p : Int) + 1 := by rw [IntKind.wrap_i64]; omega
            clear TB3 HFR
            by_cases e1 : (p : Int) + 1 ≥ (n : Int)
            · obtain rfl : b2 = true := by rw [TB4.out, decide_eq_false (fun h => by omega)]; rfl
              clear TB4 HCX
              go_wp2_with fail
              go_meet
              exact ⟨rfl, rfl⟩
            · have hpn : p + 1 < code.length := by have := HN.out; omega
              obtain ⟨g', o', e', -, z1, -⟩ := HCX.out.nth hpn
              simp only [Option.some.injEq, Addr.mk.injEq, and_true] at e'
              obtain ⟨rfl, rfl⟩ := e'
              rw [← iat_eq hpn] at z1
              obtain ⟨oz, hoz⟩ : ∃ y, y = (iat code (p + 1)).op := ⟨_, rfl⟩
              rw [← hoz] at z1 TB4
              have e2 : p + 1 < n := by omega
              have e3 : (p : Int) + 1 < (n : Int) := by omega
              clear hoz HCX hpn
              by_cases c7 : oz = 26
              · subst c7
                by_cases r12 : (r : Int) ≥ 12
                · obtain rfl : b2 = true := by rw [TB4.out, decide_eq_false (fun h => by omega)]; rfl
                  clear TB4
                  go_wp2_with fail
                  go_meet
                  exact ⟨rfl, rfl⟩
                · obtain rfl : b2 = false := by rw [TB4.out, decide_eq_true ⟨e2, .inl rfl, by omega⟩]; rfl
                  clear TB4
                  go_wp2_with fail
                  go_meet
                  exact ⟨rfl, rfl⟩
              · by_cases c8 : oz = 27
                · subst c8
                  by_cases r12 : (r : Int) ≥ 12
                  · obtain rfl : b2 = true := by rw [TB4.out, decide_eq_false (fun h => by omega)]; rfl
                    clear TB4
                    go_wp2_with fail
                    go_meet
                    exact ⟨rfl, rfl⟩
                  · obtain rfl : b2 = false := by rw [TB4.out, decide_eq_true ⟨e2, .inr rfl, by omega⟩]; rfl
                    clear TB4
                    go_wp2_with fail
                    go_meet
                    exact ⟨rfl, rfl⟩
                · have f1 : (oz != 26) = true := by simp [c7]
                  have f2 : (oz != 27) = true := by simp [c8]
                  obtain rfl : b2 = true := by rw [TB4.out, decide_eq_false (fun h => h.2.1.elim c7 c8)]; rfl
                  clear TB4 c7 c8
                  go_wp2_with fail
                  go_meet
                  exact ⟨rfl, rfl⟩
        · have u1 : ¬ (r : Int) < (p : Int) := by omega
          have HFR : Hid (frI code p = p - r) := by
            have h1 := HFR0.out
            rw [show p - r = 0 by omega] at h1
            unfold Hid
            rw [show p - r = 0 by omega]
            exact h1
          clear HFR0
          go_upto_region 36 with fail
          have TB4 : Hid (b2 = !decide (p + 1 < n ∧ ((iat code (p + 1)).op = 26 ∨ (iat code (p + 1)).op = 27) ∧ r < 12)) := by
            unfold Hid
            rw [TB3.out, HN.out]
            unfold inrI
            rw [show p - frI code p = r by have := HFR.out; omega]
          have tp1 : IntKind.i64.wrap ((p : Int) + 1) = (p : Int) + 1 := by rw [IntKind.wrap_i64]; omega
          clear TB3 HFR
          by_cases e1 : (p : Int) + 1 ≥ (n : Int)
          · obtain rfl : b2 = true := by rw [TB4.out, decide_eq_false (fun h => by omega)]; rfl
            clear TB4 HCX
            go_wp2_with fail
            go_meet
            exact ⟨rfl, rfl⟩
          · have hpn : p + 1 < code.length := by have := HN.out; omega
            obtain ⟨g', o', e', -, z1, -⟩ := HCX.out.nth hpn
            simp only [Option.some.injEq, Addr.mk.injEq, and_true] at e'
            obtain ⟨rfl, rfl⟩ := e'
            rw [← iat_eq hpn] at z1
            obtain ⟨oz, hoz⟩ : ∃ y, y = (iat code (p + 1)).op := ⟨_, rfl⟩
            rw [← hoz] at z1 TB4
            have e2 : p + 1 < n := by omega
            have e3 : (p : Int) + 1 < (n : Int) := by omega
            clear hoz HCX hpn
            by_cases c7 : oz = 26
            · subst c7
              by_cases r12 : (r : Int) ≥ 12
              · obtain rfl : b2 = true := by rw [TB4.out, decide_eq_false (fun h => by omega)]; rfl
                clear TB4
                go_wp2_with fail
                go_meet
                exact ⟨rfl, rfl⟩
              · obtain rfl : b2 = false := by rw [TB4.out, decide_eq_true ⟨e2, .inl rfl, by omega⟩]; rfl
                clear TB4
                go_wp2_with fail
                go_meet
                exact ⟨rfl, rfl⟩
            · by_cases c8 : oz = 27
              · subst c8
                by_cases r12 : (r : Int) ≥ 12
                · obtain rfl : b2 = true := by rw [TB4.out, decide_eq_false (fun h => by omega)]; rfl
                  clear TB4
                  go_wp2_with fail
                  go_meet
                  exact ⟨rfl, rfl⟩
                · obtain rfl : b2 = false := by rw [TB4.out, decide_eq_true ⟨e2, .inr rfl, by omega⟩]; rfl
                  clear TB4
                  go_wp2_with fail
                  go_meet
                  exact ⟨rfl, rfl⟩
              · have f1 : (oz != 26) = true := by simp [c7]
                have f2 : (oz != 27) = true := by simp [c8]
                obtain rfl : b2 = true := by rw [TB4.out, decide_eq_false (fun h => h.2.1.elim c7 c8)]; rfl
                clear TB4 c7 c8
                go_wp2_with fail
                go_meet
                exact ⟨rfl, rfl⟩
    | false =>
      obtain rfl : b2 = b1 := by
        rw [TB2.out]
        have := HBQ.out
        cases b1 with
        | true => simp
        | false =>
          by_cases c : op = 26
          · rw [decide_eq_true c] at this
            cases this
          · rw [decide_eq_false c]
            rfl
      clear TB2 HCX HBQ
      go_wp2_with fail
      go_meet
      exact ⟨rfl, rfl⟩
  obtain ⟨rfl, rfl⟩ := hcut
  clear TB2 y1 y2 y6 y7 y12 HBQ
  cases b2 with
  | true =>
    obtain rfl : te = 152 := TE.out
    clear TE HCX
    go_wp2_with fail
    go_ret
    exact ⟨rfl, BX.out⟩
  | false =>
    have TE2 : Hid (te = if isJ (iat code p) && bhpI code av then 150 else 0) := TE.out
    clear TE
    by_cases cj : op = 19 ∨ op = 20
    · have TE3 : Hid (te = if bhpI code av then 150 else 0) := by
        unfold Hid
        rw [TE2.out]
        unfold isJ
        rw [← HOP.out, decide_eq_true cj, Bool.true_and]
      clear TE2
      by_cases l1 : av ≥ 1
      · by_cases l2 : av < (n : Int)
        · obtain ⟨q, hq⟩ : ∃ q : Nat, av = (q : Int) + 1 := ⟨(av - 1).toNat, by omega⟩
          have hqn : q < code.length := by have := HN.out; omega
          obtain ⟨g', o', e', -, z1, -⟩ := HCX.out.nth hqn
          simp only [Option.some.injEq, Addr.mk.injEq, and_true] at e'
          obtain ⟨rfl, rfl⟩ := e'
          rw [← iat_eq hqn] at z1
          obtain ⟨oz, hoz⟩ : ∃ y, y = (iat code q).op := ⟨_, rfl⟩
          have HBP : Hid (bhpI code av = decide (oz = 26)) := by
            unfold Hid bhpI
            rw [show (av - 1).toNat = q by omega, ← hoz, decide_eq_decide]
            exact ⟨fun h => h.2.2, fun h => ⟨by omega, by have := HN.out; omega, h⟩⟩
          rw [← hoz] at z1
          rw [HBP.out] at TE3
          have w1 : IntKind.i64.wrap (av - 1) = (q : Int) := by rw [IntKind.wrap_i64]; omega
          have w3 : (q : Int) < (n : Int) := by omega
          clear hoz hqn hq HBP
          by_cases c7 : oz = 26
          · obtain rfl : te = 150 := by rw [TE3.out, decide_eq_true c7]; rfl
            subst c7
            clear TE3 HCX
            rcases cj with rfl | rfl
            all_goals
              go_wp2_with fail
              go_ret
              exact ⟨rfl, BX.out⟩
          · obtain rfl : te = 0 := by rw [TE3.out, decide_eq_false c7]; rfl
            have f0 : (oz == 26) = false := beq_eq_false_iff_ne.2 c7
            clear TE3 HCX c7
            rcases cj with rfl | rfl
            all_goals
              go_wp2_with fail
              go_ret
              exact ⟨rfl, BX.out⟩
        · obtain rfl : te = 0 := by
            rw [TE3.out]
            unfold bhpI
            rw [decide_eq_false (fun h => by have := HN.out; omega)]
            rfl
          clear TE3 HCX
          rcases cj with rfl | rfl
          all_goals
            go_wp2_with fail
            go_ret
            exact ⟨rfl, BX.out⟩
      · obtain rfl : te = 0 := by
          rw [TE3.out]
          unfold bhpI
          rw [decide_eq_false (fun h => by omega)]
          rfl
        clear TE3 HCX
        rcases cj with rfl | rfl
        all_goals
          go_wp2_with fail
          go_ret
          exact ⟨rfl, BX.out⟩
    · obtain rfl : te = 0 := by
        rw [TE2.out]
        unfold isJ
        rw [← HOP.out, decide_eq_false cj]
        rfl
      have f1 : (op == 19) = false := beq_eq_false_iff_ne.2 (fun h => cj (.inl h))
      have f2 : (op == 20) = false := beq_eq_false_iff_ne.2 (fun h => cj (.inr h))
      clear TE2 HCX cj
      go_wp2_with fail
      go_ret
      exact ⟨rfl, BX.out⟩
end Go.Proofs.YtfkhhplcogedmaaGreatDoor
