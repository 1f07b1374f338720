/-
  Verify: mayTouch.
-/
import Derived.Test.YtfkhhplcogedmaaGreatDoorVfU
namespace Go.Proofs.YtfkhhplcogedmaaGreatDoor
open Go.RowKit
set_option maxRecDepth 100000
def ent (op : Int) : Bool := decide (op = 4 ∨ op = 5 ∨ op = 25 ∨ op = 26 ∨ op = 27 ∨ op = 28 ∨ op = 29 ∨ op = 30 ∨ op = 35 ∨ op = 23)
/-- What an instruction may touch. -/
def mtI (nf : Nat) (ks : List Kind) (r : Ro) (p : Nat) : Bool :=
  if (iat r.rt.code p).op = 2 ∨ (iat r.rt.code p).op = 3 then decide (0 ≤ (iat r.rt.code p).a ∧ (iat r.rt.code p).a < r.rt.lo)
  else if (iat r.rt.code p).op = 21 then decide (0 ≤ (iat r.rt.code p).a ∧ (iat r.rt.code p).a < (nf : Int))
  else if (iat r.rt.code p).op = 22 then !r.sy
  else if ent (iat r.rt.code p).op then r.sy && mtE ks r.re r.wr r.rt.code p
  else true
set_option maxHeartbeats 8000000 in
theorem maytouch_any {Q : Nat → Prop} {W : World} {B gv : Nat} {vs vf vk vr : Value} {p : Pg} {ks : List Kind} {L : List Rv} (h : Pm Q W B gv vs vf vk vr p ks L) (x : Rv) (hx : RvOk Q W x) (hk : ∀ k, k ∈ x.ro.re ∨ k ∈ x.ro.wr → 1 ≤ k ∧ k ≤ (ks.length : Int)) (hlo : 0 ≤ x.ro.rt.lo) (a : Nat) (ha : a < x.ro.rt.code.length) : Calls Tryz.prog 47 #[.pointer (some ⟨gv, 0, none⟩), rvV x, .int .i64 (a : Int)] W fun e w' => e = .returned (.bool (mtI p.fns.length ks x.ro a)) ∧ Below W.heap.size W w' := by
  have JE : Hid (∀ V, Below W.heap.size W V → Calls Tryz.prog 76 #[.pointer (some ⟨gv, 0, none⟩), rvV x, .int .i64 (a : Int)] V fun e w' => e = .returned (.bool (mtE ks x.ro.re x.ro.wr x.ro.rt.code a)) ∧ Below V.heap.size V w') := fun V hV => maytouche_any (h.later hV) x (hx.later hV) hk a ha
  have JF : Hid (∀ V, Below W.heap.size W V → V.cell? ⟨gv, 1, none⟩ = some vf) := fun V hV => (h.later hV).cells.2.1
  obtain ⟨af, cf, hvf, hf1, hf2⟩ := h.fns.at
  subst hvf
  obtain ⟨nf, hnf⟩ : ∃ n, n = p.fns.length := ⟨_, rfl⟩
  rw [← hnf] at JF hf1 ⊢
  clear h hk hnf
  obtain ⟨ro, vc, vr', vw, vd⟩ := x
  obtain ⟨rt, pl, sy, re, wrt⟩ := ro
  obtain ⟨nm, pa, lo, code⟩ := rt
  dsimp only [rvV] at hx ha JE hlo ⊢
  have JB : Hid (∀ V b (n : Nat), (n : Int) ≤ 9223372036854775807 → Calls Tryz.prog 75 #[.int .i64 b, .int .i64 (n : Int)] V fun e w' => e = .returned (.bool (decide (0 ≤ b ∧ b < (n : Int)))) ∧ w' = V) := fun V b n hn => isbelow_any b n V hn
  have hco : Il Q W vc code := hx.co
  have hre : Nl Q W vr' re := hx.re
  have hwr : Nl Q W vw wrt := hx.wr
  have hvd0 : ∃ a n c, vd = .slice a n c := hx.vd
  have hlo6 : I6 lo := hx.lo
  clear hx
  obtain ⟨ao, co, rfl, h1, h2⟩ := hco.at
  obtain ⟨g, o, rfl, -, d1, d2, -, i6⟩ := hco.nth ha
  obtain ⟨ar, cr, hvr, -, -⟩ := hre.at
  obtain ⟨aw, cw, hvw, -, -⟩ := hwr.at
  obtain ⟨ad, nd, cd, hvd⟩ := hvd0
  subst hvr hvw hvd
  rw [← iat_eq ha] at d1 d2 i6
  have HM : Hid (mtI nf ks ⟨⟨nm, pa, lo, code⟩, pl, sy, re, wrt⟩ a = if (iat code a).op = 2 ∨ (iat code a).op = 3 then decide (0 ≤ (iat code a).a ∧ (iat code a).a < lo) else if (iat code a).op = 21 then decide (0 ≤ (iat code a).a ∧ (iat code a).a < (nf : Int)) else if (iat code a).op = 22 then !sy else if ent (iat code a).op then sy && mtE ks re wrt code a else true) := rfl
  obtain ⟨op, hop⟩ : ∃ y, y = (iat code a).op := ⟨_, rfl⟩
  obtain ⟨av, hav⟩ : ∃ y, y = (iat code a).a := ⟨_, rfl⟩
  rw [← hop] at d1
  rw [← hav] at d2
  simp only [← hop, ← hav] at HM
  obtain ⟨be, hbe⟩ : ∃ y, y = mtE ks re wrt code a := ⟨_, rfl⟩
  rw [← hbe] at HM JE
  obtain ⟨bm, hbm⟩ : ∃ y, y = mtI nf ks ⟨⟨nm, pa, lo, code⟩, pl, sy, re, wrt⟩ a := ⟨_, rfl⟩
  rw [← hbm] at HM ⊢
  obtain ⟨nc, hnc⟩ : ∃ y, y = code.length := ⟨_, rfl⟩
  rw [← hnc] at h1 ha JE ⊢
  have tp : (a : Int) < (nc : Int) := by omega
  obtain ⟨ln, hln⟩ : ∃ y : Nat, lo = (y : Int) := ⟨lo.toNat, by omega⟩
  subst hln
  unfold I6 at hlo6
  have hl6 : (ln : Int) ≤ 9223372036854775807 := hlo6.2
  clear hop hav hbm hnc hco hre hwr hbe i6 hlo hlo6
  obtain ⟨W1, hW1⟩ : ∃ X, X = W.alloc (.cells #[.string nm, .int .i64 pa, .int .i64 (ln : Int), .slice (some ⟨g, o, none⟩) nc co, .int .i64 (pl : Int), .bool sy, .slice ar re.length cr, .slice aw wrt.length cw, .slice ad nd cd] 109) := ⟨_, rfl⟩
  have b1 : Below W.heap.size W W1 := hW1 ▸ below_alloc W _
  obtain ⟨gb, hgb⟩ : ∃ y, y = W.heap.size := ⟨_, rfl⟩
  have kb : W1.heap[gb]? = some (.cells #[.string nm, .int .i64 pa, .int .i64 (ln : Int), .slice (some ⟨g, o, none⟩) nc co, .int .i64 (pl : Int), .bool sy, .slice ar re.length cr, .slice aw wrt.length cw, .slice ad nd cd] 109 (0, 0)) := by rw [hW1, hgb]; exact heap_alloc_new W _
  have hM := Mv.of_below b1 (fun _ => False)
  have e1 := hM.cell d1 id
  have e2 := hM.cell d2 id
  obtain ⟨W2, hW2⟩ : ∃ X, X = W1.alloc (.cells #[.int .i64 op, .int .i64 av] 28) := ⟨_, rfl⟩
  have b2 : Below W1.heap.size W1 W2 := hW2 ▸ below_alloc W1 _
  obtain ⟨gi, hgi⟩ : ∃ y, y = W1.heap.size := ⟨_, rfl⟩
  have ki : W2.heap[gi]? = some (.cells #[.int .i64 op, .int .i64 av] 28 (0, 0)) := by rw [hW2, hgi]; exact heap_alloc_new W1 _
  have x3 := (row9 kb).2.2.2.1
  have B2 := hide (below_on b1 b2)
  have HC : Hid (∀ V, Below W2.heap.size W2 V → (V.cell? ⟨gi, 0, none⟩ = some (.int .i64 op) ∧ V.cell? ⟨gi, 1, none⟩ = some (.int .i64 av)) ∧ V.heap[gb]? = some (.cells #[.string nm, .int .i64 pa, .int .i64 (ln : Int), .slice (some ⟨g, o, none⟩) nc co, .int .i64 (pl : Int), .bool sy, .slice ar re.length cr, .slice aw wrt.length cw, .slice ad nd cd] 109 (0, 0))) := fun V hV => by
    have y1 := (hV.block gi (lt_of_block ki)).trans ki
    have y2 := (below_on b2 hV).block gb (lt_of_block kb)
    exact ⟨row2 y1, y2.trans kb⟩
  go_enter Tryz.func47, Tryz.ntmps47
  go_upto_region 1 with fail
  rw [← hW1, ← hgb]
  clear hW1 hgb b1 hM d1 d2
  go_upto_region 2 with fail
  rw [← hW2, ← hgi]
  clear hW2 hgi b2 e1 e2 x3 kb ki
  obtain ⟨⟨q0, q1⟩, qb⟩ := HC.out W2 (Below.refl _ _)
  obtain ⟨r0, r1, r2, r3, r4, r5, r6, r7, r8⟩ := row9 qb
  clear qb
  have BF := hide (B2.out)
  by_cases o2 : op = 2
  · subst o2
    have HBM : Hid (bm = decide (0 ≤ av ∧ av < (ln : Int))) := HM.out.trans (if_pos (.inl rfl))
    clear HM HC JE JF
    go_wp2_with fail
    refine (JB.out _ _ _ hl6).mono ?_
    rintro e w3 ⟨rfl, rfl⟩
    clear q0 q1 r0 r1 r2 r3 r4 r5 r6 r7 r8 JB
    go_wp2_with fail
    go_ret
    exact ⟨ret_bool (by rw [HBM.out, Bool.decide_and]), BF.out⟩
  · have f2 : (op == 2) = false := beq_eq_false_iff_ne.2 o2
    by_cases o3 : op = 3
    · subst o3
      have HBM : Hid (bm = decide (0 ≤ av ∧ av < (ln : Int))) := HM.out.trans (if_pos (.inr rfl))
      clear HM HC JE JF
      go_wp2_with fail
      refine (JB.out _ _ _ hl6).mono ?_
      rintro e w3 ⟨rfl, rfl⟩
      clear q0 q1 r0 r1 r2 r3 r4 r5 r6 r7 r8 JB
      go_wp2_with fail
      go_ret
      exact ⟨ret_bool (by rw [HBM.out, Bool.decide_and]), BF.out⟩
    · have f3 : (op == 3) = false := beq_eq_false_iff_ne.2 o3
      have HM4 : Hid (bm = _) := HM.out.trans (if_neg (fun e => e.elim o2 o3))
      clear HM o2 o3
      by_cases o21 : op = 21
      · subst o21
        have HBM : Hid (bm = decide (0 ≤ av ∧ av < (nf : Int))) := HM4.out.trans (if_pos rfl)
        clear HM4 JE q0 q1 r0 r1 r2 r3 r4 r5 r6 r7 r8
        obtain ⟨⟨q0, q1⟩, -⟩ := HC.out W2 (Below.refl _ _)
        go_upto_region 7 with fail
        clear q0 q1
        have S0 : Hid ((W2.drew.cell? ⟨gi, 0, none⟩ = some (.int .i64 21) ∧ W2.drew.cell? ⟨gi, 1, none⟩ = some (.int .i64 av)) ∧ W2.drew.cell? ⟨gv, 1, none⟩ = some (.slice af nf cf)) := ⟨(HC.out W2.drew (below_drew W2)).1, JF.out W2.drew (below_on B2.out (below_drew W2))⟩
        go_region_held3 (fun V => (V.cell? ⟨gi, 0, none⟩ = some (.int .i64 21) ∧ V.cell? ⟨gi, 1, none⟩ = some (.int .i64 av)) ∧ V.cell? ⟨gv, 1, none⟩ = some (.slice af nf cf)) (exact S0.out) ((go_at_call 75; refine (JB.out _ _ nf (by omega)).mono ?_; rintro e w3 ⟨rfl, rfl⟩))
        clear S0 HC JB JF
        go_wp2_with fail
        go_ret
        exact ⟨ret_bool (by rw [HBM.out, Bool.decide_and]), below_on BF.out (below_drew W2)⟩
      · have f21 : (op == 21) = false := beq_eq_false_iff_ne.2 o21
        have HM3 : Hid (bm = _) := HM4.out.trans (if_neg o21)
        clear HM4 o21
        by_cases o22 : op = 22
        · subst o22
          have HBM : Hid (bm = !sy) := HM3.out.trans (if_pos rfl)
          clear HM3 HC JE JF JB
          go_wp2_with fail
          go_ret
          exact ⟨ret_bool HBM.out.symm, BF.out⟩
        · have f22 : (op == 22) = false := beq_eq_false_iff_ne.2 o22
          have HM2 : Hid (bm = if ent op then sy && be else true) := HM3.out.trans (if_neg o22)
          clear HM3 o22
          by_cases o4 : op = 4
          · subst o4
            have HBM : Hid (bm = (sy && be)) := HM2.out.trans (if_pos (by decide))
            clear HM2 HC JF JB
            cases sy with
            | false =>
              go_wp2_with fail
              go_ret
              exact ⟨ret_bool HBM.out.symm, BF.out⟩
            | true =>
              have J := hide (JE.out W2 B2.out)
              clear JE
              go_wp2_with fail
              refine J.out.mono ?_
              rintro e w3 ⟨rfl, b3⟩
              have B3 := hide (below_on BF.out b3)
              clear J b3 q0 q1 r0 r1 r2 r3 r4 r5 r6 r7 r8
              go_wp2_with fail
              go_ret
              exact ⟨ret_bool HBM.out.symm, B3.out⟩
          · have f4 : (op == 4) = false := beq_eq_false_iff_ne.2 o4
            by_cases o5 : op = 5
            · subst o5
              have HBM : Hid (bm = (sy && be)) := HM2.out.trans (if_pos (by decide))
              clear HM2 HC JF JB
              cases sy with
              | false =>
                go_wp2_with fail
                go_ret
                exact ⟨ret_bool HBM.out.symm, BF.out⟩
              | true =>
                have J := hide (JE.out W2 B2.out)
                clear JE
                go_wp2_with fail
                refine J.out.mono ?_
                rintro e w3 ⟨rfl, b3⟩
                have B3 := hide (below_on BF.out b3)
                clear J b3 q0 q1 r0 r1 r2 r3 r4 r5 r6 r7 r8
                go_wp2_with fail
                go_ret
                exact ⟨ret_bool HBM.out.symm, B3.out⟩
            · have f5 : (op == 5) = false := beq_eq_false_iff_ne.2 o5
              by_cases o25 : op = 25
              · subst o25
                have HBM : Hid (bm = (sy && be)) := HM2.out.trans (if_pos (by decide))
                clear HM2 HC JF JB
                cases sy with
                | false =>
                  go_wp2_with fail
                  go_ret
                  exact ⟨ret_bool HBM.out.symm, BF.out⟩
                | true =>
                  have J := hide (JE.out W2 B2.out)
                  clear JE
                  go_wp2_with fail
                  refine J.out.mono ?_
                  rintro e w3 ⟨rfl, b3⟩
                  have B3 := hide (below_on BF.out b3)
                  clear J b3 q0 q1 r0 r1 r2 r3 r4 r5 r6 r7 r8
                  go_wp2_with fail
                  go_ret
                  exact ⟨ret_bool HBM.out.symm, B3.out⟩
              · have f25 : (op == 25) = false := beq_eq_false_iff_ne.2 o25
                by_cases o26 : op = 26
                · subst o26
                  have HBM : Hid (bm = (sy && be)) := HM2.out.trans (if_pos (by decide))
                  clear HM2 HC JF JB
                  cases sy with
                  | false =>
                    go_wp2_with fail
                    go_ret
                    exact ⟨ret_bool HBM.out.symm, BF.out⟩
                  | true =>
                    have J := hide (JE.out W2 B2.out)
                    clear JE
                    go_wp2_with fail
                    refine J.out.mono ?_
                    rintro e w3 ⟨rfl, b3⟩
                    have B3 := hide (below_on BF.out b3)
                    clear J b3 q0 q1 r0 r1 r2 r3 r4 r5 r6 r7 r8
                    go_wp2_with fail
                    go_ret
                    exact ⟨ret_bool HBM.out.symm, B3.out⟩
                · have f26 : (op == 26) = false := beq_eq_false_iff_ne.2 o26
                  by_cases o27 : op = 27
                  · subst o27
                    have HBM : Hid (bm = (sy && be)) := HM2.out.trans (if_pos (by decide))
                    clear HM2 HC JF JB
                    cases sy with
                    | false =>
                      go_wp2_with fail
                      go_ret
                      exact ⟨ret_bool HBM.out.symm, BF.out⟩
                    | true =>
                      have J := hide (JE.out W2 B2.out)
                      clear JE
                      go_wp2_with fail
                      refine J.out.mono ?_
                      rintro e w3 ⟨rfl, b3⟩
                      have B3 := hide (below_on BF.out b3)
                      clear J b3 q0 q1 r0 r1 r2 r3 r4 r5 r6 r7 r8
                      go_wp2_with fail
                      go_ret
                      exact ⟨ret_bool HBM.out.symm, B3.out⟩
                  · have f27 : (op == 27) = false := beq_eq_false_iff_ne.2 o27
                    by_cases o28 : op = 28
                    · subst o28
                      have HBM : Hid (bm = (sy && be)) := HM2.out.trans (if_pos (by decide))
                      clear HM2 HC JF JB
                      cases sy with
                      | false =>
                        go_wp2_with fail
                        go_ret
                        exact ⟨ret_bool HBM.out.symm, BF.out⟩
                      | true =>
                        have J := hide (JE.out W2 B2.out)
                        clear JE
                        go_wp2_with fail
                        refine J.out.mono ?_
                        rintro e w3 ⟨rfl, b3⟩
                        have B3 := hide (below_on BF.out b3)
                        clear J b3 q0 q1 r0 r1 r2 r3 r4 r5 r6 r7 r8
                        go_wp2_with fail
                        go_ret
                        exact ⟨ret_bool HBM.out.symm, B3.out⟩
                    · have f28 : (op == 28) = false := beq_eq_false_iff_ne.2 o28
                      by_cases o29 : op = 29
                      · subst o29
                        have HBM : Hid (bm = (sy && be)) := HM2.out.trans (if_pos (by decide))
                        clear HM2 HC JF JB
                        cases sy with
                        | false =>
                          go_wp2_with fail
                          go_ret
                          exact ⟨ret_bool HBM.out.symm, BF.out⟩
                        | true =>
                          have J := hide (JE.out W2 B2.out)
                          clear JE
                          go_wp2_with fail
                          refine J.out.mono ?_
                          rintro e w3 ⟨rfl, b3⟩
                          have B3 := hide (below_on BF.out b3)
                          clear J b3 q0 q1 r0 r1 r2 r3 r4 r5 r6 r7 r8
                          go_wp2_with fail
                          go_ret
                          exact ⟨ret_bool HBM.out.symm, B3.out⟩
                      · have f29 : (op == 29) = false := beq_eq_false_iff_ne.2 o29
                        by_cases o30 : op = 30
                        · subst o30
                          have HBM : Hid (bm = (sy && be)) := HM2.out.trans (if_pos (by decide))
                          clear HM2 HC JF JB
                          cases sy with
                          | false =>
                            go_wp2_with fail
                            go_ret
                            exact ⟨ret_bool HBM.out.symm, BF.out⟩
                          | true =>
                            have J := hide (JE.out W2 B2.out)
                            clear JE
                            go_wp2_with fail
                            refine J.out.mono ?_
                            rintro e w3 ⟨rfl, b3⟩
                            have B3 := hide (below_on BF.out b3)
                            clear J b3 q0 q1 r0 r1 r2 r3 r4 r5 r6 r7 r8
                            go_wp2_with fail
                            go_ret
                            exact ⟨ret_bool HBM.out.symm, B3.out⟩
                        · have f30 : (op == 30) = false := beq_eq_false_iff_ne.2 o30
                          by_cases o35 : op = 35
                          · subst o35
                            have HBM : Hid (bm = (sy && be)) := HM2.out.trans (if_pos (by decide))
                            clear HM2 HC JF JB
                            cases sy with
                            | false =>
                              go_wp2_with fail
                              go_ret
                              exact ⟨ret_bool HBM.out.symm, BF.out⟩
                            | true =>
                              have J := hide (JE.out W2 B2.out)
                              clear JE
                              go_wp2_with fail
                              refine J.out.mono ?_
                              rintro e w3 ⟨rfl, b3⟩
                              have B3 := hide (below_on BF.out b3)
                              clear J b3 q0 q1 r0 r1 r2 r3 r4 r5 r6 r7 r8
                              go_wp2_with fail
                              go_ret
                              exact ⟨ret_bool HBM.out.symm, B3.out⟩
                          · have f35 : (op == 35) = false := beq_eq_false_iff_ne.2 o35
                            by_cases o23 : op = 23
                            · subst o23
                              have HBM : Hid (bm = (sy && be)) := HM2.out.trans (if_pos (by decide))
                              clear HM2 HC JF JB
                              cases sy with
                              | false =>
                                go_wp2_with fail
                                go_ret
                                exact ⟨ret_bool HBM.out.symm, BF.out⟩
                              | true =>
                                have J := hide (JE.out W2 B2.out)
                                clear JE
                                go_wp2_with fail
                                refine J.out.mono ?_
                                rintro e w3 ⟨rfl, b3⟩
                                have B3 := hide (below_on BF.out b3)
                                clear J b3 q0 q1 r0 r1 r2 r3 r4 r5 r6 r7 r8
                                go_wp2_with fail
                                go_ret
                                exact ⟨ret_bool HBM.out.symm, B3.out⟩
                            · have f23 : (op == 23) = false := beq_eq_false_iff_ne.2 o23
                              have HBM : Hid (bm = true) := HM2.out.trans (if_neg (by unfold ent; simp [o4, o5, o25, o26, o27, o28, o29, o30, o35, o23]))
                              clear HM2 HC JF JB JE o4 o5 o25 o26 o27 o28 o29 o30 o35 o23
                              go_wp2_with fail
                              go_ret
                              exact ⟨ret_bool HBM.out.symm, BF.out⟩
end Go.Proofs.YtfkhhplcogedmaaGreatDoor
