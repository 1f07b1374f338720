/-
  Verify: askTouches.
-/
import Derived.Test.YtklamaibinjcmaaDoorVfV
namespace Go.Proofs.YtklamaibinjcmaaDoor
open Go.RowKit
set_option maxRecDepth 100000
/-- An instruction touches what it may not, or jumps into a row of parts. -/
def TB (nf : Nat) (ks : List Kind) (r : Ro) (a : Nat) : Prop := mtI nf ks r a = false ∨ (isJ (iat r.rt.code a) && bhpI r.rt.code (iat r.rt.code a).a) = true
def RBad (nf : Nat) (ks : List Kind) (l : List Ro) (n : Nat) : Prop := ∃ h : n < l.length, ∃ a, a < l[n].rt.code.length ∧ TB nf ks l[n] a
def tbE (nf : Nat) (ks : List Kind) (r : Ro) (a : Nat) : Int := if mtI nf ks r a then 150 else 152
/-- What askTouches answers. -/
def TcO (nf : Nat) (ks : List Kind) (l : List Ro) (o : Option (Int × Int)) : Prop :=
  (o = none ∧ ∀ n, n < l.length → ¬ RBad nf ks l n) ∨ ∃ n a, ∃ h : n < l.length, (∀ j, j < n → ¬ RBad nf ks l j) ∧ Fst l[n].rt.code.length (TB nf ks l[n]) (some a) ∧ o = some ((l[n].pl : Int) + a, tbE nf ks l[n] a)
set_option maxHeartbeats 8000000 in
theorem asktouches_any {Q : Nat → Prop} {W : World} {B gv : Nat} {vs vf vk vr : Value} {p : Pg} {ks : List Kind} {L : List Rv} (h : Pm Q W B gv vs vf vk vr p ks L) (hk : ∀ r ∈ rosOf p, (∀ k, k ∈ r.re ∨ k ∈ r.wr → 1 ≤ k ∧ k ≤ (ks.length : Int)) ∧ 0 ≤ r.rt.lo ∧ r.pl + r.rt.code.length ≤ 2000) : Calls Tryd.prog 32 #[.pointer (some ⟨gv, 0, none⟩)] W fun e w' => ∃ v o, e = .returned v ∧ TcO p.fns.length ks (rosOf p) o ∧ Flt w' v o ∧ Below W.heap.size W w' := by
  have HP := hide h
  have HK := hide hk
  have JF : Hid (∀ a e W, Calls Tryd.prog 23 #[.int .i64 a, .int .i64 e] W fun en w' => ∃ v, en = .returned v ∧ Flt w' v (some (a, e)) ∧ Below W.heap.size W w') := fault_any
  have JJ : Hid (∀ V i, Calls Tryd.prog 54 #[insV i] V fun e w' => e = .returned (.bool (isJ i)) ∧ Below V.heap.size V w') := fun V i => isjump_any i V
  obtain ⟨c0, c1, c2, c3⟩ := h.cells
  have hown := h.own
  obtain ⟨nL, hnL⟩ : ∃ n, n = L.length := ⟨_, rfl⟩
  rw [← hnL] at hown
  obtain ⟨ra, rc, hvr⟩ := own_len hown
  obtain ⟨rc1, rc2⟩ := own_cap (hvr ▸ hown)
  subst hvr
  have HNL : Hid (nL = L.length ∧ nL = (rosOf p).length) := ⟨hnL, by rw [hnL, h.len, rosOf_len]⟩
  obtain ⟨nf, hnf⟩ : ∃ n, n = p.fns.length := ⟨_, rfl⟩
  have HNF := hide hnf
  rw [← hnf]
  clear h hk hown hnL hnf
  go_enter Tryd.func32, Tryd.ntmps32
  go_wp2_with fail
  clear c0 c1 c2 c3
  go_loopw [12] (fun v12 V => ∃ i : Nat, i ≤ nL ∧ v12 = .int .i64 (i : Int) ∧ Hid (∀ j, j < i → ¬ RBad nf ks (rosOf p) j) ∧ Hid (Below W.heap.size W V)) (fun v12 _ => nL - (intOf v12).toNat)
  case atStart => exact ⟨0, Nat.zero_le _, rfl, fun j hj => absurd hj (by omega), Below.refl _ _⟩
  case round =>
    obtain ⟨i, hi, rfl, HNO, HB⟩ := hrel
    by_cases hlt : i < nL
    · have t1 : (i : Int) < (nL : Int) := by omega
      have hiL : i < L.length := by have := HNL.out.1; omega
      have hiR : i < (rosOf p).length := by have := HNL.out.2; omega
      obtain ⟨g, c, e, -, -, y0, y1, y2, y3, y4, y5, y6, y7, y8⟩ := (HP.out.later HB.out).row hiL
      have hra : ra = some ⟨g, 0, none⟩ := by
        simp only [Value.slice.injEq] at e
        exact e.1
      subst hra
      have hat := HP.out.at hiL
      have hok := HP.out.ok L[i] (List.getElem_mem hiL)
      have hkr := HK.out (rosOf p)[i] (List.getElem_mem hiR)
      rw [← hat] at hkr
      have HAT : Hid ((rosOf p)[i] = L[i].ro) := hat.symm
      have JM : Hid (∀ V a, Below W.heap.size W V → a < L[i].ro.rt.code.length → Calls Tryd.prog 53 #[.pointer (some ⟨gv, 0, none⟩), rvV L[i], .int .i64 ((a : Nat) : Int)] V fun e w' => e = .returned (.bool (mtI nf ks L[i].ro a)) ∧ Below V.heap.size V w') := fun V a hV ha => HNF.out ▸ maytouch_any (HP.out.later hV) L[i] (hok.later hV) hkr.1 hkr.2.1 a ha
      have JP : Hid (∀ V a, Below W.heap.size W V → Calls Tryd.prog 55 #[L[i].vc, .int .i64 a] V fun e w' => e = .returned (.bool (bhpI L[i].ro.rt.code a)) ∧ Below V.heap.size V w') := fun V a hV => isbehindpart_any (hok.co.later hV) a
      have HCO : Hid (∀ V, Below W.heap.size W V → Il Q V L[i].vc L[i].ro.rt.code) := fun V hV => hok.co.later hV
      have hpl := hkr.2.2
      obtain ⟨ac, cc, hvc, hc1, hc2⟩ := hok.co.at
      obtain ⟨ar, cr, hvr, -, -⟩ := hok.re.at
      obtain ⟨aw, cw, hvw, -, -⟩ := hok.wr.at
      obtain ⟨ad, nd, cd, hvd⟩ := hok.vd
      clear e hok hkr hat
      generalize L[i] = x at *
      obtain ⟨ro, vc, vr', vw, vd⟩ := x
      obtain ⟨rt, pl, sy, re, wrt⟩ := ro
      obtain ⟨nm, pa, lo, code⟩ := rt
      dsimp only [rvV] at *
      subst hvc hvr hvw hvd
      obtain ⟨nc, hnc⟩ : ∃ y, y = code.length := ⟨_, rfl⟩
      have HNC := hide hnc
      rw [← hnc] at y3 JM JP HCO hc1 hpl
      clear hnc
      go_upto_region 4 with fail
      obtain ⟨g4, hg4⟩ : ∃ x, x = wr.heap.size := ⟨_, rfl⟩
      obtain ⟨W1, hW1⟩ : ∃ X, X = wr.alloc (.cells #[.string nm, .int .i64 pa, .int .i64 lo, .slice ac nc cc, .int .i64 (pl : Int), .bool sy, .slice ar re.length cr, .slice aw wrt.length cw, .slice ad nd cd] 122) := ⟨_, rfl⟩
      have b1 : Below wr.heap.size wr W1 := hW1 ▸ below_alloc wr _
      have k4 : W1.heap[g4]? = some (.cells #[.string nm, .int .i64 pa, .int .i64 lo, .slice ac nc cc, .int .i64 (pl : Int), .bool sy, .slice ar re.length cr, .slice aw wrt.length cw, .slice ad nd cd] 122 (0, 0)) := by rw [hW1, hg4]; exact heap_alloc_new wr _
      have BW1 := hide (below_on HB.out b1)
      have K4 : Hid (∀ V, Below W1.heap.size W1 V → V.heap[g4]? = some (.cells #[.string nm, .int .i64 pa, .int .i64 lo, .slice ac nc cc, .int .i64 (pl : Int), .bool sy, .slice ar re.length cr, .slice aw wrt.length cw, .slice ad nd cd] 122 (0, 0))) := fun V hV => (hV.block g4 (lt_of_block k4)).trans k4
      rw [← hW1, ← hg4]
      have x3 := (row9 k4).2.2.2.1
      clear hW1 hg4 b1 k4 y0 y1 y2 y3 y4 y5 y6 y7 y8
      go_wp2_with fail
      clear x3
      go_loopw [20] (fun v20 V => ∃ a : Nat, a ≤ nc ∧ v20 = .int .i64 (a : Int) ∧ Hid (∀ j, j < a → ¬ TB nf ks ⟨⟨nm, pa, lo, code⟩, pl, sy, re, wrt⟩ j) ∧ Hid (Below W1.heap.size W1 V)) (fun v20 _ => nc - (intOf v20).toNat)
      case atStart => exact ⟨0, Nat.zero_le _, rfl, fun j hj => absurd hj (by omega), Below.refl _ _⟩
      case round =>
        obtain ⟨a, ha, rfl, HNA, HBA⟩ := hrel
        by_cases hlt2 : a < nc
        · have t2 : (a : Int) < (nc : Int) := by omega
          have hac : a < code.length := by have := HNC.out; omega
          have BV := hide (below_on BW1.out HBA.out)
          obtain ⟨gc, oc, rfl, -, d1, d2, -, -⟩ := (HCO.out wr BV.out).nth hac
          rw [← iat_eq hac] at d1 d2
          obtain ⟨op, hop⟩ : ∃ y, y = (iat code a).op := ⟨_, rfl⟩
          obtain ⟨av, hav⟩ : ∃ y, y = (iat code a).a := ⟨_, rfl⟩
          rw [← hop] at d1
          rw [← hav] at d2
          have HIA : Hid (iat code a = ⟨op, av⟩) := by unfold Hid; rw [hop, hav]
          clear hop hav
          go_upto_region 7 with fail
          obtain ⟨g6, hg6⟩ : ∃ x, x = wr.heap.size := ⟨_, rfl⟩
          obtain ⟨W2, hW2⟩ : ∃ X, X = wr.alloc (.cells #[.int .i64 op, .int .i64 av] 47) := ⟨_, rfl⟩
          have b2 : Below wr.heap.size wr W2 := hW2 ▸ below_alloc wr _
          have k6 : W2.heap[g6]? = some (.cells #[.int .i64 op, .int .i64 av] 47 (0, 0)) := by rw [hW2, hg6]; exact heap_alloc_new wr _
          have K6 : Hid (∀ V, Below W2.heap.size W2 V → V.cell? ⟨g6, 0, none⟩ = some (.int .i64 op) ∧ V.cell? ⟨g6, 1, none⟩ = some (.int .i64 av)) := fun V hV => row2 ((hV.block g6 (lt_of_block k6)).trans k6)
          have B2 := hide (below_on HBA.out b2)
          have BW2 := hide (below_on BV.out b2)
          rw [← hW2, ← hg6]
          clear hW2 hg6 b2 k6 d1 d2
          obtain ⟨x0, x1, x2, x3, x4, x5, x6, x7, x8⟩ := row9 (K4.out W2 B2.out)
          have J1 := hide (JM.out W2 a BW2.out hlt2)
          obtain ⟨bm, hbm⟩ : ∃ y, y = mtI nf ks ⟨⟨nm, pa, lo, code⟩, pl, sy, re, wrt⟩ a := ⟨_, rfl⟩
          rw [← hbm] at J1
          have HBM := hide hbm
          have tpl : (pl : Int) + (a : Int) ≤ 2000 := by omega
          clear hbm
          cases bm with
          | false =>
            have HO : Hid (TcO nf ks (rosOf p) (some ((pl : Int) + (a : Int), 152))) := by
              refine .inr ⟨i, a, hiR, HNO.out, ?_, ?_⟩
              · rw [HAT.out]
                exact ⟨hac, .inl HBM.out.symm, HNA.out⟩
              · rw [HAT.out]
                unfold tbE
                rw [← HBM.out]
                rfl
            go_wp2_with fail
            refine J1.out.mono ?_
            rintro e w3 ⟨rfl, b3⟩
            have B3 := hide (below_on B2.out b3)
            have BW3 := hide (below_on BW2.out b3)
            clear x0 x1 x2 x3 x4 x5 x6 x7 x8 J1 b3
            obtain ⟨-, -, -, -, x4, -⟩ := row9 (K4.out w3 B3.out)
            go_wp2_with fail
            refine (JF.out _ _ _).mono ?_
            rintro e w5 ⟨v5, rfl, f5, b5⟩
            have F5 := hide f5
            have B5 := hide (below_on BW3.out b5)
            clear f5 b5 x4
            go_wp2_with fail
            go_ret
            first | exact ⟨_, _, rfl, HO.out, F5.out, B5.out⟩ | exact ⟨_, rfl, _, HO.out, F5.out, B5.out⟩
          | true =>
            go_wp2_with fail
            refine J1.out.mono ?_
            rintro e w3 ⟨rfl, b3⟩
            have B3 := hide (below_on B2.out b3)
            have BW3 := hide (below_on BW2.out b3)
            obtain ⟨z0, z1⟩ := K6.out w3 b3
            have K6' : Hid (∀ V, Below w3.heap.size w3 V → V.cell? ⟨g6, 0, none⟩ = some (.int .i64 op) ∧ V.cell? ⟨g6, 1, none⟩ = some (.int .i64 av)) := fun V hV => K6.out V (below_on b3 hV)
            clear x0 x1 x2 x3 x4 x5 x6 x7 x8 J1 b3
            have J2 := hide (JJ.out w3 ⟨op, av⟩)
            unfold insV at J2
            dsimp only at J2
            obtain ⟨bj, hbj⟩ : ∃ y, y = isJ ⟨op, av⟩ := ⟨_, rfl⟩
            rw [← hbj] at J2
            have HBJ := hide hbj
            clear hbj
            cases bj with
            | false =>
              go_wp2_with fail
              refine J2.out.mono ?_
              rintro e w4 ⟨rfl, b4⟩
              have B4 := hide (below_on B3.out b4)
              have HN : Hid (∀ j, j < a + 1 → ¬ TB nf ks ⟨⟨nm, pa, lo, code⟩, pl, sy, re, wrt⟩ j) := fun j hj hb => by
                by_cases e : j = a
                · subst e
                  rcases hb with hb | hb
                  · rw [← HBM.out] at hb
                    cases hb
                  · dsimp only at hb
                    rw [HIA.out, ← HBJ.out] at hb
                    simp at hb
                · exact HNA.out j (by omega) hb
              clear z0 z1 J2 b4 HNA
              go_wp2_with fail
              go_roundw
              case rel => exact ⟨a + 1, by omega, rfl, HN, B4⟩
              case measure => simp only [intOf]; omega
            | true =>
              go_wp2_with fail
              refine J2.out.mono ?_
              rintro e w4 ⟨rfl, b4⟩
              have B4 := hide (below_on B3.out b4)
              have BW4 := hide (below_on BW3.out b4)
              obtain ⟨y0, y1⟩ := K6'.out w4 b4
              obtain ⟨-, -, -, x3, -⟩ := row9 (K4.out w4 B4.out)
              clear z0 z1 J2 b4
              have J3 := hide (JP.out w4 av BW4.out)
              obtain ⟨bp, hbp⟩ : ∃ y, y = bhpI code av := ⟨_, rfl⟩
              rw [← hbp] at J3
              have HBP := hide hbp
              clear hbp
              cases bp with
              | false =>
                go_wp2_with fail
                refine J3.out.mono ?_
                rintro e w5 ⟨rfl, b5⟩
                have B5 := hide (below_on B4.out b5)
                have HN : Hid (∀ j, j < a + 1 → ¬ TB nf ks ⟨⟨nm, pa, lo, code⟩, pl, sy, re, wrt⟩ j) := fun j hj hb => by
                  by_cases e : j = a
                  · subst e
                    rcases hb with hb | hb
                    · rw [← HBM.out] at hb
                      cases hb
                    · dsimp only at hb
                      rw [HIA.out] at hb
                      dsimp only at hb
                      rw [← HBP.out] at hb
                      simp at hb
                  · exact HNA.out j (by omega) hb
                clear y0 y1 x3 J3 b5 HNA
                go_wp2_with fail
                go_roundw
                case rel => exact ⟨a + 1, by omega, rfl, HN, B5⟩
                case measure => simp only [intOf]; omega
              | true =>
                have HO : Hid (TcO nf ks (rosOf p) (some ((pl : Int) + (a : Int), 150))) := by
                  refine .inr ⟨i, a, hiR, HNO.out, ?_, ?_⟩
                  · rw [HAT.out]
                    refine ⟨hac, .inr ?_, HNA.out⟩
                    dsimp only
                    rw [HIA.out, ← HBJ.out]
                    dsimp only
                    rw [← HBP.out]
                    rfl
                  · rw [HAT.out]
                    unfold tbE
                    rw [← HBM.out]
                    rfl
                go_wp2_with fail
                refine J3.out.mono ?_
                rintro e w5 ⟨rfl, b5⟩
                have B5 := hide (below_on B4.out b5)
                have BW5 := hide (below_on BW4.out b5)
                clear y0 y1 x3 J3 b5
                obtain ⟨-, -, -, -, x4, -⟩ := row9 (K4.out w5 B5.out)
                go_wp2_with fail
                refine (JF.out _ _ _).mono ?_
                rintro e w6 ⟨v6, rfl, f6, b6⟩
                have F6 := hide f6
                have B6 := hide (below_on BW5.out b6)
                clear f6 b6 x4
                go_wp2_with fail
                go_ret
                first | exact ⟨_, _, rfl, HO.out, F6.out, B6.out⟩ | exact ⟨_, rfl, _, HO.out, F6.out, B6.out⟩
        · have t2 : ¬ (a : Int) < (nc : Int) := by omega
          have HN : Hid (∀ j, j < i + 1 → ¬ RBad nf ks (rosOf p) j) := fun j hj hb => by
            by_cases e : j = i
            · subst e
              obtain ⟨h1, m, hm, hm2⟩ := hb
              rw [HAT.out] at hm hm2
              exact HNA.out m (by have := HNC.out; dsimp only at hm; omega) hm2
            · exact HNO.out j (by omega) hb
          have BV := hide (below_on BW1.out HBA.out)
          clear HNA HNO
          go_wp2_with fail
          go_roundw
          case rel => exact ⟨i + 1, by omega, rfl, HN, BV⟩
          case measure => simp only [intOf]; omega
    · have t1 : ¬ (i : Int) < (nL : Int) := by omega
      have HO : Hid (TcO nf ks (rosOf p) none) := .inl ⟨rfl, fun n hn => HNO.out n (by have := HNL.out.2; omega)⟩
      clear HNO
      go_wp2_with fail
      go_ret
      first | exact ⟨_, _, rfl, HO.out, rfl, HB.out⟩ | exact ⟨_, rfl, _, HO.out, rfl, HB.out⟩
end Go.Proofs.YtklamaibinjcmaaDoor
