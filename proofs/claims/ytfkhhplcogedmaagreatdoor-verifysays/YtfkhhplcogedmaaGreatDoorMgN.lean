import Derived.Test.YtfkhhplcogedmaaGreatDoorVfV
import Derived.Test.YtfkhhplcogedmaaGreatDoorMgJ
/-
  Verify: askTouches.
-/
namespace Go.Proofs.YtfkhhplcogedmaaGreatDoor
open Go.RowKit
set_option maxRecDepth 100000
/-- An instruction touches what it may not, or jumps into a row of parts. -/
def TB (nf : Nat) (ks : List Kind) (r : Ro) (a : Nat) : Prop := mtI nf ks r a = false ∨ (isJ (iat r.rt.code a) && bhpI r.rt.code (iat r.rt.code a).a) = true
def RBad (nf : Nat) (ks : List Kind) (l : List Ro) (n : Nat) : Prop := ∃ h : n < l.length, ∃ a, a < l[n].rt.code.length ∧ TB nf ks l[n] a
def tbE (nf : Nat) (ks : List Kind) (r : Ro) (a : Nat) : Int := if mtI nf ks r a then 150 else 152
/-- What askTouches answers. -/
def TcO (nf : Nat) (ks : List Kind) (l : List Ro) (o : Option (Int × Int)) : Prop :=
  (o = none ∧ ∀ n, n < l.length → ¬ RBad nf ks l n) ∨ ∃ n a, ∃ h : n < l.length, (∀ j, j < n → ¬ RBad nf ks l j) ∧ Fst l[n].rt.code.length (TB nf ks l[n]) (some a) ∧ o = some ((l[n].pl : Int) + a, tbE nf ks l[n] a)
set_option maxHeartbeats 8000000 in
theorem asktouches_any {Q : Nat → Prop} {W : World} {B gv : Nat} {vs vf vk vr : Value} {p : Pg} {ks : List Kind} {L : List Rv} (h : Pm Q W B gv vs vf vk vr p ks L) (hk : ∀ r ∈ rosOf p, (∀ k, k ∈ r.re ∨ k ∈ r.wr → 1 ≤ k ∧ k ≤ (ks.length : Int)) ∧ 0 ≤ r.rt.lo ∧ r.pl + r.rt.code.length ≤ 2000) : Calls Tryz.prog 24 #[.pointer (some ⟨gv, 0, none⟩)] W fun e w' => ∃ v o, e = .returned v ∧ TcO p.fns.length ks (rosOf p) o ∧ FltN W.heap.size w' v o ∧ Below W.heap.size W w' := by
  have HP := hide h
  have HK := hide hk
  have JF : Hid (∀ a e W, Calls Tryz.prog 20 #[.int .i64 a, .int .i64 e] W fun en w' => ∃ v, en = .returned v ∧ FltN W.heap.size w' v (some (a, e)) ∧ Below W.heap.size W w') := faultN_any
  have JJ : Hid (∀ V i, Calls Tryz.prog 48 #[insV i] V fun e w' => e = .returned (.bool (isJ i)) ∧ Below V.heap.size V w') := fun V i => isjump_any i V
  obtain ⟨c0, c1, c2, c3⟩ := h.cells
  have hown := h.own
  obtain ⟨nL, hnL⟩ : ∃ n, n = L.length := ⟨_, rfl⟩
  rw [← hnL] at hown
  obtain ⟨ra, rc, hvr⟩ := own_len hown
  obtain ⟨rc1, rc2⟩ := own_cap (hvr ▸ hown)
  subst hvr
  have HNL : Hid (nL = L.length ∧ nL = (rosOf p).length) := ⟨hnL, by rw [hnL, h.len, rosOf_len]⟩
  obtain ⟨nf, hnf⟩ : ∃ n, n = p.fns.length := ⟨_, rfl⟩
  have HNF := hide hnf
  rw [← hnf]
  clear h hk hown hnL hnf
  go_enter Tryz.func24, Tryz.ntmps24
  go_wp2_with fail
  clear c0 c1 c2 c3
  go_loopw [12] (fun v12 V => ∃ i : Nat, i ≤ nL ∧ v12 = .int .i64 (i : Int) ∧ Hid (∀ j, j < i → ¬ RBad nf ks (rosOf p) j) ∧ Hid (Below W.heap.size W V)) (fun v12 _ => nL - (intOf v12).toNat)
  case atStart => exact ⟨0, Nat.zero_le _, rfl, fun j hj => absurd hj (by omega), Below.refl _ _⟩
  case round =>
    obtain ⟨i, hi, rfl, HNO, HB⟩ := hrel
    by_cases hlt : i < nL
    · have t1 : (i : Int) < (nL : Int) := by omega
      have hiL : i < L.length := by have := HNL.out.1; omega
      have hiR : i < (rosOf p).length := by have := HNL.out.2; omega
      obtain ⟨g, c, e, -, -, y0, y1, y2, y3, y4, y5, y6, y7, y8⟩ := (HP.out.later HB.out).row hiL
      have hra : ra = some ⟨g, 0, none⟩ := by
        simp only [Value.slice.injEq] at e
        exact e.1
      subst hra
      have hat := HP.out.at hiL
      have hok := HP.out.ok L[i] (List.getElem_mem hiL)
      have hkr := HK.out (rosOf p)[i] (List.getElem_mem hiR)
      rw [← hat] at hkr
      have HAT : Hid ((rosOf p)[i] = L[i].ro) := hat.symm
      have JM : Hid (∀ V a, Below W.heap.size W V → a < L[i].ro.rt.code.length → Calls Tryz.prog 47 #[.pointer (some ⟨gv, 0, none⟩), rvV L[i], .int .i64 ((a : Nat) : Int)] V fun e w' => e = .returned (.bool (mtI nf ks L[i].ro a)) ∧ Below V.heap.size V w') := fun V a hV ha => HNF.out ▸ maytouch_any (HP.out.later hV) L[i] (hok.later hV) hkr.1 hkr.2.1 a ha
      have JP : Hid (∀ V a, Below W.heap.size W V → Calls Tryz.prog 49 #[L[i].vc, .int .i64 a] V fun e w' => e = .returned (.bool (bhpI L[i].ro.rt.code a)) ∧ Below V.heap.size V w') := fun V a hV => isbehindpart_any (hok.co.later hV) a
      have HCO : Hid (∀ V, Below W.heap.size W V → Il Q V L[i].vc L[i].ro.rt.code) := fun V hV => hok.co.later hV
      have hpl := hkr.2.2
      obtain ⟨ac, cc, hvc, hc1, hc2⟩ := hok.co.at
      obtain ⟨ar, cr, hvr, -, -⟩ := hok.re.at
      obtain ⟨aw, cw, hvw, -, -⟩ := hok.wr.at
      obtain ⟨ad, nd, cd, hvd⟩ := hok.vd
      clear e hok hkr hat
      generalize L[i] = x at *
      obtain ⟨ro, vc, vr', vw, vd⟩ := x
      obtain ⟨rt, pl, sy, re, wrt⟩ := ro
      obtain ⟨nm, pa, lo, code⟩ := rt
      dsimp only [rvV] at *
      subst hvc hvr hvw hvd
      obtain ⟨nc, hnc⟩ : ∃ y, y = code.length := ⟨_, rfl⟩
      have HNC := hide hnc
      rw [← hnc] at y3 JM JP HCO hc1 hpl
      clear hnc
      go_upto_region 4 with fail
      obtain ⟨g4, hg4⟩ : ∃ x, x = wr.heap.size := ⟨_, rfl⟩
      obtain ⟨W1, hW1⟩ : ∃ X, X = wr.alloc (.cells #[.string nm, .int .i64 pa, .int .i64 lo, .slice ac nc cc, .int .i64 (pl : Int), .bool sy, .slice ar re.length cr, .slice aw wrt.length cw, .slice ad nd cd] 109) := ⟨_, rfl⟩
      have b1 : Below wr.heap.size wr W1 := hW1 ▸ below_alloc wr _
      have k4 : W1.heap[g4]? = some (.cells #[.string nm, .int .i64 pa, .int .i64 lo, .slice ac nc cc, .int .i64 (pl : Int), .bool sy, .slice ar re.length cr, .slice aw wrt.length cw, .slice ad nd cd] 109 (0, 0)) := by rw [hW1, hg4]; exact heap_alloc_new wr _
      have BW1 := hide (below_on HB.out b1)
      have K4 : Hid (∀ V, Below W1.heap.size W1 V → V.heap[g4]? = some (.cells #[.string nm, .int .i64 pa, .int .i64 lo, .slice ac nc cc, .int .i64 (pl : Int), .bool sy, .slice ar re.length cr, .slice aw wrt.length cw, .slice ad nd cd] 109 (0, 0))) := fun V hV => (hV.block g4 (lt_of_block k4)).trans k4
      rw [← hW1, ← hg4]
      have x3 := (row9 k4).2.2.2.1
      clear hW1 hg4 b1 k4 y0 y1 y2 y3 y4 y5 y6 y7 y8
      go_wp2_with fail
      clear x3
      go_loopw [20] (fun v20 V => ∃ a : Nat, a ≤ nc ∧ v20 = .int .i64 (a : Int) ∧ Hid (∀ j, j < a → ¬ TB nf ks ⟨⟨nm, pa, lo, code⟩, pl, sy, re, wrt⟩ j) ∧ Hid (Below W1.heap.size W1 V)) (fun v20 _ => nc - (intOf v20).toNat)
      case atStart => exact ⟨0, Nat.zero_le _, rfl, fun j hj => absurd hj (by omega), Below.refl _ _⟩
      case round =>
        obtain ⟨a, ha, rfl, HNA, HBA⟩ := hrel
        by_cases hlt2 : a < nc
        · have t2 : (a : Int) < (nc : Int) := by omega
          have hac : a < code.length := by have := HNC.out; omega
          have BV := hide (below_on BW1.out HBA.out)
          obtain ⟨gc, oc, rfl, -, d1, d2, -, -⟩ := (HCO.out wr BV.out).nth hac
          rw [← iat_eq hac] at d1 d2
          obtain ⟨op, hop⟩ : ∃ y, y = (iat code a).op := ⟨_, rfl⟩
          obtain ⟨av, hav⟩ : ∃ y, y = (iat code a).a := ⟨_, rfl⟩
          rw [← hop] at d1
          rw [← hav] at d2
          have HIA : Hid (iat code a = ⟨op, av⟩) := by unfold Hid; rw [hop, hav]
          clear hop hav
          go_upto_region 7 with fail
          obtain ⟨g6, hg6⟩ : ∃ x, x = wr.heap.size := ⟨_, rfl⟩
          obtain ⟨W2, hW2⟩ : ∃ X, X = wr.alloc (.cells #[.int .i64 op, .int .i64 av] 28) := ⟨_, rfl⟩
          have b2 : Below wr.heap.size wr W2 := hW2 ▸ below_alloc wr _
          have k6 : W2.heap[g6]? = some (.cells #[.int .i64 op, .int .i64 av] 28 (0, 0)) := by rw [hW2, hg6]; exact heap_alloc_new wr _
          have K6 : Hid (∀ V, Below W2.heap.size W2 V → V.cell? ⟨g6, 0, none⟩ = some (.int .i64 op) ∧ V.cell? ⟨g6, 1, none⟩ = some (.int .i64 av)) := fun V hV => row2 ((hV.block g6 (lt_of_block k6)).trans k6)
          have B2 := hide (below_on HBA.out b2)
          have BW2 := hide (below_on BV.out b2)
          rw [← hW2, ← hg6]
          clear hW2 hg6 b2 k6 d1 d2
          obtain ⟨x0, x1, x2, x3, x4, x5, x6, x7, x8⟩ := row9 (K4.out W2 B2.out)
          have J1 := hide (JM.out W2 a BW2.out hlt2)
          obtain ⟨bm, hbm⟩ : ∃ y, y = mtI nf ks ⟨⟨nm, pa, lo, code⟩, pl, sy, re, wrt⟩ a := ⟨_, rfl⟩
          rw [← hbm] at J1
          have HBM := hide hbm
          have tpl : (pl : Int) + (a : Int) ≤ 2000 := by omega
          clear hbm
          cases bm with
          | false =>
            have HO : Hid (TcO nf ks (rosOf p) (some ((pl : Int) + (a : Int), 152))) := by
              refine .inr ⟨i, a, hiR, HNO.out, ?_, ?_⟩
              · rw [HAT.out]
                exact ⟨hac, .inl HBM.out.symm, HNA.out⟩
              · rw [HAT.out]
                unfold tbE
                rw [← HBM.out]
                rfl
            go_wp2_with fail
            refine J1.out.mono ?_
            rintro e w3 ⟨rfl, b3⟩
            have B3 := hide (below_on B2.out b3)
            have BW3 := hide (below_on BW2.out b3)
            clear x0 x1 x2 x3 x4 x5 x6 x7 x8 J1 b3
            obtain ⟨-, -, -, -, x4, -⟩ := row9 (K4.out w3 B3.out)
            go_wp2_with fail
            refine (JF.out _ _ _).mono ?_
            rintro e w5 ⟨v5, rfl, f5, b5⟩
            have F5 := hide (f5.mono BW3.out.size)
            have B5 := hide (below_on BW3.out b5)
            clear f5 b5 x4
            go_wp2_with fail
            go_ret
            first | exact ⟨_, _, rfl, HO.out, F5.out, B5.out⟩ | exact ⟨_, rfl, _, HO.out, F5.out, B5.out⟩
          | true =>
            go_wp2_with fail
            refine J1.out.mono ?_
            rintro e w3 ⟨rfl, b3⟩
            have B3 := hide (below_on B2.out b3)
            have BW3 := hide (below_on BW2.out b3)
            obtain ⟨z0, z1⟩ := K6.out w3 b3
            have K6' : Hid (∀ V, Below w3.heap.size w3 V → V.cell? ⟨g6, 0, none⟩ = some (.int .i64 op) ∧ V.cell? ⟨g6, 1, none⟩ = some (.int .i64 av)) := fun V hV => K6.out V (below_on b3 hV)
            clear x0 x1 x2 x3 x4 x5 x6 x7 x8 J1 b3
            have J2 := hide (JJ.out w3 ⟨op, av⟩)
            unfold insV at J2
            dsimp only at J2
            obtain ⟨bj, hbj⟩ : ∃ y, y = isJ ⟨op, av⟩ := ⟨_, rfl⟩
            rw [← hbj] at J2
            have HBJ := hide hbj
            clear hbj
            cases bj with
            | false =>
              go_wp2_with fail
              refine J2.out.mono ?_
              rintro e w4 ⟨rfl, b4⟩
              have B4 := hide (below_on B3.out b4)
              have HN : Hid (∀ j, j < a + 1 → ¬ TB nf ks ⟨⟨nm, pa, lo, code⟩, pl, sy, re, wrt⟩ j) := fun j hj hb => by
                by_cases e : j = a
                · subst e
                  rcases hb with hb | hb
                  · rw [← HBM.out] at hb
                    cases hb
                  · dsimp only at hb
                    rw [HIA.out, ← HBJ.out] at hb
                    simp at hb
                · exact HNA.out j (by omega) hb
              clear z0 z1 J2 b4 HNA
              go_wp2_with fail
              go_roundw
              case rel => exact ⟨a + 1, by omega, rfl, HN, B4⟩
              case measure => simp only [intOf]; omega
            | true =>
              go_wp2_with fail
              refine J2.out.mono ?_
              rintro e w4 ⟨rfl, b4⟩
              have B4 := hide (below_on B3.out b4)
              have BW4 := hide (below_on BW3.out b4)
              obtain ⟨y0, y1⟩ := K6'.out w4 b4
              obtain ⟨-, -, -, x3, -⟩ := row9 (K4.out w4 B4.out)
              clear z0 z1 J2 b4
              have J3 := hide (JP.out w4 av BW4.out)
              obtain ⟨bp, hbp⟩ : ∃ y, y = bhpI code av := ⟨_, rfl⟩
              rw [← hbp] at J3
              have HBP := hide hbp
              clear hbp
              cases bp with
              | false =>
                go_wp2_with fail
                refine J3.out.mono ?_
                rintro e w5 ⟨rfl, b5⟩
                have B5 := hide (below_on B4.out b5)
                have HN : Hid (∀ j, j < a + 1 → ¬ TB nf ks ⟨⟨nm, pa, lo, code⟩, pl, sy, re, wrt⟩ j) := fun j hj hb => by
                  by_cases e : j = a
                  · subst e
                    rcases hb with hb | hb
                    · rw [← HBM.out] at hb
                      cases hb
                    · dsimp only at hb
                      rw [HIA.out] at hb
                      dsimp only at hb
                      rw [← HBP.out] at hb
                      simp at hb
                  · exact HNA.out j (by omega) hb
                clear y0 y1 x3 J3 b5 HNA
                go_wp2_with fail
                go_roundw
                case rel => exact ⟨a + 1, by omega, rfl, HN, B5⟩
                case measure => simp only [intOf]; omega
              | true =>
                have HO : Hid (TcO nf ks (rosOf p) (some ((pl : Int) + (a : Int), 150))) := by
                  refine .inr ⟨i, a, hiR, HNO.out, ?_, ?_⟩
                  · rw [HAT.out]
                    refine ⟨hac, .inr ?_, HNA.out⟩
                    dsimp only
                    rw [HIA.out, ← HBJ.out]
                    dsimp only
                    rw [← HBP.out]
                    rfl
                  · rw [HAT.out]
                    unfold tbE
                    rw [← HBM.out]
                    rfl
                go_wp2_with fail
                refine J3.out.mono ?_
                rintro e w5 ⟨rfl, b5⟩
                have B5 := hide (below_on B4.out b5)
                have BW5 := hide (below_on BW4.out b5)
                clear y0 y1 x3 J3 b5
                obtain ⟨-, -, -, -, x4, -⟩ := row9 (K4.out w5 B5.out)
                go_wp2_with fail
                refine (JF.out _ _ _).mono ?_
                rintro e w6 ⟨v6, rfl, f6, b6⟩
                have F6 := hide (f6.mono BW5.out.size)
                have B6 := hide (below_on BW5.out b6)
                clear f6 b6 x4
                go_wp2_with fail
                go_ret
                first | exact ⟨_, _, rfl, HO.out, F6.out, B6.out⟩ | exact ⟨_, rfl, _, HO.out, F6.out, B6.out⟩
        · have t2 : ¬ (a : Int) < (nc : Int) := by omega
          have HN : Hid (∀ j, j < i + 1 → ¬ RBad nf ks (rosOf p) j) := fun j hj hb => by
            by_cases e : j = i
            · subst e
              obtain ⟨h1, m, hm, hm2⟩ := hb
              rw [HAT.out] at hm hm2
              exact HNA.out m (by have := HNC.out; dsimp only at hm; omega) hm2
            · exact HNO.out j (by omega) hb
          have BV := hide (below_on BW1.out HBA.out)
          clear HNA HNO
          go_wp2_with fail
          go_roundw
          case rel => exact ⟨i + 1, by omega, rfl, HN, BV⟩
          case measure => simp only [intOf]; omega
    · have t1 : ¬ (i : Int) < (nL : Int) := by omega
      have HO : Hid (TcO nf ks (rosOf p) none) := .inl ⟨rfl, fun n hn => HNO.out n (by have := HNL.out.2; omega)⟩
      clear HNO
      go_wp2_with fail
      go_ret
      first | exact ⟨_, _, rfl, HO.out, FltN.none, HB.out⟩ | exact ⟨_, rfl, _, HO.out, FltN.none, HB.out⟩
end Go.Proofs.YtfkhhplcogedmaaGreatDoor

/-
  Verify: whether texts are words (as proved for World).
-/
namespace Go.Proofs.YtfkhhplcogedmaaGreatDoor
open Go.RowKit
set_option maxRecDepth 100000
theorem text_inj {a b : ByteArray} (h : a.data.toList = b.data.toList) : a = b := by
  cases a
  cases b
  simp only [ByteArray.mk.injEq]
  exact Array.toList_inj.1 h
set_option maxHeartbeats 2000000 in
theorem index_any {w : World} {v : Value} {l : List ByteArray} (h : Sr w v l) (x : ByteArray) : Calls Tryz.prog 106 #[v, .string x] w fun e w' => (∃ i : Int, e = .returned (.int .i64 i) ∧ (0 ≤ i ↔ x ∈ l)) ∧ w' = w := by
  obtain ⟨ao, c, rfl, h1, h2, h3⟩ := h
  have hbig : c ≤ 9223372036854775807 := by unfold maxLen at h2; omega
  have H3 := hide h3
  clear h3 h2
  go_enter Tryz.func106, Tryz.ntmps106
  go_wp2_with fail
  go_loopw [8] (fun v8 W => ∃ i : Nat, i ≤ l.length ∧ v8 = .int .i64 (i : Int) ∧ Hid (x ∉ l.take i) ∧ Hid (W = w)) (fun v8 _ => l.length - (intOf v8).toNat)
  case atStart => exact ⟨0, Nat.zero_le _, rfl, by simp [Hid], rfl⟩
  case round =>
    obtain ⟨i, hil, rfl, HN, HW⟩ := hrel
    by_cases hlt : i < l.length
    · have t1 : (i : Int) < (l.length : Int) := by omega
      obtain ⟨g, o, rfl, e1⟩ := H3.out i hlt
      rw [← HW.out] at e1
      have hm1 : Hid (x ∉ l.take (i + 1) ↔ ¬ x = l[i]) := by
        unfold Hid
        rw [List.take_succ_eq_append_getElem hlt, List.mem_append, List.mem_singleton]
        have := HN.out
        constructor
        · intro h e; exact h (.inr e)
        · intro h e
          rcases e with e | e
          · exact this e
          · exact h e
      have hm2 : Hid (x = l[i] → x ∈ l) := fun e => e ▸ List.getElem_mem hlt
      generalize l[i] = y at *
      by_cases hxy : x = y
      · have HIN := hide (hm2.out hxy)
        subst hxy
        clear hm2 hm1
        go_wp2_with fail
        go_ret
        exact ⟨⟨_, rfl, ⟨fun _ => HIN.out, fun _ => by omega⟩⟩, HW.out⟩
      · have HNN := hide (hm1.out.2 hxy)
        have hb : (x.toList == y.toList) = false := by
          rw [beq_eq_false_iff_ne]
          intro e
          rw [ByteArray.toList_eq, ByteArray.toList_eq] at e
          exact hxy (text_inj e)
        clear hm1 hm2
        go_wp2_with fail
        refine ⟨⟨i + 1, by omega, by go_num, HNN, HW⟩, ?_⟩
        simp [intOf]
        omega
    · obtain rfl : i = l.length := by omega
      have t1 : ¬ (l.length : Int) < (l.length : Int) := by omega
      have hn := HN.out
      rw [List.take_length] at hn
      have HN2 := hide hn
      clear hn HN
      go_wp2_with fail
      go_ret
      exact ⟨⟨_, rfl, ⟨fun e => by omega, fun e => absurd e HN2.out⟩⟩, HW.out⟩
set_option maxHeartbeats 1000000 in
theorem contains_any {w : World} {v : Value} {l : List ByteArray} (h : Sr w v l) (x : ByteArray) [Decidable (x ∈ l)] : Calls Tryz.prog 88 #[v, .string x] w fun e w' => e = .returned (.bool (decide (x ∈ l))) ∧ w' = w := by
  have J := hide (index_any h x)
  obtain ⟨ao, c, rfl, -⟩ := h
  by_cases h0 : x ∈ l
  · rw [decide_eq_true h0]
    have J2 : Hid (Calls Tryz.prog 106 #[.slice ao l.length c, .string x] w fun e w' => (∃ i : Int, e = .returned (.int .i64 i) ∧ i ≥ 0) ∧ w' = w) := J.out.mono (fun _e _w' ⟨⟨i, e1, e2⟩, e3⟩ => ⟨⟨i, e1, e2.2 h0⟩, e3⟩)
    clear J h0
    go_enter Tryz.func88, Tryz.ntmps88
    go_wp2_with fail
    refine J2.out.mono ?_
    rintro e w' ⟨⟨i, rfl, t1⟩, rfl⟩
    go_wp2_with fail
    go_ret
    exact ⟨rfl, rfl⟩
  · rw [decide_eq_false h0]
    have J2 : Hid (Calls Tryz.prog 106 #[.slice ao l.length c, .string x] w fun e w' => (∃ i : Int, e = .returned (.int .i64 i) ∧ ¬ 0 ≤ i) ∧ w' = w) := J.out.mono (fun _e _w' ⟨⟨i, e1, e2⟩, e3⟩ => ⟨⟨i, e1, fun e => h0 (e2.1 e)⟩, e3⟩)
    clear J h0
    go_enter Tryz.func88, Tryz.ntmps88
    go_wp2_with fail
    refine J2.out.mono ?_
    rintro e w' ⟨⟨i, rfl, t1⟩, rfl⟩
    have t2 : decide (0 ≤ i) = false := decide_eq_false (by omega)
    go_wp2_with fail
    go_ret
    refine ⟨?_, rfl⟩
    simp
def isL (c : Int) : Bool := decide (65 ≤ c ∧ c ≤ 90 ∨ 97 ≤ c ∧ c ≤ 122)
def isD (c : Int) : Bool := decide (48 ≤ c ∧ c ≤ 57)
set_option maxHeartbeats 2000000 in
theorem letter_any (c : Int) (w : World) : Calls Tryz.prog 104 #[.int .u8 c] w fun e w' => e = .returned (.bool (isL c)) ∧ w' = w := by
  by_cases h1 : c ≥ 65
  · by_cases h2 : c ≤ 90
    · have e : isL c = true := decide_eq_true (.inl ⟨h1, h2⟩)
      rw [e]
      go_enter Tryz.func104, Tryz.ntmps104
      go_wp2_with fail
      go_ret
      exact ⟨rfl, rfl⟩
    · by_cases h3 : c ≥ 97
      · by_cases h4 : c ≤ 122
        · have e : isL c = true := decide_eq_true (.inr ⟨h3, h4⟩)
          rw [e]
          go_enter Tryz.func104, Tryz.ntmps104
          go_wp2_with fail
          go_ret
          exact ⟨rfl, rfl⟩
        · have e : isL c = false := decide_eq_false (by omega)
          rw [e]
          go_enter Tryz.func104, Tryz.ntmps104
          go_wp2_with fail
          go_ret
          exact ⟨rfl, rfl⟩
      · have e : isL c = false := decide_eq_false (by omega)
        rw [e]
        go_enter Tryz.func104, Tryz.ntmps104
        go_wp2_with fail
        go_ret
        exact ⟨rfl, rfl⟩
  · have e : isL c = false := decide_eq_false (by omega)
    have h3 : ¬ c ≥ 97 := by omega
    rw [e]
    go_enter Tryz.func104, Tryz.ntmps104
    go_wp2_with fail
    go_ret
    exact ⟨rfl, rfl⟩
set_option maxHeartbeats 2000000 in
theorem digit_any (c : Int) (w : World) : Calls Tryz.prog 105 #[.int .u8 c] w fun e w' => e = .returned (.bool (isD c)) ∧ w' = w := by
  by_cases h1 : c ≥ 48
  · by_cases h2 : c ≤ 57
    · have e : isD c = true := decide_eq_true ⟨h1, h2⟩
      rw [e]
      go_enter Tryz.func105, Tryz.ntmps105
      go_wp2_with fail
      go_ret
      exact ⟨rfl, rfl⟩
    · have e : isD c = false := decide_eq_false (by omega)
      rw [e]
      go_enter Tryz.func105, Tryz.ntmps105
      go_wp2_with fail
      go_ret
      exact ⟨rfl, rfl⟩
  · have e : isD c = false := decide_eq_false (by omega)
    rw [e]
    go_enter Tryz.func105, Tryz.ntmps105
    go_wp2_with fail
    go_ret
    exact ⟨rfl, rfl⟩
def okB (c : Int) : Bool := isL c || isD c || decide (c = 95)
def isW (x : ByteArray) : Prop := ∃ h : 0 < x.size, x.size ≤ 16 ∧ isL (x[0].toNat : Int) = true ∧ ∀ i (hi : i < x.size), okB (x[i].toNat : Int) = true
theorem text_empty {x : ByteArray} (h : 0 < x.size) : x.toList.isEmpty = false := by
  rw [ByteArray.toList_eq]
  cases hl : x.data.toList with
  | nil =>
    have : x.data.toList.length = x.size := Array.length_toList
    rw [hl] at this
    simp at this
    omega
  | cons _ _ => rfl
set_option maxHeartbeats 4000000 in
theorem word_any (x : ByteArray) (w : World) : Calls Tryz.prog 87 #[.string x] w fun e w' => (∃ b : Bool, e = .returned (.bool b) ∧ (b = true ↔ isW x)) ∧ w' = w := by
  by_cases h1 : 0 < x.size
  · have he := text_empty h1
    by_cases h16 : x.size ≤ 16
    · have t16 : ¬ (x.size : Int) > 16 := by omega
      have J0 := hide (letter_any (x[0].toNat : Int) w)
      cases hL : isL (x[0].toNat : Int) with
      | false =>
        rw [hL] at J0
        have HN : Hid (¬ isW x) := fun ⟨_, _, h, _⟩ => by rw [hL] at h; cases h
        clear hL
        go_enter Tryz.func87, Tryz.ntmps87
        go_wp2_with fail
        refine J0.out.mono ?_
        rintro e w' ⟨rfl, rfl⟩
        go_wp2_with fail
        go_ret
        exact ⟨⟨_, rfl, ⟨fun e => (by cases e), fun e => absurd e HN.out⟩⟩, rfl⟩
      | true =>
        rw [hL] at J0
        have HL := hide hL
        clear hL
        go_enter Tryz.func87, Tryz.ntmps87
        go_wp2_with fail
        refine J0.out.mono ?_
        rintro e w' ⟨rfl, rfl⟩
        obtain ⟨w, rfl⟩ : ∃ X, X = w' := ⟨_, rfl⟩
        go_wp2_with fail
        go_loopw [20] (fun v20 W => ∃ i : Nat, i ≤ x.size ∧ v20 = .int .i64 (i : Int) ∧ Hid (∀ j (hj : j < x.size), j < i → okB (x[j].toNat : Int) = true) ∧ Hid (W = w)) (fun v20 _ => x.size - (intOf v20).toNat)
        case atStart => exact ⟨0, Nat.zero_le _, rfl, fun j hj h => absurd h (by omega), rfl⟩
        case round =>
          obtain ⟨i, hil, rfl, HA, HW⟩ := hrel
          by_cases hlt : i < x.size
          · have t1 : (i : Int) < (x.size : Int) := by omega
            have J1 : Hid (∀ W, Calls Tryz.prog 104 #[.int .u8 (x[i].toNat : Int)] W fun e w' => e = .returned (.bool (isL (x[i].toNat : Int))) ∧ w' = W) := fun W => letter_any _ W
            have J2 : Hid (∀ W, Calls Tryz.prog 105 #[.int .u8 (x[i].toNat : Int)] W fun e w' => e = .returned (.bool (isD (x[i].toNat : Int))) ∧ w' = W) := fun W => digit_any _ W
            have HOK : Hid (okB (x[i].toNat : Int) = true → Hid (∀ j (hj : j < x.size), j < i + 1 → okB (x[j].toNat : Int) = true)) := fun h j hj hji => by
              by_cases e : j = i
              · subst e; exact h
              · exact HA.out j hj (by omega)
            have HNO : Hid (okB (x[i].toNat : Int) = false → ¬ isW x) := fun h ⟨_, _, _, h4⟩ => by
              have := h4 i hlt
              rw [h] at this
              cases this
            go_upto_region 7 with fail
            generalize (x[i].toNat : Int) = c at *
            cases hl : isL c with
            | true =>
              have HA2 := hide (HOK.out (by unfold okB; rw [hl]; rfl))
              clear HOK HNO
              simp only [hl] at J1
              clear J2 hl
              go_wp2_with fail
              refine (J1.out _).mono ?_
              rintro e w' ⟨rfl, rfl⟩
              go_wp2_with fail
              go_roundw
              case rel => exact ⟨i + 1, by omega, by go_num, HA2.out, HW⟩
              case measure => simp [intOf]; omega
            | false =>
              simp only [hl] at J1
              cases hd : isD c with
              | true =>
                have HA2 := hide (HOK.out (by unfold okB; rw [hl, hd]; rfl))
                clear HOK HNO
                simp only [hd] at J2
                clear hl hd
                go_wp2_with fail
                refine (J1.out _).mono ?_
                rintro e w' ⟨rfl, rfl⟩
                go_wp2_with fail
                refine (J2.out _).mono ?_
                rintro e w' ⟨rfl, rfl⟩
                go_wp2_with fail
                go_roundw
                case rel => exact ⟨i + 1, by omega, by go_num, HA2.out, HW⟩
                case measure => simp [intOf]; omega
              | false =>
                simp only [hd] at J2
                by_cases h95 : c = 95
                · have HA2 := hide (HOK.out (by unfold okB; rw [hl, hd, h95]; rfl))
                  subst h95
                  clear HOK HNO hl hd
                  go_wp2_with fail
                  refine (J1.out _).mono ?_
                  rintro e w' ⟨rfl, rfl⟩
                  go_wp2_with fail
                  refine (J2.out _).mono ?_
                  rintro e w' ⟨rfl, rfl⟩
                  go_wp2_with fail
                  go_roundw
                  case rel => exact ⟨i + 1, by omega, by go_num, HA2.out, HW⟩
                  case measure => simp [intOf]; omega
                · have HN := hide (HNO.out (by unfold okB; rw [hl, hd, decide_eq_false h95]; rfl))
                  have hb : (c != 95) = true := by rw [bne_iff_ne]; exact h95
                  have hb2 : (c == 95) = false := by rw [beq_eq_false_iff_ne]; exact h95
                  clear HOK HNO hl hd
                  go_wp2_with fail
                  refine (J1.out _).mono ?_
                  rintro e w' ⟨rfl, rfl⟩
                  go_wp2_with fail
                  refine (J2.out _).mono ?_
                  rintro e w' ⟨rfl, rfl⟩
                  go_wp2_with fail
                  go_ret
                  exact ⟨⟨_, rfl, ⟨fun e => (by cases e), fun e => absurd e HN.out⟩⟩, HW.out⟩
          · obtain rfl : i = x.size := by omega
            have t1 : ¬ (x.size : Int) < (x.size : Int) := by omega
            have HY : Hid (isW x) := ⟨h1, h16, HL.out, fun j hj => HA.out j hj hj⟩
            clear HA HL
            go_wp2_with fail
            go_ret
            first | exact ⟨.inr ⟨rfl, HY.out⟩, HW.out⟩ | exact ⟨⟨_, rfl, ⟨fun _ => HY.out, fun _ => rfl⟩⟩, HW.out⟩
    · have t16 : (x.size : Int) > 16 := by omega
      have HN : Hid (¬ isW x) := fun ⟨_, h, _⟩ => h16 h
      clear h16
      go_enter Tryz.func87, Tryz.ntmps87
      go_wp2_with fail
      go_ret
      exact ⟨⟨_, rfl, ⟨fun e => (by cases e), fun e => absurd e HN.out⟩⟩, rfl⟩
  · have he : x.toList.isEmpty = true := by
      rw [ByteArray.toList_eq]
      have : x.data.toList.length = x.size := Array.length_toList
      cases hl : x.data.toList with
      | nil => rfl
      | cons _ _ => rw [hl] at this; simp at this; omega
    have HN : Hid (¬ isW x) := fun ⟨h, _⟩ => h1 h
    clear h1
    go_enter Tryz.func87, Tryz.ntmps87
    go_wp2_with fail
    go_ret
    exact ⟨⟨_, rfl, ⟨fun e => (by cases e), fun e => absurd e HN.out⟩⟩, rfl⟩
def areW (l : List ByteArray) : Prop := (∀ x ∈ l, isW x) ∧ l.Nodup
theorem areW_push (l : List ByteArray) (i : Nat) (hi : i < l.length) : areW (l.take (i + 1)) ↔ areW (l.take i) ∧ isW l[i] ∧ l[i] ∉ l.take i := by
  unfold areW
  rw [List.take_succ_eq_append_getElem hi, List.nodup_append]
  simp only [List.mem_append, List.mem_singleton]
  constructor
  · rintro ⟨h1, h2, -, h4⟩
    exact ⟨⟨fun x hx => h1 x (.inl hx), h2⟩, h1 _ (.inr rfl), fun e => h4 _ e _ rfl rfl⟩
  · rintro ⟨⟨h1, h2⟩, h3, h4⟩
    refine ⟨fun x hx => ?_, h2, by simp, fun a ha b hb e => h4 (by rw [← hb, ← e]; exact ha)⟩
    rcases hx with hx | rfl
    · exact h1 x hx
    · exact h3
theorem areW_take (l : List ByteArray) (i : Nat) (h : areW l) : areW (l.take i) := ⟨fun x hx => h.1 x (List.mem_of_mem_take hx), h.2.sublist (List.take_sublist _ _)⟩
set_option maxHeartbeats 4000000 in
theorem arewords_any {w : World} {v : Value} {l : List ByteArray} (h : Sr w v l) : Calls Tryz.prog 64 #[v] w fun e w' => (∃ b : Bool, e = .returned (.bool b) ∧ (b = true ↔ areW l)) ∧ w' = w := by
  obtain ⟨ao, c, rfl, h1, h2, h3⟩ := h
  have hbig : c ≤ 9223372036854775807 := by unfold maxLen at h2; omega
  have H2 := hide h2
  have H3 := hide h3
  clear h3 h2
  go_enter Tryz.func64, Tryz.ntmps64
  go_wp2_with fail
  go_loopw [7] (fun v7 W => ∃ i : Nat, i ≤ l.length ∧ v7 = .int .i64 (i : Int) ∧ Hid (areW (l.take i)) ∧ Hid (W = w)) (fun v7 _ => l.length - (intOf v7).toNat)
  case atStart => exact ⟨0, Nat.zero_le _, rfl, ⟨fun x hx => by simp at hx, by simp⟩, rfl⟩
  case round =>
    obtain ⟨i, hil, rfl, HA, HW⟩ := hrel
    by_cases hlt : i < l.length
    · have t1 : (i : Int) < (l.length : Int) := by omega
      obtain ⟨g, o, rfl, e1⟩ := H3.out i hlt
      rw [← HW.out] at e1
      have hS : Sr wr (.slice (some ⟨g, o, none⟩) i c) (l.take i) := by
        have hl : (l.take i).length = i := by rw [List.length_take]; omega
        refine ⟨some ⟨g, o, none⟩, c, by rw [hl], by omega, H2.out, fun j hj => ⟨g, o, rfl, ?_⟩⟩
        obtain ⟨g', o', e', z⟩ := H3.out j (by omega)
        simp only [Option.some.injEq, Addr.mk.injEq, and_true] at e'
        obtain ⟨rfl, rfl⟩ := e'
        rw [List.getElem_take, HW.out]
        exact z
      have hp := areW_push l i hlt
      have hno : ¬ areW (l.take (i + 1)) → ¬ areW l := fun h e => h (areW_take l _ e)
      have HP := hide hp
      have HNO := hide hno
      letI : Decidable (l[i] ∈ l.take i) := Classical.propDecidable _
      have JC := hide (contains_any hS l[i])
      have JC1 : Hid (l[i] ∈ l.take i → Calls Tryz.prog 88 #[.slice (some ⟨g, o, none⟩) i c, .string l[i]] wr fun e w' => e = .returned (.bool true) ∧ w' = wr) := fun hm => by
        have := JC.out
        rw [decide_eq_true hm] at this
        exact this
      have JC0 : Hid (l[i] ∉ l.take i → Calls Tryz.prog 88 #[.slice (some ⟨g, o, none⟩) i c, .string l[i]] wr fun e w' => e = .returned (.bool false) ∧ w' = wr) := fun hm => by
        have := JC.out
        rw [decide_eq_false hm] at this
        exact this
      have JW := hide (word_any l[i] wr)
      have tm : (i : Int) ≤ (l.length : Int) := by omega
      have tm2 : (i : Int) ≤ (c : Int) := by omega
      clear JC
      clear hS hp hno
      generalize l[i] = x at *
      by_cases hw : isW x
      · have JW1 : Hid (Calls Tryz.prog 87 #[.string x] wr fun e w' => e = .returned (.bool true) ∧ w' = wr) := JW.out.mono (fun _e _w' ⟨⟨b, k1, k2⟩, k3⟩ => ⟨by rw [k1, k2.2 hw], k3⟩)
        by_cases hm : x ∈ l.take i
        · have JC := hide (JC1.out hm)
          clear JC1 JC0
          have HN := hide (HNO.out (fun e => (HP.out.1 e).2.2 hm))
          clear JW hw hm HP HNO
          go_wp2_with fail
          refine JW1.out.mono ?_
          rintro e w' ⟨rfl, rfl⟩
          go_wp2_with fail
          refine JC.out.mono ?_
          rintro e w' ⟨rfl, rfl⟩
          go_wp2_with fail
          go_ret
          exact ⟨⟨_, rfl, ⟨fun e => (by cases e), fun e => absurd e HN.out⟩⟩, HW.out⟩
        · have JC := hide (JC0.out hm)
          clear JC1 JC0
          have HN := hide (HP.out.2 ⟨HA.out, hw, hm⟩)
          clear JW hw hm HP HNO
          go_wp2_with fail
          refine JW1.out.mono ?_
          rintro e w' ⟨rfl, rfl⟩
          go_wp2_with fail
          refine JC.out.mono ?_
          rintro e w' ⟨rfl, rfl⟩
          go_wp2_with fail
          go_roundw
          case rel => exact ⟨i + 1, by omega, by go_num, HN, HW⟩
          case measure => simp [intOf]; omega
      · have JW1 : Hid (Calls Tryz.prog 87 #[.string x] wr fun e w' => e = .returned (.bool false) ∧ w' = wr) := JW.out.mono (fun _e _w' ⟨⟨b, k1, k2⟩, k3⟩ => ⟨by rw [k1]; cases b with
          | true => exact absurd (k2.1 rfl) hw
          | false => rfl, k3⟩)
        have HN := hide (HNO.out (fun e => hw (HP.out.1 e).2.1))
        clear JW hw HP HNO JC1 JC0
        go_wp2_with fail
        refine JW1.out.mono ?_
        rintro e w' ⟨rfl, rfl⟩
        go_wp2_with fail
        go_ret
        exact ⟨⟨_, rfl, ⟨fun e => (by cases e), fun e => absurd e HN.out⟩⟩, HW.out⟩
    · obtain rfl : i = l.length := by omega
      have t1 : ¬ (l.length : Int) < (l.length : Int) := by omega
      have hy := HA.out
      rw [List.take_length] at hy
      have HY := hide hy
      clear HA hy
      go_wp2_with fail
      go_ret
      first | exact ⟨.inr ⟨rfl, HY.out⟩, HW.out⟩ | exact ⟨⟨_, rfl, ⟨fun _ => HY.out, fun _ => rfl⟩⟩, HW.out⟩
end Go.Proofs.YtfkhhplcogedmaaGreatDoor
