/-
  Verify: mayTouchEntity.
-/
import Derived.Test.YtfkhhplcogedmaaGreatDoorMgJ
namespace Go.Proofs.YtfkhhplcogedmaaGreatDoor
open Go.RowKit
set_option maxRecDepth 100000
theorem tdiv_b {a : Int} (h : I6 a) : I6 (a.tdiv 8) := by
  unfold I6 at *
  by_cases h0 : 0 ≤ a
  · rw [Int.tdiv_eq_ediv_of_nonneg h0]
    omega
  · have e : a = -(-a) := by omega
    rw [e, Int.neg_tdiv, Int.tdiv_eq_ediv_of_nonneg (by omega)]
    omega
theorem tmod_b {a : Int} : -8 < a.tmod 8 ∧ a.tmod 8 < 8 := by
  by_cases h0 : 0 ≤ a
  · rw [Int.tmod_eq_emod_of_nonneg h0]
    omega
  · have e : a = -(-a) := by omega
    rw [e, Int.neg_tmod, Int.tmod_eq_emod_of_nonneg (by omega)]
    omega
def fdI (ks : List Kind) (k : Int) : Int := (fdN ks k.toNat : Int)
def isK (ks : List Kind) (k : Int) : Bool := decide (1 ≤ k ∧ k ≤ (ks.length : Int))
/-- What only a system may do. -/
def mtE (ks : List Kind) (re wr : List Int) (c : List Ins) (p : Nat) : Bool :=
  if (iat c p).op = 5 then decide ((iat c p).a.tdiv 8 ∈ wr) && decide ((iat c p).a.tmod 8 < fdI ks ((iat c p).a.tdiv 8))
  else if (iat c p).op = 4 then (decide ((iat c p).a.tdiv 8 ∈ re) || decide ((iat c p).a.tdiv 8 ∈ wr)) && decide ((iat c p).a.tmod 8 < fdI ks ((iat c p).a.tdiv 8))
  else if (iat c p).op = 26 then inrI c p && (isK ks ((iat c p).a.tdiv 8) && decide ((iat c p).a.tmod 8 = fdI ks ((iat c p).a.tdiv 8)))
  else if (iat c p).op = 28 then isK ks ((iat c p).a.tdiv 8) && decide ((iat c p).a.tmod 8 = fdI ks ((iat c p).a.tdiv 8))
  else if (iat c p).op = 29 ∨ (iat c p).op = 35 then isK ks (iat c p).a
  else true
/-- A routine as a value. -/
def rvV (x : Rv) : Value := .agg #[.string x.ro.rt.name, .int .i64 x.ro.rt.pa, .int .i64 x.ro.rt.lo, x.vc, .int .i64 (x.ro.pl : Int), .bool x.ro.sy, x.vr, x.vw, x.vd]
theorem row9 {w : World} {B : Nat} {x1 x2 x3 x4 x5 x6 x7 x8 x9 : Value} (h : w.heap[B]? = some (.cells #[x1, x2, x3, x4, x5, x6, x7, x8, x9] 109 (0, 0))) : w.cell? ⟨B, 0, none⟩ = some x1 ∧ w.cell? ⟨B, 1, none⟩ = some x2 ∧ w.cell? ⟨B, 2, none⟩ = some x3 ∧ w.cell? ⟨B, 3, none⟩ = some x4 ∧ w.cell? ⟨B, 4, none⟩ = some x5 ∧ w.cell? ⟨B, 5, none⟩ = some x6 ∧ w.cell? ⟨B, 6, none⟩ = some x7 ∧ w.cell? ⟨B, 7, none⟩ = some x8 ∧ w.cell? ⟨B, 8, none⟩ = some x9 := by
  refine ⟨?_, ?_, ?_, ?_, ?_, ?_, ?_, ?_, ?_⟩ <;> rw [cell_of_row w _ _ _ 109 (0, 0) h] <;> rfl
theorem row2 {w : World} {B : Nat} {x1 x2 : Value} (h : w.heap[B]? = some (.cells #[x1, x2] 28 (0, 0))) : w.cell? ⟨B, 0, none⟩ = some x1 ∧ w.cell? ⟨B, 1, none⟩ = some x2 := by
  refine ⟨?_, ?_⟩ <;> rw [cell_of_row w _ _ _ 28 (0, 0) h] <;> rfl
set_option maxHeartbeats 8000000 in
theorem maytouche_any {Q : Nat → Prop} {W : World} {B gv : Nat} {vs vf vk vr : Value} {p : Pg} {ks : List Kind} {L : List Rv} (h : Pm Q W B gv vs vf vk vr p ks L) (x : Rv) (hx : RvOk Q W x) (hk : ∀ k, k ∈ x.ro.re ∨ k ∈ x.ro.wr → 1 ≤ k ∧ k ≤ (ks.length : Int)) (a : Nat) (ha : a < x.ro.rt.code.length) : Calls Tryz.prog 76 #[.pointer (some ⟨gv, 0, none⟩), rvV x, .int .i64 (a : Int)] W fun e w' => e = .returned (.bool (mtE ks x.ro.re x.ro.wr x.ro.rt.code a)) ∧ Below W.heap.size W w' := by
  obtain ⟨ro, vc, vr', vw, vd⟩ := x
  obtain ⟨rt, pl, sy, re, wrt⟩ := ro
  obtain ⟨nm, pa, lo, code⟩ := rt
  dsimp only [rvV] at hx hk ha ⊢
  have JR : Hid (∀ V, Below W.heap.size W V → Calls Tryz.prog 93 #[vr', .int .i64 ((iat code a).a.tdiv 8)] V fun e w' => e = .returned (.bool (decide ((iat code a).a.tdiv 8 ∈ re))) ∧ Below V.heap.size V w') := fun V hV => has_any (hx.re.later hV) _
  have JW : Hid (∀ V, Below W.heap.size W V → Calls Tryz.prog 93 #[vw, .int .i64 ((iat code a).a.tdiv 8)] V fun e w' => e = .returned (.bool (decide ((iat code a).a.tdiv 8 ∈ wrt))) ∧ Below V.heap.size V w') := fun V hV => has_any (hx.wr.later hV) _
  have JK : Hid (∀ V y, Below W.heap.size W V → Calls Tryz.prog 96 #[.pointer (some ⟨gv, 0, none⟩), .int .i64 y] V fun e w' => e = .returned (.bool (isK ks y)) ∧ w' = V) := fun V y hV => iskind2_any (h.later hV) y
  have JF : Hid (∀ V y, Below W.heap.size W V → 1 ≤ y ∧ y ≤ (ks.length : Int) → Calls Tryz.prog 94 #[.pointer (some ⟨gv, 0, none⟩), .int .i64 y] V fun e w' => e = .returned (.int .i64 (fdI ks y)) ∧ w' = V) := fun V y hV hy => by
    have := fields2_any (h.later hV) y.toNat (by omega) (by omega)
    rw [Int.toNat_of_nonneg (by omega)] at this
    exact this
  have JI : Hid (∀ V, Below W.heap.size W V → Calls Tryz.prog 95 #[vc, .int .i64 (a : Int)] V fun e w' => e = .returned (.bool (inrI code a)) ∧ Below V.heap.size V w') := fun V hV => isinrow_any (hx.co.later hV) a ha
  have HK : Hid (∀ k, k ∈ re ∨ k ∈ wrt → 1 ≤ k ∧ k ≤ (ks.length : Int)) := hk
  have hco : Il Q W vc code := hx.co
  have hre : Nl Q W vr' re := hx.re
  have hwr : Nl Q W vw wrt := hx.wr
  have hvd0 : ∃ a n c, vd = .slice a n c := hx.vd
  clear hx
  obtain ⟨ao, co, rfl, h1, h2⟩ := hco.at
  obtain ⟨g, o, rfl, -, d1, d2, -, i6⟩ := hco.nth ha
  obtain ⟨ar, cr, hvr, -, -⟩ := hre.at
  obtain ⟨aw, cw, hvw, -, -⟩ := hwr.at
  obtain ⟨ad, nd, cd, hvd⟩ := hvd0
  subst hvr hvw hvd
  rw [← iat_eq ha] at d1 d2 i6
  have HM : Hid (mtE ks re wrt code a = if (iat code a).op = 5 then decide ((iat code a).a.tdiv 8 ∈ wrt) && decide ((iat code a).a.tmod 8 < fdI ks ((iat code a).a.tdiv 8)) else if (iat code a).op = 4 then (decide ((iat code a).a.tdiv 8 ∈ re) || decide ((iat code a).a.tdiv 8 ∈ wrt)) && decide ((iat code a).a.tmod 8 < fdI ks ((iat code a).a.tdiv 8)) else if (iat code a).op = 26 then inrI code a && (isK ks ((iat code a).a.tdiv 8) && decide ((iat code a).a.tmod 8 = fdI ks ((iat code a).a.tdiv 8))) else if (iat code a).op = 28 then isK ks ((iat code a).a.tdiv 8) && decide ((iat code a).a.tmod 8 = fdI ks ((iat code a).a.tdiv 8)) else if (iat code a).op = 29 ∨ (iat code a).op = 35 then isK ks (iat code a).a else true) := rfl
  obtain ⟨op, hop⟩ : ∃ y, y = (iat code a).op := ⟨_, rfl⟩
  obtain ⟨av, hav⟩ : ∃ y, y = (iat code a).a := ⟨_, rfl⟩
  rw [← hop] at d1
  rw [← hav] at d2 JR JW i6
  simp only [← hop, ← hav] at HM
  obtain ⟨hi1, hi2⟩ := i6
  have t1 : IntKind.i64.wrap (av.tdiv 8) = av.tdiv 8 := by have := tdiv_b (a := av) ⟨hi1, hi2⟩; unfold I6 at this; rw [IntKind.wrap_i64]; omega
  have t2 : IntKind.i64.wrap (av.tmod 8) = av.tmod 8 := by have := tmod_b (a := av); rw [IntKind.wrap_i64]; omega
  obtain ⟨kq, hkq⟩ : ∃ y, y = av.tdiv 8 := ⟨_, rfl⟩
  obtain ⟨cq, hcq⟩ : ∃ y, y = av.tmod 8 := ⟨_, rfl⟩
  have HQ : Hid (av.tdiv 8 = kq ∧ av.tmod 8 = cq) := ⟨hkq.symm, hcq.symm⟩
  rw [← hkq] at t1 HM JR JW
  rw [← hcq] at t2 HM
  obtain ⟨bm, hbm⟩ : ∃ y, y = mtE ks re wrt code a := ⟨_, rfl⟩
  rw [← hbm] at HM ⊢
  obtain ⟨nc, hnc⟩ : ∃ y, y = code.length := ⟨_, rfl⟩
  have HNC := hide hnc
  rw [← hnc] at h1 ha JI ⊢
  have tp : (a : Int) < (nc : Int) := by omega
  clear h hk hop hav hbm hnc hco hre hwr
  obtain ⟨W1, hW1⟩ : ∃ X, X = W.alloc (.cells #[.string nm, .int .i64 pa, .int .i64 lo, .slice (some ⟨g, o, none⟩) nc co, .int .i64 (pl : Int), .bool sy, .slice ar re.length cr, .slice aw wrt.length cw, .slice ad nd cd] 109) := ⟨_, rfl⟩
  have b1 : Below W.heap.size W W1 := hW1 ▸ below_alloc W _
  obtain ⟨gb, hgb⟩ : ∃ y, y = W.heap.size := ⟨_, rfl⟩
  have kb : W1.heap[gb]? = some (.cells #[.string nm, .int .i64 pa, .int .i64 lo, .slice (some ⟨g, o, none⟩) nc co, .int .i64 (pl : Int), .bool sy, .slice ar re.length cr, .slice aw wrt.length cw, .slice ad nd cd] 109 (0, 0)) := by rw [hW1, hgb]; exact heap_alloc_new W _
  have hM := Mv.of_below b1 (fun _ => False)
  have e1 := hM.cell d1 id
  have e2 := hM.cell d2 id
  obtain ⟨W2, hW2⟩ : ∃ X, X = W1.alloc (.cells #[.int .i64 op, .int .i64 av] 28) := ⟨_, rfl⟩
  have b2 : Below W1.heap.size W1 W2 := hW2 ▸ below_alloc W1 _
  obtain ⟨gi, hgi⟩ : ∃ y, y = W1.heap.size := ⟨_, rfl⟩
  have ki : W2.heap[gi]? = some (.cells #[.int .i64 op, .int .i64 av] 28 (0, 0)) := by rw [hW2, hgi]; exact heap_alloc_new W1 _
  have x3 := (row9 kb).2.2.2.1
  have B2 := hide (below_on b1 b2)
  have HC : Hid (∀ V, Below W2.heap.size W2 V → (V.cell? ⟨gi, 0, none⟩ = some (.int .i64 op) ∧ V.cell? ⟨gi, 1, none⟩ = some (.int .i64 av)) ∧ V.cell? ⟨gb, 3, none⟩ = some (.slice (some ⟨g, o, none⟩) nc co) ∧ V.cell? ⟨gb, 6, none⟩ = some (.slice ar re.length cr) ∧ V.cell? ⟨gb, 7, none⟩ = some (.slice aw wrt.length cw)) := fun V hV => by
    have y1 := (hV.block gi (lt_of_block ki)).trans ki
    have y2 := (below_on b2 hV).block gb (lt_of_block kb)
    have y3 := row9 (y2.trans kb)
    exact ⟨row2 y1, y3.2.2.2.1, y3.2.2.2.2.2.2.1, y3.2.2.2.2.2.2.2.1⟩
  go_enter Tryz.func76, Tryz.ntmps76
  go_upto_region 1 with fail
  rw [← hW1, ← hgb]
  clear hW1 hgb b1 hM d1 d2
  go_upto_region 2 with fail
  rw [← hW2, ← hgi]
  clear hW2 hgi b2 e1 e2 x3 kb ki
  have S0 := hide (HC.out W2.drew (below_drew W2))
  go_region_held3 (fun V => (V.cell? ⟨gi, 0, none⟩ = some (.int .i64 op) ∧ V.cell? ⟨gi, 1, none⟩ = some (.int .i64 av)) ∧ V.cell? ⟨gb, 3, none⟩ = some (.slice (some ⟨g, o, none⟩) nc co) ∧ V.cell? ⟨gb, 6, none⟩ = some (.slice ar re.length cr) ∧ V.cell? ⟨gb, 7, none⟩ = some (.slice aw wrt.length cw)) (exact S0.out) (fail)
  rw [HQ.out.1, HQ.out.2, t1]
  clear S0
  obtain ⟨V0, hV0⟩ : ∃ X, X = W2.drew := ⟨_, rfl⟩
  have BV0 : Hid (Below W2.heap.size W2 V0) := by unfold Hid; rw [hV0]; exact below_drew W2
  rw [← hV0] at *
  obtain ⟨fd, hfd⟩ : ∃ y, y = fdI ks kq := ⟨_, rfl⟩
  have JF2 : Hid (∀ V, Below W.heap.size W V → 1 ≤ kq ∧ kq ≤ (ks.length : Int) → Calls Tryz.prog 94 #[.pointer (some ⟨gv, 0, none⟩), .int .i64 kq] V fun e w' => e = .returned (.int .i64 fd) ∧ w' = V) := fun V hV hy => hfd ▸ JF.out V kq hV hy
  have JK2 : Hid (∀ V, Below W.heap.size W V → Calls Tryz.prog 96 #[.pointer (some ⟨gv, 0, none⟩), .int .i64 kq] V fun e w' => e = .returned (.bool (isK ks kq)) ∧ w' = V) := fun V hV => JK.out V kq hV
  rw [← hfd] at HM
  clear hV0 hfd JF hi1 hi2 hkq hcq t1 t2
  by_cases o5 : op = 5
  · subst o5
    have HM5 : Hid (bm = (decide (kq ∈ wrt) && decide (cq < fd))) := HM.out.trans (by rw [if_pos rfl])
    by_cases mw : kq ∈ wrt
    · have J0 := hide (JW.out V0 (below_on B2.out BV0.out))
      rw [decide_eq_true mw] at J0
      obtain ⟨⟨q0z, q1z⟩, q3z, q6z, q7z⟩ := HC.out V0 BV0.out
      have MW0 := hide mw
      clear mw
      go_wp2_with fail
      refine J0.out.mono ?_
      rintro e V1 ⟨rfl, b9⟩
      have BV1 := hide (below_on BV0.out b9)
      have mw := MW0.out
      clear q0z q1z q3z q6z q7z J0 b9
      by_cases m1 : kq ∈ re
      · have HKK := HK.out kq (.inl m1)
        have HBM : Hid (bm = decide (cq < fd)) := HM5.out.trans (by simp [mw])
        obtain ⟨⟨q0a, q1a⟩, q3a, q6a, q7a⟩ := HC.out V1 BV1.out
        have J1 := hide (JR.out V1 (below_on B2.out BV1.out))
        rw [decide_eq_true m1] at J1
        clear m1 HM5 HM
        go_wp2_with fail
        refine J1.out.mono ?_
        rintro e w4 ⟨rfl, b4⟩
        have B4 := hide (below_on BV1.out b4)
        have J2 := hide (JF2.out w4 (below_on B2.out B4.out) HKK)
        clear q0a q1a q3a q6a q7a J1 b4
        go_wp2_with fail
        refine J2.out.mono ?_
        rintro e w5 ⟨rfl, rfl⟩
        clear J2
        by_cases cl : cq < fd
        · have HB : Hid (bm = true) := HBM.out.trans (by simp [cl])
          have fl : decide (cq < fd) = true := decide_eq_true cl
          clear cl
          go_wp2_with fail
          go_ret
          exact ⟨ret_bool HB.out.symm, below_on B2.out B4.out⟩
        · have HB : Hid (bm = false) := HBM.out.trans (by simp [cl])
          have fl : decide (cq < fd) = false := decide_eq_false cl
          clear cl
          go_wp2_with fail
          go_ret
          exact ⟨ret_bool HB.out.symm, below_on B2.out B4.out⟩
      · skip
        have HKK := HK.out kq (.inr mw)
        have HBM : Hid (bm = decide (cq < fd)) := HM5.out.trans (by simp [mw])
        obtain ⟨⟨q0a, q1a⟩, q3a, q6a, q7a⟩ := HC.out V1 BV1.out
        have J1 := hide (JR.out V1 (below_on B2.out BV1.out))
        rw [decide_eq_false m1] at J1
        have MW := hide mw
        clear m1 mw HM5 HM
        go_wp2_with fail
        refine J1.out.mono ?_
        rintro e w4 ⟨rfl, b4⟩
        have B4 := hide (below_on BV1.out b4)
        clear q0a q1a q3a q6a q7a J1 b4
        obtain ⟨⟨q0b, q1b⟩, q3b, q6b, q7b⟩ := HC.out w4 B4.out
        have J3 := hide (JW.out w4 (below_on B2.out B4.out))
        rw [decide_eq_true MW.out] at J3
        go_wp2_with fail
        refine J3.out.mono ?_
        rintro e w6 ⟨rfl, b6⟩
        have B6 := hide (below_on B4.out b6)
        have J2 := hide (JF2.out w6 (below_on B2.out B6.out) HKK)
        clear q0b q1b q3b q6b q7b J3 b6
        go_wp2_with fail
        refine J2.out.mono ?_
        rintro e w5 ⟨rfl, rfl⟩
        clear J2
        by_cases cl : cq < fd
        · have HB : Hid (bm = true) := HBM.out.trans (by simp [cl])
          have fl : decide (cq < fd) = true := decide_eq_true cl
          clear cl
          go_wp2_with fail
          go_ret
          exact ⟨ret_bool HB.out.symm, below_on B2.out B6.out⟩
        · have HB : Hid (bm = false) := HBM.out.trans (by simp [cl])
          have fl : decide (cq < fd) = false := decide_eq_false cl
          clear cl
          go_wp2_with fail
          go_ret
          exact ⟨ret_bool HB.out.symm, below_on B2.out B6.out⟩
    · have J0 := hide (JW.out V0 (below_on B2.out BV0.out))
      rw [decide_eq_false mw] at J0
      have HBM : Hid (bm = false) := HM5.out.trans (by simp [mw])
      obtain ⟨⟨q0z, q1z⟩, q3z, q6z, q7z⟩ := HC.out V0 BV0.out
      clear mw HM5 HM
      go_wp2_with fail
      refine J0.out.mono ?_
      rintro e V1 ⟨rfl, b9⟩
      have BV1 := hide (below_on BV0.out b9)
      clear q0z q1z q3z q6z q7z J0 b9
      go_wp2_with fail
      go_ret
      exact ⟨ret_bool HBM.out.symm, below_on B2.out BV1.out⟩
  · have f5 : (op == 5) = false := beq_eq_false_iff_ne.2 o5
    have HM4 : Hid (bm = _) := HM.out.trans (if_neg o5)
    clear o5 HM
    by_cases o4 : op = 4
    · subst o4
      have HM : Hid (True) := trivial
      have HM5 : Hid (bm = ((decide (kq ∈ re) || decide (kq ∈ wrt)) && decide (cq < fd))) := HM4.out.trans (by rw [if_pos rfl])
      clear HM4
      by_cases m1 : kq ∈ re
      · have HKK := HK.out kq (.inl m1)
        have HBM : Hid (bm = decide (cq < fd)) := HM5.out.trans (by simp [m1])
        obtain ⟨⟨q0a, q1a⟩, q3a, q6a, q7a⟩ := HC.out V0 BV0.out
        have J1 := hide (JR.out V0 (below_on B2.out BV0.out))
        rw [decide_eq_true m1] at J1
        clear m1 HM5 HM
        go_wp2_with fail
        refine J1.out.mono ?_
        rintro e w4 ⟨rfl, b4⟩
        have B4 := hide (below_on BV0.out b4)
        have J2 := hide (JF2.out w4 (below_on B2.out B4.out) HKK)
        clear q0a q1a q3a q6a q7a J1 b4
        go_wp2_with fail
        refine J2.out.mono ?_
        rintro e w5 ⟨rfl, rfl⟩
        clear J2
        by_cases cl : cq < fd
        · have HB : Hid (bm = true) := HBM.out.trans (by simp [cl])
          have fl : decide (cq < fd) = true := decide_eq_true cl
          clear cl
          go_wp2_with fail
          go_ret
          exact ⟨ret_bool HB.out.symm, below_on B2.out B4.out⟩
        · have HB : Hid (bm = false) := HBM.out.trans (by simp [cl])
          have fl : decide (cq < fd) = false := decide_eq_false cl
          clear cl
          go_wp2_with fail
          go_ret
          exact ⟨ret_bool HB.out.symm, below_on B2.out B4.out⟩
      · skip
        by_cases m2 : kq ∈ wrt
        · have HKK := HK.out kq (.inr m2)
          have HBM : Hid (bm = decide (cq < fd)) := HM5.out.trans (by simp [m1, m2])
          obtain ⟨⟨q0a, q1a⟩, q3a, q6a, q7a⟩ := HC.out V0 BV0.out
          have J1 := hide (JR.out V0 (below_on B2.out BV0.out))
          rw [decide_eq_false m1] at J1
          have MW := hide m2
          clear m1 m2 HM5 HM
          go_wp2_with fail
          refine J1.out.mono ?_
          rintro e w4 ⟨rfl, b4⟩
          have B4 := hide (below_on BV0.out b4)
          clear q0a q1a q3a q6a q7a J1 b4
          obtain ⟨⟨q0b, q1b⟩, q3b, q6b, q7b⟩ := HC.out w4 B4.out
          have J3 := hide (JW.out w4 (below_on B2.out B4.out))
          rw [decide_eq_true MW.out] at J3
          go_wp2_with fail
          refine J3.out.mono ?_
          rintro e w6 ⟨rfl, b6⟩
          have B6 := hide (below_on B4.out b6)
          have J2 := hide (JF2.out w6 (below_on B2.out B6.out) HKK)
          clear q0b q1b q3b q6b q7b J3 b6
          go_wp2_with fail
          refine J2.out.mono ?_
          rintro e w5 ⟨rfl, rfl⟩
          clear J2
          by_cases cl : cq < fd
          · have HB : Hid (bm = true) := HBM.out.trans (by simp [cl])
            have fl : decide (cq < fd) = true := decide_eq_true cl
            clear cl
            go_wp2_with fail
            go_ret
            exact ⟨ret_bool HB.out.symm, below_on B2.out B6.out⟩
          · have HB : Hid (bm = false) := HBM.out.trans (by simp [cl])
            have fl : decide (cq < fd) = false := decide_eq_false cl
            clear cl
            go_wp2_with fail
            go_ret
            exact ⟨ret_bool HB.out.symm, below_on B2.out B6.out⟩
        · have HBM : Hid (bm = false) := HM5.out.trans (by simp [m1, m2])
          obtain ⟨⟨q0a, q1a⟩, q3a, q6a, q7a⟩ := HC.out V0 BV0.out
          have J1 := hide (JR.out V0 (below_on B2.out BV0.out))
          rw [decide_eq_false m1] at J1
          have MW := hide m2
          clear m1 m2 HM5 HM
          go_wp2_with fail
          refine J1.out.mono ?_
          rintro e w4 ⟨rfl, b4⟩
          have B4 := hide (below_on BV0.out b4)
          clear q0a q1a q3a q6a q7a J1 b4
          obtain ⟨⟨q0b, q1b⟩, q3b, q6b, q7b⟩ := HC.out w4 B4.out
          have J3 := hide (JW.out w4 (below_on B2.out B4.out))
          rw [decide_eq_false MW.out] at J3
          go_wp2_with fail
          refine J3.out.mono ?_
          rintro e w6 ⟨rfl, b6⟩
          have B6 := hide (below_on B4.out b6)
          clear q0b q1b q3b q6b q7b J3 b6
          go_wp2_with fail
          go_ret
          exact ⟨ret_bool HBM.out.symm, below_on B2.out B6.out⟩
    · have f4 : (op == 4) = false := beq_eq_false_iff_ne.2 o4
      have HM3 : Hid (bm = _) := HM4.out.trans (if_neg o4)
      have HM : Hid (True) := trivial
      clear o4 HM4
      by_cases o26 : op = 26
      · subst o26
        have HM2 : Hid (bm = (inrI code a && (isK ks kq && decide (cq = fd)))) := HM3.out.trans (by rw [if_pos rfl])
        clear HM3
        have J0 := hide (JI.out V0 (below_on B2.out BV0.out))
        obtain ⟨⟨q0z, q1z⟩, q3z, q6z, q7z⟩ := HC.out V0 BV0.out
        cases hin : inrI code a with
        | false =>
          have HBM : Hid (bm = false) := HM2.out.trans (by simp [hin])
          rw [hin] at J0
          clear hin HM2 HM
          go_wp2_with fail
          refine J0.out.mono ?_
          rintro e V1 ⟨rfl, b9⟩
          have BV1 := hide (below_on BV0.out b9)
          clear q0z q1z q3z q6z q7z J0 b9
          go_wp2_with fail
          go_ret
          exact ⟨ret_bool HBM.out.symm, below_on B2.out BV1.out⟩
        | true =>
          have HM1 : Hid (bm = (isK ks kq && decide (cq = fd))) := HM2.out.trans (by simp [hin])
          rw [hin] at J0
          clear hin HM2
          go_wp2_with fail
          refine J0.out.mono ?_
          rintro e V1 ⟨rfl, b9⟩
          have BV1 := hide (below_on BV0.out b9)
          clear q0z q1z q3z q6z q7z J0 b9
          cases hik : isK ks kq with
          | false =>
            have HBM : Hid (bm = false) := HM1.out.trans (by simp [hik])
            have J1 := hide (JK2.out V1 (below_on B2.out BV1.out))
            rw [hik] at J1
            clear hik HM1 HM
            obtain ⟨⟨q0a, q1a⟩, q3a, q6a, q7a⟩ := HC.out V1 BV1.out
            go_wp2_with fail
            refine J1.out.mono ?_
            rintro e w4 ⟨rfl, rfl⟩
            clear q0a q1a q3a q6a q7a J1
            go_wp2_with fail
            go_ret
            exact ⟨ret_bool HBM.out.symm, below_on B2.out BV1.out⟩
          | true =>
            have HBM : Hid (bm = decide (cq = fd)) := HM1.out.trans (by simp [hik])
            have HKK : 1 ≤ kq ∧ kq ≤ (ks.length : Int) := by unfold isK at hik; exact of_decide_eq_true hik
            have J1 := hide (JK2.out V1 (below_on B2.out BV1.out))
            rw [hik] at J1
            clear hik HM1 HM
            obtain ⟨⟨q0a, q1a⟩, q3a, q6a, q7a⟩ := HC.out V1 BV1.out
            go_wp2_with fail
            refine J1.out.mono ?_
            rintro e w4 ⟨rfl, rfl⟩
            clear q0a q1a q3a q6a q7a J1
            have J2 := hide (JF2.out w4 (below_on B2.out BV1.out) HKK)
            go_wp2_with fail
            refine J2.out.mono ?_
            rintro e w5 ⟨rfl, rfl⟩
            clear J2
            by_cases cl : cq = fd
            · have HB : Hid (bm = true) := HBM.out.trans (by simp [cl])
              have fl : (cq == fd) = true := by simp [cl]
              clear cl
              go_wp2_with fail
              go_ret
              exact ⟨ret_bool HB.out.symm, below_on B2.out BV1.out⟩
            · have HB : Hid (bm = false) := HBM.out.trans (by simp [cl])
              have fl : (cq == fd) = false := beq_eq_false_iff_ne.2 cl
              clear cl
              go_wp2_with fail
              go_ret
              exact ⟨ret_bool HB.out.symm, below_on B2.out BV1.out⟩
      · have f26 : (op == 26) = false := beq_eq_false_iff_ne.2 o26
        have HM2 : Hid (bm = _) := HM3.out.trans (if_neg o26)
        clear o26 HM3
        by_cases o28 : op = 28
        · subst o28
          have HM1 : Hid (bm = (isK ks kq && decide (cq = fd))) := HM2.out.trans (by rw [if_pos rfl])
          clear HM2
          cases hik : isK ks kq with
          | false =>
            have HBM : Hid (bm = false) := HM1.out.trans (by simp [hik])
            have J1 := hide (JK2.out V0 (below_on B2.out BV0.out))
            rw [hik] at J1
            clear hik HM1 HM
            obtain ⟨⟨q0a, q1a⟩, q3a, q6a, q7a⟩ := HC.out V0 BV0.out
            go_wp2_with fail
            refine J1.out.mono ?_
            rintro e w4 ⟨rfl, rfl⟩
            clear q0a q1a q3a q6a q7a J1
            go_wp2_with fail
            go_ret
            exact ⟨ret_bool HBM.out.symm, below_on B2.out BV0.out⟩
          | true =>
            have HBM : Hid (bm = decide (cq = fd)) := HM1.out.trans (by simp [hik])
            have HKK : 1 ≤ kq ∧ kq ≤ (ks.length : Int) := by unfold isK at hik; exact of_decide_eq_true hik
            have J1 := hide (JK2.out V0 (below_on B2.out BV0.out))
            rw [hik] at J1
            clear hik HM1 HM
            obtain ⟨⟨q0a, q1a⟩, q3a, q6a, q7a⟩ := HC.out V0 BV0.out
            go_wp2_with fail
            refine J1.out.mono ?_
            rintro e w4 ⟨rfl, rfl⟩
            clear q0a q1a q3a q6a q7a J1
            have J2 := hide (JF2.out w4 (below_on B2.out BV0.out) HKK)
            go_wp2_with fail
            refine J2.out.mono ?_
            rintro e w5 ⟨rfl, rfl⟩
            clear J2
            by_cases cl : cq = fd
            · have HB : Hid (bm = true) := HBM.out.trans (by simp [cl])
              have fl : (cq == fd) = true := by simp [cl]
              clear cl
              go_wp2_with fail
              go_ret
              exact ⟨ret_bool HB.out.symm, below_on B2.out BV0.out⟩
            · have HB : Hid (bm = false) := HBM.out.trans (by simp [cl])
              have fl : (cq == fd) = false := beq_eq_false_iff_ne.2 cl
              clear cl
              go_wp2_with fail
              go_ret
              exact ⟨ret_bool HB.out.symm, below_on B2.out BV0.out⟩
        · have f28 : (op == 28) = false := beq_eq_false_iff_ne.2 o28
          have HM1 : Hid (bm = _) := HM2.out.trans (if_neg o28)
          clear o28 HM2
          by_cases o29 : op = 29
          · subst o29
            have HBM : Hid (bm = isK ks av) := HM1.out.trans (if_pos (.inl rfl))
            have J1 := hide (JK.out V0 av (below_on B2.out BV0.out))
            clear HM1 HM
            obtain ⟨⟨q0a, q1a⟩, q3a, q6a, q7a⟩ := HC.out V0 BV0.out
            go_wp2_with fail
            refine J1.out.mono ?_
            rintro e w4 ⟨rfl, rfl⟩
            clear q0a q1a q3a q6a q7a J1
            go_wp2_with fail
            go_ret
            exact ⟨ret_bool HBM.out.symm, below_on B2.out BV0.out⟩
          · have f29 : (op == 29) = false := beq_eq_false_iff_ne.2 o29
            by_cases o35 : op = 35
            · subst o35
              have HBM : Hid (bm = isK ks av) := HM1.out.trans (if_pos (.inr rfl))
              have J1 := hide (JK.out V0 av (below_on B2.out BV0.out))
              clear HM1 HM
              obtain ⟨⟨q0a, q1a⟩, q3a, q6a, q7a⟩ := HC.out V0 BV0.out
              go_wp2_with fail
              refine J1.out.mono ?_
              rintro e w4 ⟨rfl, rfl⟩
              clear q0a q1a q3a q6a q7a J1
              go_wp2_with fail
              go_ret
              exact ⟨ret_bool HBM.out.symm, below_on B2.out BV0.out⟩
            · have f35 : (op == 35) = false := beq_eq_false_iff_ne.2 o35
              have HBM : Hid (bm = true) := HM1.out.trans (if_neg (fun e => e.elim o29 o35))
              clear HM1 HM o29 o35
              obtain ⟨⟨q0a, q1a⟩, q3a, q6a, q7a⟩ := HC.out V0 BV0.out
              go_wp2_with fail
              go_ret
              exact ⟨ret_bool HBM.out.symm, below_on B2.out BV0.out⟩
end Go.Proofs.YtfkhhplcogedmaaGreatDoor
