/-
  The document's reader of bytes: routine.
-/
import Derived.Test.YtpolajoephjdhaaGreatDoorIxD
namespace Go.Proofs.YtpolajoephjdhaaGreatDoor
open Go.RowKit
set_option maxRecDepth 100000
theorem textN_len (l : List UInt8) : (textN l).1.length ≤ l.length := by
  unfold textN
  split
  · simp
  · dsimp only
    rw [List.length_take, List.length_drop]
    omega
section
variable {W W' : World} {B k : Nat} {b : List UInt8} {s : Rs}
/-- Behind the reading of one instruction. -/
def RlD (W wx : World) (B k : Nat) (b : List UInt8) (st2 : Rs) (r2 r3 : Nat) (x y z t : Value) (C o : Nat) (dn : List Ins) (iv : Ins) : Prop := ∃ av : Int, Lcd W wx B k b st2 r2 r3 x y z t ∧ wx.heap[C]? = some (.cells #[.int .i64 (o : Int), .int .i64 av] 56 (0, 0)) ∧ wx.ownsRow (r3 + 1) 56 2 t dn.length (insC dn) ∧ (st2.bad = false → iv = ⟨(o : Int), av⟩)
/-- What the document's routine hands back. -/
def DrtOut (W : World) (B k : Nat) (b : List UInt8) (s : Rs) (e : Ending) (w' : World) : Prop := ∃ r vc, e = .returned (rtV r vc) ∧ w'.ownsRow W.heap.size 56 2 vc r.code.length (insC r.code) ∧ ((rtnR b s).bad = false → r = rtnV b s) ∧ Rdd w' B k b (rtnR b s) ∧ Mv W w' (fun j => j = k)
theorem Lcd.empty {w : World} {r2 r3 : Nat} (h : Lcd W w B k b s r2 r3 (.string ⟨#[]⟩) (.int .i64 0) (.int .i64 0) (.slice none 0 0)) (hs : rtnR b s = s) (hb : s.bad = true) : DrtOut W B k b s (.returned (.agg #[.string ⟨#[]⟩, .int .i64 0, .int .i64 0, .slice none 0 0])) (w4s w r2 (.string ⟨#[]⟩) (.int .i64 0) (.int .i64 0) (.slice none 0 0)) := by
  obtain ⟨h1, h2, h3, h4, h5, h6, h7⟩ := h
  have m := w4s_mv w r2 (.string ⟨#[]⟩) (.int .i64 0) (.int .i64 0) (.slice none 0 0)
  have := h3.1
  refine ⟨⟨⟨#[]⟩, 0, 0, []⟩, .slice none 0 0, rfl, ⟨rfl, .inl ⟨rfl, rfl⟩⟩, ?_, ?_, h4.trans m (fun j hj e => by omega)⟩
  · rw [hs, hb]
    intro e
    cases e
  · rw [hs]
    exact h3.mv m (fun j e => by omega)
set_option maxHeartbeats 8000000 in
theorem drtn_at (h : Rdd W B k b s) : Calls Tryz.prog 29 #[.pointer (some ⟨k, 0, none⟩)] W (DrtOut W B k b s) := by
  obtain ⟨w0, hw0⟩ : ∃ X, X = W.alloc (.cells #[.string ⟨#[]⟩, .int .i64 0, .int .i64 0, .slice none 0 0] 45) := ⟨_, rfl⟩
  obtain ⟨w1, hw1⟩ : ∃ X, X = w0.alloc (.cells #[.string ⟨#[]⟩, .int .i64 0, .int .i64 0, .slice none 0 0] 45) := ⟨_, rfl⟩
  have B0 : Below W.heap.size W w0 := hw0 ▸ below_alloc W _
  have B1 : Below w0.heap.size w0 w1 := hw1 ▸ below_alloc w0 _
  have n1 : w0.heap[W.heap.size]? = some (.cells #[.string ⟨#[]⟩, .int .i64 0, .int .i64 0, .slice none 0 0] 45 (0, 0)) := by rw [hw0]; exact heap_alloc_new W _
  have n2 : w1.heap[w0.heap.size]? = some (.cells #[.string ⟨#[]⟩, .int .i64 0, .int .i64 0, .slice none 0 0] 45 (0, 0)) := by rw [hw1]; exact heap_alloc_new w0 _
  have e0 : w0.heap.size = W.heap.size + 1 := by rw [hw0]; exact Array.size_push ..
  obtain ⟨r2, hr2⟩ : ∃ r, r = W.heap.size := ⟨_, rfl⟩
  obtain ⟨r3, hr3⟩ : ∃ r, r = W.heap.size + 1 := ⟨_, rfl⟩
  rw [e0, ← hr3] at n2
  rw [← hr2] at n1
  have L1 : Hid (Lcd W w1 B k b s r2 r3 (.string ⟨#[]⟩) (.int .i64 0) (.int .i64 0) (.slice none 0 0)) := by
    have hk := h.lt
    exact ⟨(B1.block r2 (lt_of_block n1)).trans n1, n2, (h.later B0).later B1, Mv.of_below (below_on B0 B1) _, by omega, by omega, by omega⟩
  clear B0 B1 n1 n2 h
  obtain ⟨ao, c, ⟨c0, c1, c2, c3⟩, -, -, hBs⟩ := L1.out.2.2.1.cells
  obtain ⟨p0, p1, p2, p3⟩ := row4 L1.out.2.1
  obtain ⟨q0, q1, q2, q3⟩ := row4 L1.out.1
  have zq : ∀ q, w1.frozen? ⟨r2, q, none⟩ = false := fun q => frozen_of_row w1 r2 q _ 45 L1.out.1
  cases hb : s.bad with
  | true =>
    rw [hb] at c2
    have FIN := hide (L1.out.empty (rtn_bad hb) hb)
    have FR := hide (w4s_row (.string ⟨#[]⟩) (.int .i64 0) (.int .i64 0) (.slice none 0 0) L1.out.1)
    clear hBs hb
    go_enter Tryz.func29, Tryz.ntmps29
    go_upto_region 2 with fail
    rw [← hw0, ← hw1, ← hr3, ← hr2]
    clear hw0 hw1 hr2 hr3 e0
    go_wp2_with fail
    exact bodyPost_ret (res_rt1 rfl rfl FR.out) rfl FIN.out
  | false =>
    rw [hb] at c2
    have hat := L1.out.2.2.1.2.1
    have hBL := L1.out.2.2.1.2.2.2.1
    have BR := hide (hBs.rest hat)
    have JG : Hid (∀ sv, Bs w1 sv (b.drop s.at') → ∀ n, Calls Tryz.prog 63 #[sv] (w1.drewN n) fun e w' => e = .returned (.tuple #[.string ⟨(textN (b.drop s.at')).1.toArray⟩, .int .i64 ((textN (b.drop s.at')).2 : Int)]) ∧ w' = w1.drewN n) := fun sv hs n => rgetText_any sv _ _ (hs.below (below_drawn w1 n) (Nat.le_refl _))
    have TL := textN_le (b.drop s.at')
    have TM := textN_len (b.drop s.at')
    rw [List.length_drop] at TL TM
    have HB := hide hb
    have NG := hide (fun h1 h2 h3 => name_good (b := b) hb h1 h2 h3)
    have NW := hide (fun h => name_wrong (b := b) (s := s) h)
    generalize textN (b.drop s.at') = tt at *
    obtain ⟨tx, ts⟩ := tt
    dsimp only at JG TL TM NG NW
    obtain ⟨a, haa⟩ : ∃ a, a = s.at' := ⟨_, rfl⟩
    rw [← haa] at c1 hat BR JG TL
    have HAA := hide haa
    obtain ⟨sz, hsz⟩ : ∃ z : ByteArray, z = ⟨tx.toArray⟩ := ⟨_, rfl⟩
    have ZS : Hid (sz.size = tx.length) := by unfold Hid; rw [hsz]; exact bs_size tx
    have ZE := hide hsz
    rw [← hsz] at JG
    clear hBs hb hsz haa
    go_enter Tryz.func29, Tryz.ntmps29
    go_upto_region 2 with fail
    rw [← hw0, ← hw1, ← hr3, ← hr2]
    clear hw0 hw1 hr2 hr3 e0
    clear q0 q1 q2 q3 zq p0 p1 p2 p3
    go_upto_region 4 with fail
    go_cut [4, 5] (fun v4 v5 wx => v4 = .string sz ∧ v5 = .int .i64 (ts : Int) ∧ Hid (∃ n, wx = w1.drewN n))
    case first =>
      rcases BR.out with ⟨rfl, hl0, ha0, hcc, hbs⟩ | ⟨y, rfl, hl0, ha0, hcc, hbs⟩ | ⟨g9, o9, rfl, hp, hcc, hlc2, hbs⟩
      · have J := hide (JG.out _ hbs)
        have c0' : w1.cell? ⟨k, 0, none⟩ = some (.slice none 0 c) := by rw [c0, hl0]; rfl
        obtain rfl : a = 0 := ha0
        clear c0 hl0 hbs
        go_quiet (exact Calls.quiet_of_same (J.out _))
        go_wp2_with fail
        all_goals go_meet
        all_goals exact ⟨rfl, rfl, nq, rfl⟩
      · have J := hide (JG.out _ hbs)
        have c0' : w1.cell? ⟨k, 0, none⟩ = some (.slice (some y) 0 c) := by rw [c0, hl0]; rfl
        obtain rfl : a = 0 := ha0
        clear c0 hl0 hbs
        go_quiet (exact Calls.quiet_of_same (J.out _))
        go_wp2_with fail
        all_goals go_meet
        all_goals exact ⟨rfl, rfl, nq, rfl⟩
      · have J := hide (JG.out _ hbs)
        have i1 : (0 : Int) ≤ ((a : Nat) : Int) := by omega
        have i2 : ((a : Nat) : Int) ≤ (b.length : Int) := by omega
        clear hbs
        go_quiet (exact Calls.quiet_of_same (J.out _))
        go_wp2_with fail
        all_goals go_meet
        all_goals exact ⟨rfl, rfl, nq, rfl⟩
    obtain ⟨rfl, rfl, hd⟩ := hcut
    obtain ⟨n, hn⟩ := hd.out
    subst hn
    obtain ⟨w2, hw2⟩ : ∃ X, X = w1.drewN n := ⟨_, rfl⟩
    have L2 : Hid (Lcd W w2 B k b s r2 r3 (.string ⟨#[]⟩) (.int .i64 0) (.int .i64 0) (.slice none 0 0)) := by unfold Hid; rw [hw2]; exact L1.out.later (below_drawn w1 n)
    rw [← hw2]
    clear hw2 hd BR JG c0 c1 c2 c3 L1
    obtain ⟨ao, c, ⟨c0, c1, c2, c3⟩, zk, hrow, -⟩ := L2.out.2.2.1.cells
    have HROW := hide hrow
    rw [← HAA.out] at c1
    clear hrow
    obtain ⟨p0, p1, p2, p3⟩ := row4 L2.out.2.1
    have zp := L2.out.row.2
    obtain ⟨q0, q1, q2, q3⟩ := row4 L2.out.1
    have zq : ∀ q, w2.frozen? ⟨r2, q, none⟩ = false := fun q => frozen_of_row w2 r2 q _ 45 L2.out.1
    have hkr2 := L2.out.2.2.2.2.1
    have hkr3 := L2.out.2.2.2.2.2.1
    have ne1 : k ≠ r2 := by omega
    have ne2 : k ≠ r3 := by omega
    have zs := ZS.out
    have hszb : sz.size ≤ 281474976710656 := by omega
    by_cases hbad : ts = 0 ∨ tx.length < 1 ∨ 16 < tx.length
    · have NM := hide (NW.out hbad)
      have L3 : Hid (Lcd W (w2.setCell ⟨k, 2, none⟩ (.bool true)) B k b ⟨s.at', s.left, true⟩ r2 r3 (.string ⟨#[]⟩) (.int .i64 0) (.int .i64 0) (.slice none 0 0)) := L2.out.call (L2.out.2.2.1.set HROW.out L2.out.2.2.1.2.1 L2.out.2.2.1.2.2.1 rfl) ((Mv.refl w2 (fun j => j = k)).set (g := k) rfl 2 _)
      have RN : Hid (rtnR b s = ⟨s.at', s.left, true⟩) := by unfold Hid; rw [rtn_name (by rw [NM.out]), NM.out]
      have FIN : Hid (DrtOut W B k b s (.returned (.agg #[.string ⟨#[]⟩, .int .i64 0, .int .i64 0, .slice none 0 0])) (w4s (w2.setCell ⟨k, 2, none⟩ (.bool true)) r2 (.string ⟨#[]⟩) (.int .i64 0) (.int .i64 0) (.slice none 0 0))) := by
        obtain ⟨r, vc, a1, a2, a3, a4, a5⟩ := L3.out.empty (rtn_bad rfl) rfl
        have e1 : rtnR b ⟨s.at', s.left, true⟩ = ⟨s.at', s.left, true⟩ := rtn_bad rfl
        refine ⟨r, vc, a1, a2, (fun e => by rw [RN.out] at e; cases e), ?_, a5⟩
        rw [e1] at a4
        rw [RN.out]
        exact a4
      have FR := hide (w4s_row (.string ⟨#[]⟩) (.int .i64 0) (.int .i64 0) (.slice none 0 0) L3.out.1)
      rcases (show ts = 0 ∨ (ts ≠ 0 ∧ tx.length < 1) ∨ (ts ≠ 0 ∧ 1 ≤ tx.length ∧ 16 < tx.length) by omega) with h0 | ⟨h0, h1⟩ | ⟨h0, h1, h2⟩
      · subst h0
        clear hbad zs
        go_wp2_with fail
        exact bodyPost_ret (res_rt1 rfl rfl FR.out) rfl FIN.out
      · have t0 : ((ts : Int) == 0) = false := by rw [beq_eq_false_iff_ne]; omega
        obtain rfl : sz = ByteArray.empty := by
          have h9 : sz.size = 0 := by omega
          exact ByteArray.size_eq_zero_iff.1 h9
        clear hbad zs h1
        go_wp2_with fail
        all_goals exact bodyPost_ret (res_rt1 rfl rfl FR.out) rfl FIN.out
      · have t0 : ((ts : Int) == 0) = false := by rw [beq_eq_false_iff_ne]; omega
        have t9 : ¬ (sz.size : Int) < 1 := by omega
        have t1 : ¬ sz = ByteArray.empty := fun e => by rw [e] at zs; have : ByteArray.empty.size = 0 := rfl; omega
        have t2 : (16 : Int) < (sz.size : Int) := by omega
        clear hbad zs h1 h2
        go_wp2_with fail
        all_goals exact bodyPost_ret (res_rt1 rfl rfl FR.out) rfl FIN.out
    · have g1 : ts ≠ 0 := fun e => hbad (.inl e)
      have g2 : 1 ≤ tx.length := by omega
      have g3 : tx.length ≤ 16 := by omega
      obtain ⟨gr, gv⟩ := NG.out g1 g2 g3
      have GR := hide gr
      have GV := hide gv
      have t0 : ((ts : Int) == 0) = false := by rw [beq_eq_false_iff_ne]; omega
      have t9 : ¬ (sz.size : Int) < 1 := by omega
      have t1 : ¬ sz = ByteArray.empty := fun e => by rw [e] at zs; have : ByteArray.empty.size = 0 := rfl; omega
      have t2 : ¬ (16 : Int) < (sz.size : Int) := by omega
      have AE := HAA.out
      have L3 : Hid (Lcd W (w2.setCell ⟨k, 1, none⟩ (.int .i64 ((a : Int) + (ts : Int)))) B k b (nmR b s) r2 r3 (.string ⟨#[]⟩) (.int .i64 0) (.int .i64 0) (.slice none 0 0)) := by
        unfold Hid
        rw [GR.out]
        refine L2.out.call (L2.out.2.2.1.set HROW.out (by show s.at' + ts ≤ _; omega) L2.out.2.2.1.2.2.1 ?_) ((Mv.refl w2 (fun j => j = k)).set (g := k) rfl 1 _)
        have : ((a : Int) + (ts : Int)) = ((s.at' + ts : Nat) : Int) := by omega
        rw [this, HB.out]
        rfl
      have L4 := hide (L3.out.set (i := 0) (v := .string sz) rfl)
      obtain ⟨x, hx⟩ : ∃ x, x = rtnR b s := ⟨_, rfl⟩
      obtain ⟨v, hv⟩ : ∃ v, v = rtnV b s := ⟨_, rfl⟩
      have GO : Hid (∀ e w', (∃ r vc, e = .returned (rtV r vc) ∧ w'.ownsRow W.heap.size 56 2 vc r.code.length (insC r.code) ∧ (x.bad = false → r = v) ∧ Rdd w' B k b x ∧ Mv W w' (fun j => j = k)) → DrtOut W B k b s e w') := fun e w' h => by
        unfold DrtOut
        rw [← hx, ← hv]
        exact h
      unfold rtnR at hx
      unfold rtnV at hv
      have e1 : rtS1 b s = nmR b s := rfl
      have K2 : Hid (∀ w, Rdd w B k b (nmR b s) → Calls Tryz.prog 27 #[.pointer (some ⟨k, 0, none⟩), .int .i64 0, .int .i64 4] w fun e w' => e = .returned (.int .i64 (rtP b s : Int)) ∧ Rdd w' B k b (rtS2 b s) ∧ Mv w w' (fun j => j = k)) := fun w hr => dnumber_at hr 0 4 (by omega) (by omega)
      have hpl : rtP b s ≤ 4 := numV_le _ _ _ _
      obtain ⟨lo, hlo⟩ : ∃ lo, lo = dnmV b (rtP b s) 32 (rtS2 b s) := ⟨_, rfl⟩
      have hlo32 : lo ≤ 32 := by rw [hlo]; exact dnmV_le (by omega)
      have K3 : Hid (∀ w, Rdd w B k b (rtS2 b s) → Calls Tryz.prog 27 #[.pointer (some ⟨k, 0, none⟩), .int .i64 (rtP b s : Int), .int .i64 32] w fun e w' => e = .returned (.int .i64 (lo : Int)) ∧ Rdd w' B k b (rtS3 b s) ∧ Mv w w' (fun j => j = k)) := fun w hr => hlo ▸ dnumber_at hr (rtP b s) 32 (by omega) (by omega)
      have K4 : Hid (∀ w, Rdd w B k b (rtS3 b s) → Calls Tryz.prog 27 #[.pointer (some ⟨k, 0, none⟩), .int .i64 0, .int .i64 ((rtS3 b s).left : Int)] w fun e w' => e = .returned (.int .i64 (rtC b s : Int)) ∧ Rdd w' B k b (rtS4 b s) ∧ Mv w w' (fun j => j = k)) := fun w hr => dnumber_at hr 0 (rtS3 b s).left (by omega) (by have := hr.2.2.1; omega)
      have hcl : rtC b s ≤ (rtS3 b s).left := numV_le _ _ _ _
      have hlf : (rtS4 b s).left = (rtS3 b s).left := by unfold rtS4 numR; exact passR_left _ _ _
      have e5 : rtS5 b s = ⟨(rtS4 b s).at', (rtS4 b s).left - rtC b s, (rtS4 b s).bad⟩ := rfl
      have LK : Hid ((rtS4 b s).bad = false → (lo : Int) = (rtL b s : Int)) := fun hb4 => by
        have hb3 : (rtS3 b s).bad = false := by
          cases h3 : (rtS3 b s).bad with
          | false => rfl
          | true =>
            have : rtS4 b s = rtS3 b s := numR_bad h3
            rw [this, h3] at hb4
            cases hb4
        rw [hlo, dnmV_ok hb3]
        rfl
      have NV : Hid (bs (nmV b s) = sz) := by unfold Hid; rw [GV.out]; exact ZE.out.symm
      rw [NV.out] at hv
      have S5 := hide e5
      generalize rtC b s = cn at *
      generalize rtS5 b s = s5 at *
      generalize rtS4 b s = s4 at *
      generalize rtS3 b s = s3 at *
      generalize rtL b s = lc at *
      generalize rtP b s = pa at *
      generalize rtS2 b s = s2 at *
      generalize nmR b s = s1 at *
      have HX := hide hx
      have HV := hide hv
      have HLF := hide hlf
      clear hx hv e5 e1 hlf hbad zs g1 g2 g3 gr gv AE hlo q0 q1 q2 q3 zq NW NG
      obtain ⟨w3, hw3⟩ : ∃ X, X = (w2.setCell ⟨k, 1, none⟩ (.int .i64 ((a : Int) + (ts : Int)))).setCell ⟨r3, 0, none⟩ (.string sz) := ⟨_, rfl⟩
      rw [← hw3] at L4
      go_upto_region 10 with fail
      rw [← hw3]
      clear hw3 c0 c1 c2 c3 p0 p1 p2 p3 zp zk L3 L2 HROW
      go_wp2_with fail
      refine (K2.out _ L4.out.2.2.1).mono ?_
      rintro e w4 ⟨rfl, hr, hm⟩
      have L5 := L4.out.call hr hm
      obtain ⟨⟨a0, a1, a2, a3⟩, z⟩ := L5.row
      have L6 := hide (L5.set (i := 1) (v := .int .i64 (pa : Int)) rfl)
      have d1 := L6.out.row.1.2.1
      clear hr hm L5
      go_wp2_with fail
      refine (K3.out _ L6.out.2.2.1).mono ?_
      rintro e w5 ⟨rfl, hr, hm⟩
      have L7 := L6.out.call hr hm
      clear a0 a1 a2 a3 z d1
      obtain ⟨⟨a0, a1, a2, a3⟩, z⟩ := L7.row
      have L8 := hide (L7.set (i := 2) (v := .int .i64 (lo : Int)) rfl)
      obtain ⟨w6, hw6⟩ : ∃ X, X = w5.setCell ⟨r3, 2, none⟩ (.int .i64 (lo : Int)) := ⟨_, rfl⟩
      clear hr hm L7
      go_upto_region 12 with fail
      rw [← hw6] at L8 ⊢
      clear a0 a1 a2 a3 z hw6
      obtain ⟨ao3, cc3, ⟨b0, b1, b2, b3⟩, -, -, -⟩ := L8.out.2.2.1.cells
      have hl3 := L8.out.2.2.1.2.2.1
      have el : (2000 : Int) - ((2000 - s3.left : Nat) : Int) = (s3.left : Int) := by omega
      have bnd : ((2000 - s3.left : Nat) : Int) ≤ 2000 := by omega
      have K4b := hide (K4.out _ L8.out.2.2.1)
      generalize hcd : ((2000 - s3.left : Nat) : Int) = cd at *
      have cd0 : 0 ≤ cd := by omega
      rw [← el] at K4b
      have EL := hide el
      clear el K4 b0 b1 b2 hcd
      go_wp2_with fail
      refine K4b.out.mono ?_
      rintro e w7 ⟨rfl, hr, hm⟩
      have L9 := hide (L8.out.call hr hm)
      clear hr hm b3 K4b
      obtain ⟨ao4, cc4, ⟨b0, b1, b2, b3⟩, zk, hrow, -⟩ := L9.out.2.2.1.cells
      have hl4 := L9.out.2.2.1.2.2.1
      have hcl4 : cn ≤ s4.left := by have := HLF.out; omega
      have L10 : Hid (Lcd W (w7.setCell ⟨k, 3, none⟩ (.int .i64 (((2000 - s4.left : Nat) : Int) + (cn : Int)))) B k b s5 r2 r3 (.string sz) (.int .i64 (pa : Int)) (.int .i64 (lo : Int)) (.slice none 0 0)) := by
        unfold Hid
        rw [S5.out]
        refine L9.out.call (L9.out.2.2.1.set hrow L9.out.2.2.1.2.1 (by show s4.left - cn ≤ 2000; omega) ?_) ((Mv.refl w7 (fun j => j = k)).set (g := k) rfl 3 _)
        have : (((2000 - s4.left : Nat) : Int) + (cn : Int)) = ((2000 - (s4.left - cn) : Nat) : Int) := by omega
        rw [this]
        rfl
      obtain ⟨w8, hw8⟩ : ∃ X, X = w7.setCell ⟨k, 3, none⟩ (.int .i64 (((2000 - s4.left : Nat) : Int) + (cn : Int))) := ⟨_, rfl⟩
      rw [← hw8] at L10
      have b4 : ((2000 - s4.left : Nat) : Int) ≤ 2000 := by omega
      have b5 : (0 : Int) ≤ ((2000 - s4.left : Nat) : Int) := by omega
      have hcn : cn ≤ 2000 := by omega
      have E45 : Hid (s5.bad = s4.bad) := by unfold Hid; rw [S5.out]
      clear b0 b1 b2 hrow L9 L8 EL cd0 bnd
      generalize ((2000 - s4.left : Nat) : Int) = cd4 at *
      go_upto_region 14 with fail
      rw [← hw8]
      clear hw8 b3 zk b4 b5
      have HV5 : Hid (s5.bad = false → v = ⟨sz, (pa : Int), (lo : Int), codeVv b cn s5⟩) := fun h5 => by rw [HV.out, LK.out (by rw [← E45.out]; exact h5)]
      go_wp2_with fail
      go_loopw [7] (fun va wr => ∃ (j : Nat) (st : Rs) (dn : List Ins) (vc : Value), va = .int .i64 (j : Int) ∧ j ≤ cn ∧ dn.length = j ∧ Hid (x = codeG b (cn - j) st) ∧ Hid (st.bad = false → v = ⟨sz, (pa : Int), (lo : Int), dn ++ codeVv b (cn - j) st⟩) ∧ Hid (wr.ownsRow (r3 + 1) 56 2 vc dn.length (insC dn)) ∧ Hid (Lcd W wr B k b st r2 r3 (.string sz) (.int .i64 (pa : Int)) (.int .i64 (lo : Int)) vc)) (fun va _ => cn - (intOf va).toNat)
      case atStart => exact ⟨0, s5, [], .slice none 0 0, rfl, by omega, rfl, HX.out, fun h5 => HV5.out h5, ⟨rfl, .inl ⟨rfl, rfl⟩⟩, L10.out⟩
      case round =>
        obtain ⟨j, st, dn, vc, rfl, hj, hdn, hx, hv, hown, hlc⟩ := hrel
        obtain ⟨ao5, c5, rfl⟩ := own_len hown.out
        obtain ⟨ao6, c6, ⟨b0, b1, b2, b3⟩, zk, hrow, hbs⟩ := hlc.out.2.2.1.cells
        have FIN : Hid ((st.bad = true ∨ j = cn) → DrtOut W B k b s (.returned (.agg #[.string sz, .int .i64 (pa : Int), .int .i64 (lo : Int), .slice ao5 dn.length c5])) (w4s wr r2 (.string sz) (.int .i64 (pa : Int)) (.int .i64 (lo : Int)) (.slice ao5 dn.length c5))) := fun hend => by
          have XS : x = st := by
            rcases hend with h | h
            · rw [hx.out]; exact codeG_bad _ h
            · rw [hx.out, h, Nat.sub_self]; rfl
          have MM := w4s_mv wr r2 (.string sz) (.int .i64 (pa : Int)) (.int .i64 (lo : Int)) (.slice ao5 dn.length c5)
          have o1 := hlc.out.2.2.2.2.1
          have o2 := hlc.out.2.2.2.2.2.1
          have o3 := hlc.out.2.2.2.2.2.2
          have o4 := hlc.out.2.2.1.1
          refine GO.out _ _ ⟨⟨sz, pa, lo, dn⟩, _, rfl, own_lower (MM.own hown.out (fun g e1 e2 => by have := (hown.out.lt g e1).1; omega)) (show W.heap.size ≤ r3 + 1 by omega), ?_, ?_, hlc.out.2.2.2.1.trans MM (fun j hj e => by omega)⟩
          · intro hb2
            rw [XS] at hb2
            rcases hend with h | h
            · rw [h] at hb2; cases hb2
            · rw [hv.out hb2, h, Nat.sub_self, codeVv]; simp
          · rw [XS]
            exact hlc.out.2.2.1.mv MM (fun j e => by omega)
        have FR := hide (w4s_row (.string sz) (.int .i64 (pa : Int)) (.int .i64 (lo : Int)) (.slice ao5 dn.length c5) hlc.out.1)
        obtain ⟨⟨a0, a1, a2, a3⟩, z3⟩ := hlc.out.row
        obtain ⟨q0, q1, q2, q3⟩ := row4 hlc.out.1
        have zq : ∀ q, wr.frozen? ⟨r2, q, none⟩ = false := fun q => frozen_of_row wr r2 q _ 45 hlc.out.1
        by_cases hlt : j < cn
        · cases hbd : st.bad with
          | true =>
            rw [hbd] at b2
            have F2 := hide (FIN.out (.inl hbd))
            clear hx hv hbs hrow hbd FIN hdn
            go_wp2_with fail
            exact bodyPost_ret (res_rt1 rfl rfl FR.out) rfl F2.out
          | false =>
            rw [hbd] at b2
            have J1 := hide (dnumber_at hlc.out.2.2.1 1 39 (by omega) (by omega))
            obtain ⟨q, hq⟩ : ∃ q, cn - j = q + 1 := ⟨cn - j - 1, by omega⟩
            have hq' : cn - (j + 1) = q := by omega
            have HX2 : Hid (x = codeG b (cn - (j + 1)) (insR b st)) := by unfold Hid; rw [hx.out, hq, hq']; rfl
            have HV2 : Hid ((insR b st).bad = false → v = ⟨sz, (pa : Int), (lo : Int), (dn ++ [insVv b st]) ++ codeVv b (cn - (j + 1)) (insR b st)⟩) := fun _ => by rw [hv.out hbd, hq, hq', codeVv]; simp
            obtain ⟨o, ho⟩ : ∃ o, o = dnmV b 1 39 st := ⟨_, rfl⟩
            obtain ⟨st1, hst1⟩ : ∃ s1, s1 = numR b 1 39 st := ⟨_, rfl⟩
            rw [← ho, ← hst1] at J1
            have ho39 : o ≤ 39 := by rw [ho]; exact dnmV_le (by omega)
            have IB : Hid (st1.bad = true → insR b st = st1 ∧ st1.bad = true) := fun h1 => by
              refine ⟨?_, h1⟩
              unfold insR insNm
              have : numV b 1 39 st = 0 := by unfold numV; rw [← hst1, h1]; rfl
              rw [this, ← hst1]
              rfl
            have IN : Hid (st1.bad = false → numb (opk (o : Int)) = false → insR b st = st1 ∧ insVv b st = ⟨(o : Int), 0⟩) := fun h1 h2 => by
              have e1 : o = numV b 1 39 st := by rw [ho]; exact dnmV_ok (by rw [← hst1]; exact h1)
              have e2 : insNm b st = false := by unfold insNm; rw [← e1]; exact h2
              refine ⟨?_, ?_⟩
              · unfold insR; rw [e2, ← hst1]; rfl
              · unfold insVv; rw [e2, ← e1]; rfl
            have IY : Hid (st1.bad = false → numb (opk (o : Int)) = true → insR b st = sgnR b st1 ∧ ((sgnR b st1).bad = false → insVv b st = ⟨(o : Int), Dec.unzig (Dec.getN (b.drop st1.at')).1⟩)) := fun h1 h2 => by
              have e1 : o = numV b 1 39 st := by rw [ho]; exact dnmV_ok (by rw [← hst1]; exact h1)
              have e2 : insNm b st = true := by unfold insNm; rw [← e1]; exact h2
              refine ⟨?_, fun h3 => ?_⟩
              · unfold insR; rw [e2, ← hst1]; rfl
              · unfold insVv; rw [e2, ← e1, ← hst1]; unfold sgnV; rw [h3]; rfl
            generalize hiv : insVv b st = iv at *
            generalize hst2 : insR b st = st2 at *
            have HDN := hide hdn
            have JH := hide (fun w => dhasa_any (o : Int) w)
            have CL : Hid (∀ w', Below wr.heap.size wr w' → True) := fun _ _ => trivial
            clear hx hv hq hq' hbs hrow hbd FIN hdn ho hst1 hiv hst2 q0 q1 q2 q3 zq CL
            generalize numb (opk (o : Int)) = has at *
            go_wp2_with fail
            refine J1.out.mono ?_
            rintro e w9 ⟨rfl, hr9, hm9⟩
            have L11 := hide (hlc.out.call hr9 hm9)
            have O11 := hide (hm9.own hown.out (fun g e1 e2 => by have := (hown.out.lt g e1).1; have := hlc.out.2.2.2.2.1; have := hlc.out.2.2.2.2.2.1; omega))
            clear J1 hr9 hm9 b0 b1 b2 b3 zk a0 a1 a2 a3 z3
            obtain ⟨wa, hwa⟩ : ∃ X, X = w9.alloc (.cells #[.int .i64 (o : Int), .int .i64 0] 56) := ⟨_, rfl⟩
            have ba : Below w9.heap.size w9 wa := hwa ▸ below_alloc w9 _
            obtain ⟨C, hC⟩ : ∃ C, C = w9.heap.size := ⟨_, rfl⟩
            have na : wa.heap[C]? = some (.cells #[.int .i64 (o : Int), .int .i64 0] 56 (0, 0)) := by rw [hwa, hC]; exact heap_alloc_new w9 _
            have La := hide (L11.out.later ba)
            have Oa := hide (own_later O11.out ba)
            have NA := hide na
            have CB : Hid (r3 < C ∧ ∀ j, (Value.slice ao5 dn.length c5).ownBlock = some j → j < C) := ⟨by have := lt_of_block L11.out.2.1; omega, fun j e => by have := (O11.out.lt j e).2; omega⟩
            clear ba na L11 O11
            go_upto_region 18 with fail
            rw [← hC, ← hwa]
            clear hC hwa
            obtain ⟨e0, e1⟩ := row2 NA.out
            go_wp2_with fail
            refine (JH.out _).mono ?_
            rintro e wb ⟨rfl, bb⟩
            have Lb := hide (La.out.later bb)
            have Ob := hide (own_later Oa.out bb)
            have NB := hide ((bb.block C (lt_of_block NA.out)).trans NA.out)
            clear bb La Oa NA e0 e1 JH
            obtain ⟨ao7, c7, ⟨b0, b1, b2, b3⟩, zk, hrow, hbs⟩ := Lb.out.2.2.1.cells
            have HROW := hide hrow
            have hat1 := Lb.out.2.2.1.2.1
            have BR := hide (hbs.rest hat1)
            clear hrow hbs
            have REL : Hid (∀ wx av, Lcd W wx B k b st2 r2 r3 (.string sz) (.int .i64 (pa : Int)) (.int .i64 (lo : Int)) (.slice ao5 dn.length c5) → wx.heap[C]? = some (.cells #[.int .i64 (o : Int), .int .i64 av] 56 (0, 0)) → wx.ownsRow (r3 + 1) 56 2 (.slice ao5 dn.length c5) dn.length (insC dn) → (st2.bad = false → iv = ⟨(o : Int), av⟩) → RlD W wx B k b st2 r2 r3 (.string sz) (.int .i64 (pa : Int)) (.int .i64 (lo : Int)) (.slice ao5 dn.length c5) C o dn iv) := fun wx av h1 h2 h3 h4 => ⟨av, h1, h2, h3, h4⟩
            go_upto_region 19 with fail
            go_cut [107] (fun v wx => v = .bool (has && !st1.bad) ∧ wb = wx)
            case first =>
              cases has with
              | false =>
                go_wp2_with fail
                go_meet
                exact ⟨rfl, rfl⟩
              | true =>
                go_wp2_with fail
                go_meet
                exact ⟨rfl, rfl⟩
            obtain ⟨rfl, rfl⟩ := hcut
            go_upto_if 107 with fail
            go_cut [107] (fun _ wx => Hid (RlD W wx B k b st2 r2 r3 (.string sz) (.int .i64 (pa : Int)) (.int .i64 (lo : Int)) (.slice ao5 dn.length c5) C o dn iv))
            case first =>
              cases hb1 : st1.bad with
              | true =>
                obtain ⟨i1, i2⟩ := IB.out hb1
                have RR : Hid (RlD W wb B k b st2 r2 r3 (.string sz) (.int .i64 (pa : Int)) (.int .i64 (lo : Int)) (.slice ao5 dn.length c5) C o dn iv) := REL.out wb 0 (i1 ▸ Lb.out) NB.out Ob.out (fun e => by rw [i1, i2] at e; cases e)
                clear i1 i2 b0 b1 b2 b3 zk BR
                rw [Bool.not_true, Bool.and_false]
                go_wp2_with fail
                go_meet
                exact RR.out
              | false =>
                cases has with
                | false =>
                  obtain ⟨i1, i2⟩ := IN.out hb1 rfl
                  have RR : Hid (RlD W wb B k b st2 r2 r3 (.string sz) (.int .i64 (pa : Int)) (.int .i64 (lo : Int)) (.slice ao5 dn.length c5) C o dn iv) := REL.out wb 0 (i1 ▸ Lb.out) NB.out Ob.out (fun _ => i2)
                  clear i1 i2 b0 b1 b2 b3 zk BR
                  rw [Bool.false_and]
                  go_wp2_with fail
                  go_meet
                  exact RR.out
                | true =>
                  obtain ⟨i1, i2⟩ := IY.out hb1 rfl
                  have I1 := hide i1
                  have I2 := hide i2
                  rw [hb1] at b2
                  have HB1 := hide hb1
                  rw [Bool.not_false, Bool.and_true]
                  clear i1 i2 hb1
                  obtain ⟨a, haa⟩ : ∃ a, a = st1.at' := ⟨_, rfl⟩
                  have JG : Hid (∀ sv, Bs wb sv (b.drop st1.at') → ∀ n, Calls Tryz.prog 64 #[sv] (wb.drewN n) fun e w' => e = .returned (.tuple #[.int .i64 (Dec.unzig (Dec.getN (b.drop st1.at')).1), .int .i64 ((Dec.getN (b.drop st1.at')).2 : Int)]) ∧ w' = wb.drewN n) := fun sv hs n => rgetInt_any sv _ _ (hs.below (below_drawn wb n) (Nat.le_refl _))
                  have TL := Dec.getN_le (b.drop st1.at')
                  rw [List.length_drop] at TL
                  have SG : Hid (sgnR b st1 = passR st1 (Dec.getN (b.drop st1.at')).2 true) := rfl
                  generalize Dec.unzig (Dec.getN (b.drop st1.at')).1 = av at *
                  generalize (Dec.getN (b.drop st1.at')).2 = gs at *
                  rw [← haa] at b1 hat1 BR JG TL
                  have HAA := hide haa
                  clear haa
                  go_upto_region 20 with fail
                  go_cut [10, 11] (fun v10 v11 wx => v10 = .int .i64 av ∧ v11 = .int .i64 (gs : Int) ∧ Hid (∃ n, wx = wb.drewN n))
                  case first =>
                    rcases BR.out with ⟨rfl, hl0, ha0, hcc, hbs⟩ | ⟨y, rfl, hl0, ha0, hcc, hbs⟩ | ⟨g9, o9, rfl, hp, hcc, hlc2, hbs⟩
                    · have J := hide (JG.out _ hbs)
                      have c0' : wb.cell? ⟨k, 0, none⟩ = some (.slice none 0 c7) := by rw [b0, hl0]; rfl
                      obtain rfl : a = 0 := ha0
                      clear b0 hl0 hbs
                      go_quiet (exact Calls.quiet_of_same (J.out _))
                      go_wp2_with fail
                      all_goals go_meet
                      all_goals exact ⟨rfl, rfl, nq, rfl⟩
                    · have J := hide (JG.out _ hbs)
                      have c0' : wb.cell? ⟨k, 0, none⟩ = some (.slice (some y) 0 c7) := by rw [b0, hl0]; rfl
                      obtain rfl : a = 0 := ha0
                      clear b0 hl0 hbs
                      go_quiet (exact Calls.quiet_of_same (J.out _))
                      go_wp2_with fail
                      all_goals go_meet
                      all_goals exact ⟨rfl, rfl, nq, rfl⟩
                    · have J := hide (JG.out _ hbs)
                      have i1 : (0 : Int) ≤ ((a : Nat) : Int) := by omega
                      have i2 : ((a : Nat) : Int) ≤ (b.length : Int) := by omega
                      clear hbs
                      go_quiet (exact Calls.quiet_of_same (J.out _))
                      go_wp2_with fail
                      all_goals go_meet
                      all_goals exact ⟨rfl, rfl, nq, rfl⟩
                  obtain ⟨rfl, rfl, hd⟩ := hcut
                  obtain ⟨n, hn⟩ := hd.out
                  subst hn
                  obtain ⟨wc', hwc⟩ : ∃ X, X = wb.drewN n := ⟨_, rfl⟩
                  have bc : Below wb.heap.size wb wc' := by rw [hwc]; exact below_drawn wb n
                  have Lc' := hide (Lb.out.later bc)
                  have Oc := hide (own_later Ob.out bc)
                  have NC := hide ((bc.block C (lt_of_block NB.out)).trans NB.out)
                  rw [← hwc]
                  clear hd hwc bc BR JG b0 b1 b2 b3 zk HROW
                  obtain ⟨ao8, c8, ⟨b0, b1, b2, b3⟩, zk, hrow, -⟩ := Lc'.out.2.2.1.cells
                  obtain ⟨e0, e1⟩ := row2 NC.out
                  have zC : ∀ q, wc'.frozen? ⟨C, q, none⟩ = false := fun q => frozen_of_row wc' C q _ 56 NC.out
                  have kC : k ≠ C := by have := CB.out.1; have := Lc'.out.2.2.2.2.1; have := Lc'.out.2.2.2.2.2.1; omega
                  have Ck : C ≠ k := fun e => kC e.symm
                  rw [← HAA.out] at b1
                  have HL := hide Lc'.out.2.2.1.2.2.1
                  have AE := HAA.out
                  have LFT : Hid (∀ w2 s2, Lcd W w2 B k b s2 r2 r3 (.string sz) (.int .i64 (pa : Int)) (.int .i64 (lo : Int)) (.slice ao5 dn.length c5) → Lcd W (w2.setCell ⟨C, 1, none⟩ (.int .i64 av)) B k b s2 r2 r3 (.string sz) (.int .i64 (pa : Int)) (.int .i64 (lo : Int)) (.slice ao5 dn.length c5)) := fun w2 s2 h => h.grow (((Mv.refl w2 (fun j => r3 + 1 ≤ j)).set (g := C) (by have := CB.out.1; omega) 1 _))
                  have OFT : Hid (∀ w2, Mv wc' w2 (fun j => j = k) → (w2.setCell ⟨C, 1, none⟩ (.int .i64 av)).ownsRow (r3 + 1) 56 2 (.slice ao5 dn.length c5) dn.length (insC dn) ∧ (w2.setCell ⟨C, 1, none⟩ (.int .i64 av)).heap[C]? = some (.cells #[.int .i64 (o : Int), .int .i64 av] 56 (0, 0))) := fun w2 hm => by
                    have h1 := hm.own Oc.out (fun g e1 e2 => by have := (Oc.out.lt g e1).1; have := Lc'.out.2.2.2.2.1; have := Lc'.out.2.2.2.2.2.1; omega)
                    have h2 := hm.at NC.out Ck
                    exact ⟨((Mv.refl w2 (fun j => j = C)).set (g := C) rfl 1 _).own h1 (fun g e1 e2 => by have := CB.out.2 g e1; omega), heap_setCell_same w2 C 1 _ 56 _ h2⟩
                  by_cases hgs : gs = 0
                  · subst hgs
                    have E2 : Hid (st2 = ⟨st1.at', st1.left, true⟩) := by unfold Hid; rw [I1.out, SG.out]; unfold passR; simp
                    have m1 := (Mv.refl wc' (fun j => j = k)).set (g := k) rfl 2 (.bool true)
                    have m2 := m1.set (g := k) rfl 1 (.int .i64 (a : Int))
                    have R1 : Rdd (wc'.setCell ⟨k, 2, none⟩ (.bool true)) B k b ⟨st1.at', st1.left, true⟩ := Lc'.out.2.2.1.set hrow Lc'.out.2.2.1.2.1 HL.out rfl
                    have R2 : Rdd ((wc'.setCell ⟨k, 2, none⟩ (.bool true)).setCell ⟨k, 1, none⟩ (.int .i64 (a : Int))) B k b ⟨st1.at', st1.left, true⟩ := by
                      have h5 := heap_setCell_same wc' k 2 _ 80 (.bool true) hrow
                      exact R1.set (s := ⟨st1.at', st1.left, true⟩) h5 Lc'.out.2.2.1.2.1 HL.out (by rw [AE]; rfl)
                    have LL := LFT.out _ _ (Lc'.out.call R2 m2)
                    obtain ⟨oo, nn⟩ := OFT.out _ m2
                    have RR : Hid (RlD W (((wc'.setCell ⟨k, 2, none⟩ (.bool true)).setCell ⟨k, 1, none⟩ (.int .i64 (a : Int))).setCell ⟨C, 1, none⟩ (.int .i64 av)) B k b st2 r2 r3 (.string sz) (.int .i64 (pa : Int)) (.int .i64 (lo : Int)) (.slice ao5 dn.length c5) C o dn iv) := REL.out _ av (E2.out ▸ LL) nn oo (fun e => by rw [E2.out] at e; cases e)
                    clear m1 m2 R1 R2 LL oo nn hrow AE
                    go_wp2_with fail
                    go_meet
                    exact RR.out
                  · have E2 : Hid (st2 = ⟨st1.at' + gs, st1.left, false⟩) := by unfold Hid; rw [I1.out, SG.out]; unfold passR; simp [HB1.out, hgs]
                    have m2 := (Mv.refl wc' (fun j => j = k)).set (g := k) rfl 1 (.int .i64 ((a : Int) + (gs : Int)))
                    have R2 : Rdd (wc'.setCell ⟨k, 1, none⟩ (.int .i64 ((a : Int) + (gs : Int)))) B k b ⟨st1.at' + gs, st1.left, false⟩ := by
                      refine Lc'.out.2.2.1.set hrow (by show st1.at' + gs ≤ _; omega) HL.out ?_
                      have : ((a : Int) + (gs : Int)) = ((st1.at' + gs : Nat) : Int) := by omega
                      rw [this, HB1.out]
                      rfl
                    have LL := LFT.out _ _ (Lc'.out.call R2 m2)
                    obtain ⟨oo, nn⟩ := OFT.out _ m2
                    have RR : Hid (RlD W ((wc'.setCell ⟨k, 1, none⟩ (.int .i64 ((a : Int) + (gs : Int)))).setCell ⟨C, 1, none⟩ (.int .i64 av)) B k b st2 r2 r3 (.string sz) (.int .i64 (pa : Int)) (.int .i64 (lo : Int)) (.slice ao5 dn.length c5) C o dn iv) := REL.out _ av (E2.out ▸ LL) nn oo (fun _ => I2.out (by rw [← I1.out, E2.out]))
                    have t0 : ((gs : Int) == 0) = false := by rw [beq_eq_false_iff_ne]; omega
                    clear m2 R2 LL oo nn hrow AE
                    go_wp2_with fail
                    go_meet
                    exact RR.out
            obtain ⟨av, s2, s1, s3, s4⟩ := hcut.out
            clear hcut b0 b1 b2 b3 zk BR HROW NB Ob Lb REL IB IN IY hown hlc FR
            have CB' := CB.out
            obtain ⟨d0, d1⟩ := row2 s1
            obtain ⟨ic, hi, hz0, hz1, hz2⟩ := info_parts infoI
            obtain ⟨⟨x0, x1, x2, x3⟩, -⟩ := s2.row
            have bg := lt_of_block s2.2.1
            have S2 := hide s2
            have S4 := hide s4
            have hdn2 : dn.length ≤ 2000 := by have := HDN.out; omega
            have S3 := hide s3
            clear s1 s2 s4 CB'
            go_wp2_with (at_builtin; refine wpList_append_own _ rfl _ _ 43 rfl (r3 + 1) 56 ic (.agg #[.int .i64 0, .int .i64 0]) 2 16 Tryz.underlying43 hi hz0 hz1 hz2 rfl (by decide) _ _ _ rfl (s3.alloc _) ⟨wc.heap.size, 0, none⟩ 1 1 [.int .i64 (o : Int), .int .i64 av] rfl rfl ?c1 ?c2 ?c3 ?c4 ?c5 ?_)
            case c1 =>
              intro j u hj
              match j, hj with
              | 0, hj => simp at hj; subst hj; simp [Addr.add]
              | 1, hj => simp at hj; subst hj; simp [Addr.add]
            case c2 => intro u hu; simp at hu; rcases hu with rfl | rfl <;> rfl
            case c3 => unfold maxLen; omega
            case c4 => omega
            case c5 => simp; omega
            intro v' wd hown' hgrow _
            have hm8 := (Mv.of_below (below_alloc wc (.cells #[.int .i64 (o : Int), .int .i64 av] 56)) (fun j => r3 + 1 ≤ j)).grown hgrow (fun j _ e => (S3.out.lt j e).1)
            have L5 := S2.out.grow hm8
            obtain ⟨⟨v0, v1, v2, v3⟩, zf⟩ := L5.row
            obtain ⟨ao', c', rfl⟩ := own_len hown'
            obtain ⟨we, hwe⟩ : ∃ X, X = wd.setCell ⟨r3, 3, none⟩ (.slice ao' (dn.length + 1) c') := ⟨_, rfl⟩
            have L6 : Hid (Lcd W we B k b st2 r2 r3 (.string sz) (.int .i64 (pa : Int)) (.int .i64 (lo : Int)) (.slice ao' (dn.length + 1) c')) := by unfold Hid; rw [hwe]; exact L5.set rfl
            have T3 : Hid (we.ownsRow (r3 + 1) 56 2 (.slice ao' (dn.length + 1) c') (dn ++ [(⟨(o : Int), av⟩ : Ins)]).length (insC (dn ++ [(⟨(o : Int), av⟩ : Ins)]))) := by
              unfold Hid
              rw [show (dn ++ [(⟨(o : Int), av⟩ : Ins)]).length = dn.length + 1 by simp, insC_snoc, hwe]
              exact ((Mv.refl wd (fun j => j = r3)).set (g := r3) rfl 3 _).own hown' (fun j e1 e2 => by have := (hown'.lt j e1).1; omega)
            have HV3 : Hid (st2.bad = false → v = ⟨sz, (pa : Int), (lo : Int), (dn ++ [(⟨(o : Int), av⟩ : Ins)]) ++ codeVv b (cn - (j + 1)) st2⟩) := fun h => by rw [HV2.out h, S4.out h]
            clear L5 hm8 hown' hgrow x0 x1 x2 x3 d0 d1
            go_wp2_with fail
            rw [← hwe]
            clear hwe v0 v1 v2 v3 zf
            refine ⟨⟨j + 1, st2, dn ++ [(⟨(o : Int), av⟩ : Ins)], _, by push_cast; rfl, by omega, by rw [List.length_append, HDN.out]; rfl, HX2, HV3, T3, L6⟩, ?_⟩
            simp only [intOf]
            omega
        · have F2 := hide (FIN.out (.inr (by omega)))
          clear hx hv hbs hrow FIN hdn
          go_wp2_with fail
          exact bodyPost_ret (res_rt1 rfl rfl FR.out) rfl F2.out
end
end Go.Proofs.YtpolajoephjdhaaGreatDoor
