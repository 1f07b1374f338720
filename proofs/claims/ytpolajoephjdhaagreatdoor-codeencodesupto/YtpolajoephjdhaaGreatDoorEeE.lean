/-
  CodeEncodes.
-/
import Derived.Test.YtpolajoephjdhaaGreatDoorEeN
import Derived.BigQuiet
import Derived.Test.YtpolajoephjdhaaGreatDoorBkI
import Derived.Test.YtpolajoephjdhaaGreatDoorShD
namespace Go.Proofs.YtpolajoephjdhaaGreatDoor
open Go.RowKit
set_option maxRecDepth 1000000
set_option maxHeartbeats 32000000 in
theorem encodes_at {Q : Nat → Prop} {W : World} {ns cs nf cf : Nat} {sa fa : Option Addr} (sys : List Sy) (fns : List Rt) (hns : ns = sys.length) (hnf : nf = fns.length) (h1 : Sys Q W (.slice sa ns cs) sys) (h2 : Rts Q W (.slice fa nf cf) fns) (hk : Kd W) (b1 : ns ≤ 1048576) (b2 : nf ≤ 1048576) (z1 : ∀ s ∈ sys, s.run.name.size ≤ 9223372036854775807 ∧ s.wi.length ≤ 1048576 ∧ s.wo.length ≤ 1048576 ∧ s.re.length ≤ 1048576 ∧ s.wr.length ≤ 1048576 ∧ s.run.code.length ≤ 1048576) (z2 : ∀ r ∈ fns, r.name.size ≤ 9223372036854775807 ∧ r.code.length ≤ 1048576) : Calls Tryz.prog 4 #[.agg #[.slice sa ns cs, .slice fa nf cf]] W fun e w' => e = .returned (.bool true) ∧ Below W.heap.size W w' := by
  obtain ⟨lp, hlp, hpA⟩ := sys_list h1
  obtain ⟨lq, hlq, hqA⟩ := rts_list h2
  have hcs : ns ≤ cs ∧ cs ≤ 9223372036854775807 := by
    obtain ⟨a9, c9, e, h, h'⟩ := h1.at
    injection e with _ e2 e3
    omega
  have hcf : nf ≤ cf ∧ cf ≤ 9223372036854775807 := by
    obtain ⟨a9, c9, e, h, h'⟩ := h2.at
    injection e with _ e2 e3
    omega
  obtain ⟨w0, hw0⟩ : ∃ X, X = W.alloc (.cells #[.slice sa ns cs, .slice fa nf cf] 27) := ⟨_, rfl⟩
  obtain ⟨B, hB⟩ : ∃ X, X = W.heap.size := ⟨_, rfl⟩
  have B0 : Below W.heap.size W w0 := hw0 ▸ below_alloc W _
  have n0 : w0.heap[B]? = some (.cells #[.slice sa ns cs, .slice fa nf cf] 27 (0, 0)) := by rw [hw0, hB]; exact heap_alloc_new W _
  have AT : Hid (∀ w', Below w0.heap.size w0 w' → w'.cell? ⟨B, 0, none⟩ = some (.slice sa ns cs) ∧ w'.cell? ⟨B, 1, none⟩ = some (.slice fa nf cf)) := fun w' hb => row2 ((hb.block B (lt_of_block n0)).trans n0)
  have Y0 := hide B0
  have LPN : Hid (lp.length = ns) := by unfold Hid; rw [hns, ← hlp, List.length_map]
  have LQN : Hid (lq.length = nf) := by unfold Hid; rw [hnf, ← hlq, List.length_map]
  have PA : Hid (∀ w', Below w0.heap.size w0 w' → ∀ k (hk : k < lp.length), LpAt w' sa lp[k] k) := fun w' hb k hk => lp_at (hpA k hk) (below_on Y0.out hb)
  have QA : Hid (∀ w', Below w0.heap.size w0 w' → ∀ k (hk : k < lq.length), LqAt w' fa lq[k] k) := fun w' hb k hk => lq_at (hqA k hk) (below_on Y0.out hb)
  have KD : Hid (∀ w', Below w0.heap.size w0 w' → Kd w') := fun w' hb => hk.later (below_on Y0.out hb)
  have PG : Hid (∀ w', Below w0.heap.size w0 w' → Pgm Qt w' (.slice sa ns cs) (.slice fa nf cf) ⟨sys, fns⟩) := fun w' hb => ⟨sys_qt (h1.later (below_on Y0.out hb)), rts_qt (h2.later (below_on Y0.out hb))⟩
  have Z1 := hide z1
  have Z2 := hide z2
  have HLP := hide hlp
  have HLQ := hide hlq
  have SIX : Hid (Six ⟨sys, fns⟩) := six_of h1 h2
  obtain ⟨N, hN⟩ : ∃ N, N = w0.heap.size := ⟨_, rfl⟩
  have HNN := hide hN
  rw [← hN] at AT PA QA KD PG
  have J := hide (shown_any w0 (KD.out w0 (by rw [hN]; exact Below.refl _ _)))
  clear h1 h2 hk z1 z2 hns hnf hpA hqA hlp hlq n0 B0 hN
  go_enter Tryz.func4, Tryz.ntmps4
  go_upto_region 1 with fail
  rw [← hB, ← hw0]
  clear hw0 hB
  go_wp2_with fail
  refine J.out.mono ?_
  rintro e w1 ⟨rfl, b1', -⟩
  obtain ⟨w2, hw2⟩ : ∃ X, X = w1.alloc (.cells #[.slice none 0 0, .slice none 0 0] 27) := ⟨_, rfl⟩
  obtain ⟨Qb, hQb⟩ : ∃ X, X = w1.heap.size := ⟨_, rfl⟩
  have bb2 : Below w1.heap.size w1 w2 := hw2 ▸ below_alloc w1 _
  have LX0 : Hid (LX w0 w2 N Qb [] (.slice none 0 0) (.slice none 0 0) (.slice none 0 0) (.slice none 0 0) (.slice none 0 0) [] [] [] [] []) := by
    have hs := b1'.size
    refine ⟨?_, World.ownsRow_nil _ _ _ _, fun p hp => absurd hp (by simp), ⟨rfl, List.Pairwise.nil, fun i h => absurd h (by simp)⟩, World.ownsRow_nil _ _ _ _, World.ownsRow_nil _ _ _ _, World.ownsRow_nil _ _ _ _, fun g e => (by cases e), ?_, ?_, ?_⟩
    · rw [hw2, hQb]
      exact heap_alloc_new w1 _
    · rw [HNN.out]
      exact below_on b1' bb2
    · rw [HNN.out]
      exact Nat.le_refl _
    · rw [HNN.out, hQb]
      exact hs
  clear J b1' bb2
  go_upto_region 3 with fail
  rw [← hQb, ← hw2]
  clear hw2 hQb
  obtain ⟨ii, ki, kz0, kz1, kz2⟩ := info_parts infoLN
  obtain ⟨ic, hi, hz0, hz1, hz2⟩ := info_parts infoLI
  obtain ⟨iS, si, sz0, sz1, sz2⟩ := info_parts infoS
  obtain ⟨iR, ri, rz0, rz1, rz2⟩ := info_parts infoR
  go_wp2_with fail
  go_loopw [8, 5, 6, 7] (fun v8 v5 v6 v7 wr => ∃ (k : Nat) (ls : List (Sy × Sv)) (vs : Value), v8 = .int .i64 (k : Int) ∧ k ≤ ns ∧ Hid (ls.map Prod.fst = (lp.take k).map Prod.fst) ∧ Hid (LX w0 wr N Qb ls vs v5 v6 v7 (.slice none 0 0) (codesS ls) (ls.map fun p => p.1.run.code) ((codesS ls).map wideV) ((intsOf ls).map wideV) (intsOf (lp.take k)))) (fun v8 _ _ _ _ => ns - (intOf v8).toNat)
  case atStart => exact ⟨0, [], .slice none 0 0, rfl, by omega, rfl, LX0.out⟩
  case round =>
    obtain ⟨k, ls, vs, rfl, hk, hls, hL⟩ := hrel
    obtain ⟨x0, x1⟩ := AT.out wr hL.out.be
    by_cases hk2 : k < ns
    · have hkl : k < lp.length := by rw [LPN.out]; exact hk2
      obtain ⟨g, o, a1, m1, q1, a2, m2, q2, a3, m3, q3, a4, m4, q4, a5, m5, q5, rfl, e2, hm, ⟨d0, d1, d2, d3, d4, d5, d6, d7⟩, nn, hil, hc5⟩ := PA.out wr hL.out.be k hkl
      have ZK := Z1.out lp[k].1 (by rw [← HLP.out]; exact List.mem_map.2 ⟨_, List.getElem_mem hkl, rfl⟩)
      have TK : Hid ((lp.take (k + 1)).map Prod.fst = (lp.take k).map Prod.fst ++ [lp[k].1]) := by
        unfold Hid
        rw [List.take_succ_eq_append_getElem hkl, List.map_append]
        rfl
      have TI : Hid (intsOf (lp.take (k + 1)) = intsOf (lp.take k) ++ [.slice a1 m1 q1, .slice a2 m2 q2, .slice a3 m3 q3, .slice a4 m4 q4]) := by
        unfold Hid
        rw [List.take_succ_eq_append_getElem hkl, intsOf_snoc, e2]
      have NLW : Hid (∀ w', Below N w0 w' → (Nl Qt w' (.slice a1 m1 q1) lp[k].1.wi ∧ Nl Qt w' (.slice a2 m2 q2) lp[k].1.wo ∧ Nl Qt w' (.slice a3 m3 q3) lp[k].1.re ∧ Nl Qt w' (.slice a4 m4 q4) lp[k].1.wr) ∧ Il Qt w' (.slice a5 m5 q5) lp[k].1.run.code) := fun w' hb => by
        obtain ⟨g', o', b1, n1, r1, b2, n2, r2, b3, n3, r3, b4, n4, r4, b5, n5, r5, -, e2', -, -, nn', hil', -⟩ := PA.out w' hb k hkl
        rw [e2] at e2'
        injection e2' with f1 f2 f3 f4 f5
        injection f1 with f11 f12 f13
        injection f2 with f21 f22 f23
        injection f3 with f31 f32 f33
        injection f4 with f41 f42 f43
        injection f5 with f51 f52 f53
        subst f11 f12 f13 f21 f22 f23 f31 f32 f33 f41 f42 f43 f51 f52 f53
        exact ⟨nn', hil'⟩
      generalize lp[k].1 = sy at *
      obtain ⟨hm1, hm2, hm3, hm4, hm5⟩ := hm
      obtain ⟨zn, zz1, zz2, zz3, zz4, zz5⟩ := ZK
      have bm1 : m1 ≤ 1048576 := by omega
      have bm2 : m2 ≤ 1048576 := by omega
      have bm3 : m3 ≤ 1048576 := by omega
      have bm4 : m4 ≤ 1048576 := by omega
      have bm5 : m5 ≤ 1048576 := by omega
      have HM1 := hide hm1
      have HM2 := hide hm2
      have HM3 := hide hm3
      have HM4 := hide hm4
      have HM5 := hide hm5
      clear hm1 hm2 hm3 hm4 hm5 zn zz1 zz2 zz3 zz4 zz5
      have hk9 : (k : Int) < (ns : Int) := by omega
      have L5 : Hid (((codesS ls).map wideV).length = k ∧ ((intsOf ls).map wideV).length = k * 4 ∧ (intsOf (lp.take k)).length = k * 4 ∧ ls.length = k) := by
        have h := congrArg List.length hls.out
        rw [List.length_map, List.length_map, List.length_take] at h
        have : ls.length = k := by omega
        refine ⟨by simp [codesS, this], by rw [List.length_map, intsOf_len, this], by rw [intsOf_len, List.length_take]; omega, this⟩
      obtain ⟨x5, hx5⟩ : ∃ x, x = (codesS ls).map wideV := ⟨_, rfl⟩
      obtain ⟨x6, hx6⟩ : ∃ x, x = (intsOf ls).map wideV := ⟨_, rfl⟩
      obtain ⟨x7, hx7⟩ : ∃ x, x = intsOf (lp.take k) := ⟨_, rfl⟩
      rw [← hx5, ← hx6, ← hx7] at hL
      rw [← hx5, ← hx6, ← hx7] at L5
      rw [← hx7] at TI
      have HX5 := hide hx5
      have HX6 := hide hx6
      have hl5 := L5.out.1
      have hl6 := L5.out.2.1
      have hl7 := L5.out.2.2.1
      obtain ⟨u5, r5, rfl⟩ := own_len hL.out.r5
      obtain ⟨u6, r6, rfl⟩ := own_len hL.out.r6
      obtain ⟨u7, r7, rfl⟩ := own_len hL.out.r7
      obtain ⟨us, rs, rfl⟩ := own_len hL.out.rs
      obtain ⟨n5, hn5⟩ : ∃ n, n = x5.length := ⟨_, rfl⟩
      obtain ⟨n6, hn6⟩ : ∃ n, n = x6.length := ⟨_, rfl⟩
      obtain ⟨n7, hn7⟩ : ∃ n, n = x7.length := ⟨_, rfl⟩
      have HN5 := hide hn5
      have HN6 := hide hn6
      have HN7 := hide hn7
      rw [← hn5] at hl5
      rw [← hn6] at hl6
      rw [← hn7] at hl7
      have hb5 : n5 ≤ 1048576 := by omega
      have hb6 : n6 ≤ 4194304 := by omega
      have hb7 : n7 ≤ 4194304 := by omega
      rw [← hn5, ← hn6, ← hn7] at hL ⊢
      clear hl5 hl6 hl7 hx5 hx6 hx7 hn5 hn6 hn7
      obtain ⟨wa, hwa⟩ : ∃ X, X = wr.alloc (.cells #[.slice a1 m1 q1, .slice a2 m2 q2, .slice a3 m3 q3, .slice a4 m4 q4, .string sy.run.name, .int .i64 sy.run.pa, .int .i64 sy.run.lo, .slice a5 m5 q5] 47) := ⟨_, rfl⟩
      obtain ⟨T, hT⟩ : ∃ X, X = wr.heap.size := ⟨_, rfl⟩
      have bA : Below wr.heap.size wr wa := hwa ▸ below_alloc wr _
      have nA : wa.heap[T]? = some (.cells #[.slice a1 m1 q1, .slice a2 m2 q2, .slice a3 m3 q3, .slice a4 m4 q4, .string sy.run.name, .int .i64 sy.run.pa, .int .i64 sy.run.lo, .slice a5 m5 q5] 47 (0, 0)) := by rw [hwa, hT]; exact heap_alloc_new wr _
      have LXa := hide (hL.out.later bA)
      have NA := hide nA
      have TN : Hid (N ≤ T) := by unfold Hid; rw [hT]; exact Nat.le_trans hL.out.nw (by exact hL.out.be.size)
      have VT : Hid (∀ j, (Value.slice us ls.length rs).ownBlock = some j → j ≠ T) := fun j e e2 => by have := (hL.out.rs.lt j e).2; omega
      have CVW : Hid (∀ v ∈ codesS ls, ∀ j, v.ownBlock = some j → j < T) := fun v hv j e => by rw [hT]; exact (hL.out.codBlk v hv j e).2.1
      clear bA nA nn hil
      go_upto_region 10 with fail
      rw [← hT, ← hwa]
      clear hwa hT hL x0 x1 d0 d1 d2 d3 d4 d5 d6 d7
      obtain ⟨s0, s1, s2, s3, s4, s5, s6, s7⟩ := row8 NA.out
      have J := hide (lent_at sy.run.name sy.run.pa sy.run.lo sy.run.code HM5.out hc5.1 hc5.2 (NLW.out wa LXa.out.be).2 (by omega))
      go_wp2_with fail
      refine J.out.mono ?_
      rintro e wb0 ⟨gc, rfl, hgc, hrc, bb0⟩
      obtain ⟨wb, hwb⟩ : ∃ X, X = wb0.alloc (.cells #[.string sy.run.name, .int .i64 sy.run.pa, .int .i64 sy.run.lo, .slice (some ⟨gc, 0, none⟩) m5 (m5 + 80)] 45) := ⟨_, rfl⟩
      obtain ⟨T1, hT1⟩ : ∃ X, X = wb0.heap.size := ⟨_, rfl⟩
      have bB : Below wb0.heap.size wb0 wb := hwb ▸ below_alloc wb0 _
      have nB : wb.heap[T1]? = some (.cells #[.string sy.run.name, .int .i64 sy.run.pa, .int .i64 sy.run.lo, .slice (some ⟨gc, 0, none⟩) m5 (m5 + 80)] 45 (0, 0)) := by rw [hwb, hT1]; exact heap_alloc_new wb0 _
      have bAB := below_on bb0 bB
      have LXb := hide (LXa.out.later bAB)
      have GC : Hid (T < gc ∧ N ≤ gc) := by
        have := lt_of_block NA.out
        have := TN.out
        exact ⟨by omega, by omega⟩
      have NPb : Hid (NP wb N T T1 (.slice a1 m1 q1) (.slice a2 m2 q2) (.slice a3 m3 q3) (.slice a4 m4 q4) (.string sy.run.name) (.int .i64 sy.run.pa) (.int .i64 sy.run.lo) (.slice a5 m5 q5) (.string sy.run.name) (.int .i64 sy.run.pa) (.int .i64 sy.run.lo) (.slice (some ⟨gc, 0, none⟩) m5 (m5 + 80)) m5 (sy.run.code ++ List.replicate 80 mkI) []) := ⟨(bAB.block T (lt_of_block NA.out)).trans NA.out, nB, ⟨gc, rfl, GC.out.2, by rw [List.length_append, List.length_replicate, HM5.out], hrc.later bB⟩, fun q hq => absurd hq (by simp)⟩
      clear J hrc bb0 bB nB bAB hgc NA LXa s0 s1 s2 s3 s4 s5 s6 s7
      go_upto_region 11 with fail
      rw [← hT1, ← hwb]
      clear hwb hT1
      obtain ⟨s0, s1, s2, s3, s4, s5, s6, s7⟩ := row8 NPb.out.nt
      have q7 := LXb.out.r7
      rw [← HN7.out] at q7
      have qs := LXb.out.be.size
      have qn := LXb.out.nw
      go_wp2_with (at_builtin; refine wpList_append_keep rfl _ _ 41 rfl N 42 ii (.slice none 0 0) 1 24 Tryz.underlying41 ki kz0 kz1 kz2 rfl (by decide) _ _ _ rfl (q7.alloc _) ⟨wb.heap.size, 0, none⟩ 4 4 [.slice a1 m1 q1, .slice a2 m2 q2, .slice a3 m3 q3, .slice a4 m4 q4] rfl rfl ?c1 ?c2 ?c3 ?c4 ?c5 ?_)
      case c1 =>
        intro j u hj
        match j, hj with
        | 0, hj => simp at hj; subst hj; simp [Addr.add]
        | 1, hj => simp at hj; subst hj; simp [Addr.add]
        | 2, hj => simp at hj; subst hj; simp [Addr.add]
        | 3, hj => simp at hj; subst hj; simp [Addr.add]
      case c2 => intro u hu; simp at hu; (first | (subst hu; rfl) | (rcases hu with rfl | rfl <;> rfl) | (rcases hu with rfl | rfl | rfl <;> rfl) | (rcases hu with rfl | rfl | rfl | rfl <;> rfl) | (rcases hu with rfl | rfl | rfl | rfl | rfl <;> rfl) | (rcases hu with rfl | rfl | rfl | rfl | rfl | rfl <;> rfl) | (rcases hu with rfl | rfl | rfl | rfl | rfl | rfl | rfl <;> rfl) | (rcases hu with rfl | rfl | rfl | rfl | rfl | rfl | rfl | rfl <;> rfl))
      case c3 => unfold maxLen; omega
      case c4 => omega
      case c5 => simp; omega
      intro v7' wc hown7 hg7 hk7 _
      have mC := (Mv.of_below (below_alloc wb (.cells #[.slice a1 m1 q1, .slice a2 m2 q2, .slice a3 m3 q3, .slice a4 m4 q4] 42)) (fun j => (Value.slice u7 n7 r7).ownBlock = some j)).grown hg7 (fun j _ e => e)
      have LXc : Hid (LX w0 wc N Qb ls (.slice us ls.length rs) (.slice u5 n5 r5) (.slice u6 n6 r6) v7' (.slice none 0 0) (codesS ls) (ls.map fun p => p.1.run.code) x5 x6 (x7 ++ [.slice a1 m1 q1, .slice a2 m2 q2, .slice a3 m3 q3, .slice a4 m4 q4])) := by
        refine LXb.out.turn7 mC (by rw [List.length_append, ← HN7.out]; exact hown7) (fun j e => ?_)
        rcases hk7 with e1 | e1
        · exact .inr (e1 ▸ e)
        · rw [e] at e1
          injection e1 with e1
          exact .inl (by omega)
      have NPc := hide (NPb.out.row LXb.out.r7 (by decide) (by decide) (by decide) (by decide) mC)
      clear q7 qs qn hown7 hg7 hk7 mC s0 s1 s2 s3 s4 s5 s6 s7 NPb LXb
      have hx6l : x6.length ≤ 4194304 := by rw [← HN6.out]; exact hb6
      obtain ⟨s0, s1, s2, s3, s4, s5, s6, s7⟩ := row8 NPc.out.nt
      have J := hide (lset_at sy.wi (NLW.out wc LXc.out.be).1.1 (by omega) LXc.out.r6 (Nat.le_trans LXc.out.nw LXc.out.be.size) (by first | omega | (simp only [List.length_append, List.length_cons, List.length_nil]; omega)))
      go_wp2_with fail
      refine J.out.mono ?_
      rintro e wd0 ⟨g1, v61, rfl, hg, hr, ho, mm, hb⟩
      have LXd0 := hide (LXc.out.turn6 (y6 := x6 ++ [.slice (some ⟨g1, 0, none⟩) (m1 + 80) (m1 + 80)]) mm (by rw [List.length_append]; exact ho) hb)
      have NPd0 := hide ((NPc.out.row LXc.out.r6 (by decide) (by decide) (by decide) (by decide) mm).push (l := sy.wi) (v := .slice (some ⟨g1, 0, none⟩) m1 (m1 + 80)) ⟨g1, by rw [← HM1.out], Nat.le_trans (Nat.le_trans LXc.out.nw LXc.out.be.size) hg, hr⟩)
      obtain ⟨we0, hwe0⟩ : ∃ X, X = wd0.setCell ⟨T, 0, none⟩ (.slice (some ⟨g1, 0, none⟩) m1 (m1 + 80)) := ⟨_, rfl⟩
      have LXe0 := hide (LXd0.out.turnT NPd0.out.nt (.inl rfl) TN.out VT.out ((Mv.refl wd0 (fun j => j = T)).set (g := T) rfl 0 (.slice (some ⟨g1, 0, none⟩) m1 (m1 + 80))))
      rw [← hwe0] at LXe0
      have NPe0 := hide (NPd0.out.setT (i := 0) (v := .slice (some ⟨g1, 0, none⟩) m1 (m1 + 80)) rfl)
      rw [← hwe0] at NPe0
      clear J hg hr ho mm hb s0 s1 s2 s3 s4 s5 s6 s7 NPc LXc
      obtain ⟨s0, s1, s2, s3, s4, s5, s6, s7⟩ := row8 NPd0.out.nt
      have zT : ∀ q, wd0.frozen? ⟨T, q, none⟩ = false := fun q => frozen_of_row wd0 T q _ 47 NPd0.out.nt
      go_upto_region 13 with fail
      rw [← hwe0]
      clear hwe0 s0 s1 s2 s3 s4 s5 s6 s7 zT NPd0 LXd0
      obtain ⟨s0, s1, s2, s3, s4, s5, s6, s7⟩ := row8 NPe0.out.nt
      have J := hide (lset_at sy.wo (NLW.out we0 LXe0.out.be).1.2.1 (by omega) LXe0.out.r6 (Nat.le_trans LXe0.out.nw LXe0.out.be.size) (by first | omega | (simp only [List.length_append, List.length_cons, List.length_nil]; omega)))
      go_wp2_with fail
      refine J.out.mono ?_
      rintro e wd1 ⟨g2, v62, rfl, hg, hr, ho, mm, hb⟩
      have LXd1 := hide (LXe0.out.turn6 (y6 := x6 ++ [.slice (some ⟨g1, 0, none⟩) (m1 + 80) (m1 + 80)] ++ [.slice (some ⟨g2, 0, none⟩) (m2 + 80) (m2 + 80)]) mm (by rw [List.length_append]; exact ho) hb)
      have NPd1 := hide ((NPe0.out.row LXe0.out.r6 (by decide) (by decide) (by decide) (by decide) mm).push (l := sy.wo) (v := .slice (some ⟨g2, 0, none⟩) m2 (m2 + 80)) ⟨g2, by rw [← HM2.out], Nat.le_trans (Nat.le_trans LXe0.out.nw LXe0.out.be.size) hg, hr⟩)
      obtain ⟨we1, hwe1⟩ : ∃ X, X = wd1.setCell ⟨T, 1, none⟩ (.slice (some ⟨g2, 0, none⟩) m2 (m2 + 80)) := ⟨_, rfl⟩
      have LXe1 := hide (LXd1.out.turnT NPd1.out.nt (.inl rfl) TN.out VT.out ((Mv.refl wd1 (fun j => j = T)).set (g := T) rfl 1 (.slice (some ⟨g2, 0, none⟩) m2 (m2 + 80))))
      rw [← hwe1] at LXe1
      have NPe1 := hide (NPd1.out.setT (i := 1) (v := .slice (some ⟨g2, 0, none⟩) m2 (m2 + 80)) rfl)
      rw [← hwe1] at NPe1
      clear J hg hr ho mm hb s0 s1 s2 s3 s4 s5 s6 s7 NPe0 LXe0
      obtain ⟨s0, s1, s2, s3, s4, s5, s6, s7⟩ := row8 NPd1.out.nt
      have zT : ∀ q, wd1.frozen? ⟨T, q, none⟩ = false := fun q => frozen_of_row wd1 T q _ 47 NPd1.out.nt
      go_upto_region 14 with fail
      rw [← hwe1]
      clear hwe1 s0 s1 s2 s3 s4 s5 s6 s7 zT NPd1 LXd1
      obtain ⟨s0, s1, s2, s3, s4, s5, s6, s7⟩ := row8 NPe1.out.nt
      have J := hide (lset_at sy.re (NLW.out we1 LXe1.out.be).1.2.2.1 (by omega) LXe1.out.r6 (Nat.le_trans LXe1.out.nw LXe1.out.be.size) (by first | omega | (simp only [List.length_append, List.length_cons, List.length_nil]; omega)))
      go_wp2_with fail
      refine J.out.mono ?_
      rintro e wd2 ⟨g3, v63, rfl, hg, hr, ho, mm, hb⟩
      have LXd2 := hide (LXe1.out.turn6 (y6 := x6 ++ [.slice (some ⟨g1, 0, none⟩) (m1 + 80) (m1 + 80)] ++ [.slice (some ⟨g2, 0, none⟩) (m2 + 80) (m2 + 80)] ++ [.slice (some ⟨g3, 0, none⟩) (m3 + 80) (m3 + 80)]) mm (by rw [List.length_append]; exact ho) hb)
      have NPd2 := hide ((NPe1.out.row LXe1.out.r6 (by decide) (by decide) (by decide) (by decide) mm).push (l := sy.re) (v := .slice (some ⟨g3, 0, none⟩) m3 (m3 + 80)) ⟨g3, by rw [← HM3.out], Nat.le_trans (Nat.le_trans LXe1.out.nw LXe1.out.be.size) hg, hr⟩)
      obtain ⟨we2, hwe2⟩ : ∃ X, X = wd2.setCell ⟨T, 2, none⟩ (.slice (some ⟨g3, 0, none⟩) m3 (m3 + 80)) := ⟨_, rfl⟩
      have LXe2 := hide (LXd2.out.turnT NPd2.out.nt (.inl rfl) TN.out VT.out ((Mv.refl wd2 (fun j => j = T)).set (g := T) rfl 2 (.slice (some ⟨g3, 0, none⟩) m3 (m3 + 80))))
      rw [← hwe2] at LXe2
      have NPe2 := hide (NPd2.out.setT (i := 2) (v := .slice (some ⟨g3, 0, none⟩) m3 (m3 + 80)) rfl)
      rw [← hwe2] at NPe2
      clear J hg hr ho mm hb s0 s1 s2 s3 s4 s5 s6 s7 NPe1 LXe1
      obtain ⟨s0, s1, s2, s3, s4, s5, s6, s7⟩ := row8 NPd2.out.nt
      have zT : ∀ q, wd2.frozen? ⟨T, q, none⟩ = false := fun q => frozen_of_row wd2 T q _ 47 NPd2.out.nt
      go_upto_region 15 with fail
      rw [← hwe2]
      clear hwe2 s0 s1 s2 s3 s4 s5 s6 s7 zT NPd2 LXd2
      obtain ⟨s0, s1, s2, s3, s4, s5, s6, s7⟩ := row8 NPe2.out.nt
      have J := hide (lset_at sy.wr (NLW.out we2 LXe2.out.be).1.2.2.2 (by omega) LXe2.out.r6 (Nat.le_trans LXe2.out.nw LXe2.out.be.size) (by first | omega | (simp only [List.length_append, List.length_cons, List.length_nil]; omega)))
      go_wp2_with fail
      refine J.out.mono ?_
      rintro e wd3 ⟨g4, v64, rfl, hg, hr, ho, mm, hb⟩
      have LXd3 := hide (LXe2.out.turn6 (y6 := x6 ++ [.slice (some ⟨g1, 0, none⟩) (m1 + 80) (m1 + 80)] ++ [.slice (some ⟨g2, 0, none⟩) (m2 + 80) (m2 + 80)] ++ [.slice (some ⟨g3, 0, none⟩) (m3 + 80) (m3 + 80)] ++ [.slice (some ⟨g4, 0, none⟩) (m4 + 80) (m4 + 80)]) mm (by rw [List.length_append]; exact ho) hb)
      have NPd3 := hide ((NPe2.out.row LXe2.out.r6 (by decide) (by decide) (by decide) (by decide) mm).push (l := sy.wr) (v := .slice (some ⟨g4, 0, none⟩) m4 (m4 + 80)) ⟨g4, by rw [← HM4.out], Nat.le_trans (Nat.le_trans LXe2.out.nw LXe2.out.be.size) hg, hr⟩)
      obtain ⟨we3, hwe3⟩ : ∃ X, X = wd3.setCell ⟨T, 3, none⟩ (.slice (some ⟨g4, 0, none⟩) m4 (m4 + 80)) := ⟨_, rfl⟩
      have LXe3 := hide (LXd3.out.turnT NPd3.out.nt (.inl rfl) TN.out VT.out ((Mv.refl wd3 (fun j => j = T)).set (g := T) rfl 3 (.slice (some ⟨g4, 0, none⟩) m4 (m4 + 80))))
      rw [← hwe3] at LXe3
      have NPe3 := hide (NPd3.out.setT (i := 3) (v := .slice (some ⟨g4, 0, none⟩) m4 (m4 + 80)) rfl)
      rw [← hwe3] at NPe3
      clear J hg hr ho mm hb s0 s1 s2 s3 s4 s5 s6 s7 NPe2 LXe2
      obtain ⟨s0, s1, s2, s3, s4, s5, s6, s7⟩ := row8 NPd3.out.nt
      have zT : ∀ q, wd3.frozen? ⟨T, q, none⟩ = false := fun q => frozen_of_row wd3 T q _ 47 NPd3.out.nt
      go_upto_region 16 with fail
      rw [← hwe3]
      clear hwe3 s0 s1 s2 s3 s4 s5 s6 s7 zT NPd3 LXd3
      obtain ⟨s0, s1, s2, s3, s4, s5, s6, s7⟩ := row8 NPe3.out.nt
      obtain ⟨t0, t1, t2, t3⟩ := row4 NPe3.out.n1
      have zT : ∀ q, we3.frozen? ⟨T, q, none⟩ = false := fun q => frozen_of_row we3 T q _ 47 NPe3.out.nt
      obtain ⟨wf, hwf⟩ : ∃ X, X = (((we3.setCell ⟨T, 4, none⟩ (.string sy.run.name)).setCell ⟨T, 5, none⟩ (.int .i64 sy.run.pa)).setCell ⟨T, 6, none⟩ (.int .i64 sy.run.lo)).setCell ⟨T, 7, none⟩ (.slice (some ⟨gc, 0, none⟩) m5 (m5 + 80)) := ⟨_, rfl⟩
      have NPf0 := NPe3.out.setT (i := 4) (v := .string sy.run.name) rfl
      have NPf1 := NPf0.setT (i := 5) (v := .int .i64 sy.run.pa) rfl
      have NPf2 := NPf1.setT (i := 6) (v := .int .i64 sy.run.lo) rfl
      have NPf := hide (NPf2.setT (i := 7) (v := .slice (some ⟨gc, 0, none⟩) m5 (m5 + 80)) rfl)
      have LXf := hide (LXe3.out.turnT NPe3.out.nt (.inl rfl) TN.out VT.out (((((Mv.refl we3 (fun j => j = T)).set (g := T) rfl 4 (.string sy.run.name)).set (g := T) rfl 5 (.int .i64 sy.run.pa)).set (g := T) rfl 6 (.int .i64 sy.run.lo)).set (g := T) rfl 7 (.slice (some ⟨gc, 0, none⟩) m5 (m5 + 80))))
      rw [← hwf] at LXf
      rw [← hwf] at NPf
      clear NPf0 NPf1 NPf2
      go_upto_region 17 with fail
      rw [← hwf]
      clear hwf s0 s1 s2 s3 s4 s5 s6 s7 t0 t1 t2 t3 zT NPe3 LXe3
      have q5' := LXf.out.r5
      rw [← HN5.out] at q5'
      have qs := LXf.out.be.size
      have qn := LXf.out.nw
      go_wp2_with (at_builtin; refine wpList_append_keep rfl _ _ 40 rfl N 43 ic (.slice none 0 0) 1 24 Tryz.underlying40 hi hz0 hz1 hz2 rfl (by decide) _ _ _ rfl (q5'.alloc _) ⟨wf.heap.size, 0, none⟩ 1 1 [.slice (some ⟨gc, 0, none⟩) (m5 + 80) (m5 + 80)] rfl rfl ?f1 ?f2 ?f3 ?f4 ?f5 ?_)
      case f1 =>
        intro j u hj
        match j, hj with
        | 0, hj => simp at hj; subst hj; simp [Addr.add]
      case f2 => intro u hu; simp at hu; (first | (subst hu; rfl) | (rcases hu with rfl | rfl <;> rfl) | (rcases hu with rfl | rfl | rfl <;> rfl) | (rcases hu with rfl | rfl | rfl | rfl <;> rfl) | (rcases hu with rfl | rfl | rfl | rfl | rfl <;> rfl) | (rcases hu with rfl | rfl | rfl | rfl | rfl | rfl <;> rfl) | (rcases hu with rfl | rfl | rfl | rfl | rfl | rfl | rfl <;> rfl) | (rcases hu with rfl | rfl | rfl | rfl | rfl | rfl | rfl | rfl <;> rfl))
      case f3 => unfold maxLen; omega
      case f4 => omega
      case f5 => simp; omega
      intro v5' wg hown5 hg5 hk5 _
      have mG := (Mv.of_below (below_alloc wf (.cells #[.slice (some ⟨gc, 0, none⟩) (m5 + 80) (m5 + 80)] 43)) (fun j => (Value.slice u5 n5 r5).ownBlock = some j)).grown hg5 (fun j _ e => e)
      have LXg := hide (LXf.out.turn5 (y5 := x5 ++ [.slice (some ⟨gc, 0, none⟩) (m5 + 80) (m5 + 80)]) mG (by rw [List.length_append, ← HN5.out]; exact hown5))
      have NPg := hide (NPf.out.row LXf.out.r5 (by decide) (by decide) (by decide) (by decide) mG)
      clear q5' qs qn hown5 hg5 hk5 mG NPf LXf
      obtain ⟨s0, s1, s2, s3, s4, s5, s6, s7⟩ := row8 NPg.out.nt
      obtain ⟨x0, x1⟩ := row2 LXg.out.qb
      have qr := LXg.out.rs
      have hlk := L5.out.2.2.2
      have hlb : ls.length ≤ 1048576 := by omega
      have qs := LXg.out.be.size
      have qn := LXg.out.nw
      have zQ : ∀ (w : World) (cs : Array Value) q, w.heap[Qb]? = some (.cells cs 27 (0, 0)) → w.frozen? ⟨Qb, q, none⟩ = false := fun w cs q h => frozen_of_row w Qb q _ 27 h
      have LQ := hide LXg.out.qb
      clear hlk
      go_wp2_with (at_builtin; refine wpList_append_keep rfl _ _ 24 rfl N 47 iS (.agg #[.slice none 0 0, .slice none 0 0, .slice none 0 0, .slice none 0 0, .string ByteArray.empty, .int .i64 0, .int .i64 0, .slice none 0 0]) 8 152 Tryz.underlying24 si sz0 sz1 sz2 rfl (by decide) _ _ _ rfl (qr.alloc _) ⟨wg.heap.size, 0, none⟩ 1 1 [.slice (some ⟨g1, 0, none⟩) m1 (m1 + 80), .slice (some ⟨g2, 0, none⟩) m2 (m2 + 80), .slice (some ⟨g3, 0, none⟩) m3 (m3 + 80), .slice (some ⟨g4, 0, none⟩) m4 (m4 + 80), .string sy.run.name, .int .i64 sy.run.pa, .int .i64 sy.run.lo, .slice (some ⟨gc, 0, none⟩) m5 (m5 + 80)] rfl rfl ?p1 ?p2 ?p3 ?p4 ?p5 ?_)
      case p1 =>
        intro j u hj
        match j, hj with
        | 0, hj => simp at hj; subst hj; simp [Addr.add]
        | 1, hj => simp at hj; subst hj; simp [Addr.add]
        | 2, hj => simp at hj; subst hj; simp [Addr.add]
        | 3, hj => simp at hj; subst hj; simp [Addr.add]
        | 4, hj => simp at hj; subst hj; simp [Addr.add]
        | 5, hj => simp at hj; subst hj; simp [Addr.add]
        | 6, hj => simp at hj; subst hj; simp [Addr.add]
        | 7, hj => simp at hj; subst hj; simp [Addr.add]
      case p2 => intro u hu; simp at hu; (first | (subst hu; rfl) | (rcases hu with rfl | rfl <;> rfl) | (rcases hu with rfl | rfl | rfl <;> rfl) | (rcases hu with rfl | rfl | rfl | rfl <;> rfl) | (rcases hu with rfl | rfl | rfl | rfl | rfl <;> rfl) | (rcases hu with rfl | rfl | rfl | rfl | rfl | rfl <;> rfl) | (rcases hu with rfl | rfl | rfl | rfl | rfl | rfl | rfl <;> rfl) | (rcases hu with rfl | rfl | rfl | rfl | rfl | rfl | rfl | rfl <;> rfl))
      case p3 => unfold maxLen; omega
      case p4 => omega
      case p5 => simp; omega
      intro vs' wh hownS hgS hkS _
      obtain ⟨us', rs', rfl⟩ := own_len hownS
      have mH := (Mv.of_below (below_alloc wg (.cells #[.slice (some ⟨g1, 0, none⟩) m1 (m1 + 80), .slice (some ⟨g2, 0, none⟩) m2 (m2 + 80), .slice (some ⟨g3, 0, none⟩) m3 (m3 + 80), .slice (some ⟨g4, 0, none⟩) m4 (m4 + 80), .string sy.run.name, .int .i64 sy.run.pa, .int .i64 sy.run.lo, .slice (some ⟨gc, 0, none⟩) m5 (m5 + 80)] 47)) (fun j => (Value.slice us ls.length rs).ownBlock = some j)).grown hgS (fun j _ e => e)
      have LXh := hide (LXg.out.turnS (vs' := .slice us' (ls.length + 1) rs') (vc := .slice (some ⟨gc, 0, none⟩) m5 (m5 + 80)) (p := (sy, ⟨.slice (some ⟨g1, 0, none⟩) m1 (m1 + 80), .slice (some ⟨g2, 0, none⟩) m2 (m2 + 80), .slice (some ⟨g3, 0, none⟩) m3 (m3 + 80), .slice (some ⟨g4, 0, none⟩) m4 (m4 + 80), .slice (some ⟨gc, 0, none⟩) m5 (m5 + 80)⟩)) (c := sy.run.code) mH (by rw [sysC_snoc, List.length_append]; exact hownS) (by
        have s1 : ∀ {l : List Int} {v : Value}, SetIn wg N l v → SetIn wh N l v := fun hh => hh.mv mH (fun j e e2 => by
          obtain ⟨-, -, cs, hc⟩ := hh.blk j e
          exact own_not LXg.out.rs hc (by decide) e2)
        have si := NPg.out.si
        exact ⟨s1 (si (sy.wi, .slice (some ⟨g1, 0, none⟩) m1 (m1 + 80)) (by simp)), s1 (si (sy.wo, .slice (some ⟨g2, 0, none⟩) m2 (m2 + 80)) (by simp)), s1 (si (sy.re, .slice (some ⟨g3, 0, none⟩) m3 (m3 + 80)) (by simp)), s1 (si (sy.wr, .slice (some ⟨g4, 0, none⟩) m4 (m4 + 80)) (by simp))⟩) (by
        have h := NPg.out.ci
        rw [HM5.out] at h
        rw [HM5.out]
        exact h) (fun u hu g' e1 e2 => by
        have h1 := CVW.out u hu g' e1
        have h2 := GC.out.1
        have : gc = g' := by simpa [Value.ownBlock] using e2
        omega))
      have y0 := (row2 (mH.at LQ.out (fun e => own_not LXg.out.rs LQ.out (by decide) e))).1
      have zq := zQ wh _ 0 (mH.at LQ.out (fun e => own_not LXg.out.rs LQ.out (by decide) e))
      clear qr qs qn hownS hgS hkS mH s0 s1 s2 s3 s4 s5 s6 s7 x0 x1 zQ LQ NPg LXg
      go_wp2_with fail
      refine ⟨⟨k + 1, ls ++ [(sy, ⟨.slice (some ⟨g1, 0, none⟩) m1 (m1 + 80), .slice (some ⟨g2, 0, none⟩) m2 (m2 + 80), .slice (some ⟨g3, 0, none⟩) m3 (m3 + 80), .slice (some ⟨g4, 0, none⟩) m4 (m4 + 80), .slice (some ⟨gc, 0, none⟩) m5 (m5 + 80)⟩)], .slice us' (ls.length + 1) rs', by go_num, by omega, ?_, ?_⟩, by simp [intOf]; omega⟩
      · show List.map Prod.fst _ = _
        rw [List.map_append, hls.out, TK.out]
        rfl
      · have h := LXh.out
        show LX _ _ _ _ _ _ _ _ _ _ _ _ _ _ _
        rw [codesS_snoc, intsOf_snoc, List.map_append, List.map_append, List.map_append, ← HX5.out, ← HX6.out, TI.out]
        simpa [wideV, List.append_assoc] using h
    · obtain rfl : ns = k := by omega
      have SL : Hid (ls.map Prod.fst = sys) := by
        have h := hls.out
        rw [← LPN.out, List.take_length, HLP.out] at h
        exact h
      obtain ⟨u5, r5, rfl⟩ := own_len hL.out.r5
      obtain ⟨u6, r6, rfl⟩ := own_len hL.out.r6
      obtain ⟨u7, r7, rfl⟩ := own_len hL.out.r7
      obtain ⟨us, rs, rfl⟩ := own_len hL.out.rs
      have L5 : Hid (((codesS ls).map wideV).length = ns ∧ ((intsOf ls).map wideV).length = ns * 4 ∧ (intsOf (lp.take ns)).length = ns * 4 ∧ ls.length = ns) := by
        have h := congrArg List.length SL.out
        rw [List.length_map, ← HLP.out, List.length_map, LPN.out] at h
        exact ⟨by simp [codesS, h], by rw [List.length_map, intsOf_len, h], by rw [intsOf_len, List.length_take, LPN.out]; omega, h⟩
      have TI : Hid (intsOf (lp.take ns) = intsOf lp) := by
        unfold Hid
        rw [← LPN.out, List.take_length]
      rw [TI.out] at hL L5
      obtain ⟨x6, hx6⟩ : ∃ x, x = (intsOf ls).map wideV := ⟨_, rfl⟩
      obtain ⟨x7, hx7⟩ : ∃ x, x = intsOf lp := ⟨_, rfl⟩
      have LX2 : Hid (LX w0 wr N Qb ls (.slice us ls.length rs) (.slice u5 ns r5) (.slice u6 (ns * 4) r6) (.slice u7 (ns * 4) r7) (.slice none 0 0) (codesS ls ++ codesR []) (codLs ls []) ((codesS ls ++ codesR []).map wideV) x6 x7) := by
        have h := hL.out
        rw [L5.out.1, L5.out.2.1, L5.out.2.2.1, ← hx6, ← hx7] at h
        simpa [codesR, codLs, Hid] using h
      rw [TI.out, L5.out.1, L5.out.2.1, L5.out.2.2.1]
      have HX6 := hide hx6
      have HX7 := hide hx7
      clear hL hx6 hx7 hls LX0
      go_wp2_with fail
      go_loopw [12, 5] (fun v12 v5 wr => ∃ (k : Nat) (lf : List (Rt × Value)) (vf : Value), v12 = .int .i64 (k : Int) ∧ k ≤ nf ∧ Hid (lf.map Prod.fst = (lq.take k).map Prod.fst) ∧ Hid (LX w0 wr N Qb ls (.slice us ls.length rs) v5 (.slice u6 (ns * 4) r6) (.slice u7 (ns * 4) r7) vf (codesS ls ++ codesR lf) (codLs ls lf) ((codesS ls ++ codesR lf).map wideV) x6 x7) ∧ Hid (wr.ownsRow N 45 4 vf lf.length (rtsC lf))) (fun v12 _ _ => nf - (intOf v12).toNat)
      case atStart => exact ⟨0, [], .slice none 0 0, rfl, by omega, rfl, LX2.out, World.ownsRow_nil _ _ _ _⟩
      case round =>
        obtain ⟨k, lf, vf, rfl, hk, hlf, hL, hF⟩ := hrel
        obtain ⟨x0, x1⟩ := AT.out wr hL.out.be
        by_cases hk2 : k < nf
        · have hkl : k < lq.length := by rw [LQN.out]; exact hk2
          obtain ⟨g, o, a5, m5, q5, rfl, e2, hm5, ⟨d0, d1, d2, d3⟩, hil, hc5⟩ := QA.out wr hL.out.be k hkl
          have ZK := (Z2.out lq[k].1 (by rw [← HLQ.out]; exact List.mem_map.2 ⟨_, List.getElem_mem hkl, rfl⟩)).2
          have TK : Hid ((lq.take (k + 1)).map Prod.fst = (lq.take k).map Prod.fst ++ [lq[k].1]) := by
            unfold Hid
            rw [List.take_succ_eq_append_getElem hkl, List.map_append]
            rfl
          generalize lq[k].1 = r at *
          have bm5 : m5 ≤ 1048576 := by omega
          have HM5 := hide hm5
          have hk9 : (k : Int) < (nf : Int) := by omega
          have LL : Hid (lf.length = k ∧ ((codesS ls ++ codesR lf).map wideV).length = ns + k) := by
            have h := congrArg List.length hlf.out
            rw [List.length_map, List.length_map, List.length_take] at h
            have h1 : lf.length = k := by omega
            exact ⟨h1, by simp [codesS, codesR, h1, L5.out.2.2.2]⟩
          have J := hide (lent_at r.name r.pa r.lo r.code hm5 hc5.1 hc5.2 hil (by omega))
          obtain ⟨x5, hx5⟩ : ∃ x, x = (codesS ls ++ codesR lf).map wideV := ⟨_, rfl⟩
          rw [← hx5] at hL LL
          have HX5 := hide hx5
          obtain ⟨u5', r5', rfl⟩ := own_len hL.out.r5
          obtain ⟨uf, rf, rfl⟩ := own_len hF.out
          rw [LL.out.2] at hL ⊢
          have hlf1 := LL.out.1
          have LXa := hide hL.out
          have CVW : Hid (∀ v ∈ codesS ls ++ codesR lf, ∀ j, v.ownBlock = some j → j < wr.heap.size) := fun v hv j e => (hL.out.codBlk v hv j e).2.1
          clear hm5 ZK hil hx5 hL
          go_wp2_with fail
          refine J.out.mono ?_
          rintro e wb0 ⟨gc, rfl, hgc, hrc, bb0⟩
          obtain ⟨wb, hwb⟩ : ∃ X, X = wb0.alloc (.cells #[.string r.name, .int .i64 r.pa, .int .i64 r.lo, .slice (some ⟨gc, 0, none⟩) m5 (m5 + 80)] 45) := ⟨_, rfl⟩
          obtain ⟨T1, hT1⟩ : ∃ X, X = wb0.heap.size := ⟨_, rfl⟩
          have bB : Below wb0.heap.size wb0 wb := hwb ▸ below_alloc wb0 _
          have nB : wb.heap[T1]? = some (.cells #[.string r.name, .int .i64 r.pa, .int .i64 r.lo, .slice (some ⟨gc, 0, none⟩) m5 (m5 + 80)] 45 (0, 0)) := by rw [hwb, hT1]; exact heap_alloc_new wb0 _
          have bAB := below_on bb0 bB
          have LXb := hide (LXa.out.later bAB)
          have Fb := hide (own_later hF.out bAB)
          have GC : Hid (wr.heap.size ≤ gc ∧ N ≤ gc) := by
            have := LXa.out.nw
            have := LXa.out.be.size
            exact ⟨by omega, by omega⟩
          have CIb : Hid (CodIn wb N m5 (r.code ++ List.replicate 80 mkI) (.slice (some ⟨gc, 0, none⟩) m5 (m5 + 80))) := ⟨gc, rfl, GC.out.2, by rw [List.length_append, List.length_replicate, HM5.out], hrc.later bB⟩
          have NB := hide nB
          have FT : Hid (∀ j, (Value.slice uf lf.length rf).ownBlock = some j → j ≠ T1) := fun j e e2 => by
            have := (hF.out.lt j e).2
            have := bb0.size
            omega
          clear J hrc bb0 bB nB bAB hgc LXa hF
          go_upto_region 23 with fail
          rw [← hT1, ← hwb]
          clear hwb hT1 x0 x1 d0 d1 d2 d3
          have q5' := LXb.out.r5
          rw [LL.out.2] at q5'
          have qs := LXb.out.be.size
          have qn := LXb.out.nw
          go_wp2_with (at_builtin; refine wpList_append_keep rfl _ _ 40 rfl N 43 ic (.slice none 0 0) 1 24 Tryz.underlying40 hi hz0 hz1 hz2 rfl (by decide) _ _ _ rfl (q5'.alloc _) ⟨wb.heap.size, 0, none⟩ 1 1 [.slice (some ⟨gc, 0, none⟩) (m5 + 80) (m5 + 80)] rfl rfl ?r1 ?r2 ?r3 ?r4 ?r5 ?_)
          case r1 =>
            intro j u hj
            match j, hj with
            | 0, hj => simp at hj; subst hj; simp [Addr.add]
          case r2 => intro u hu; simp at hu; (first | (subst hu; rfl) | (rcases hu with rfl | rfl <;> rfl) | (rcases hu with rfl | rfl | rfl <;> rfl) | (rcases hu with rfl | rfl | rfl | rfl <;> rfl) | (rcases hu with rfl | rfl | rfl | rfl | rfl <;> rfl) | (rcases hu with rfl | rfl | rfl | rfl | rfl | rfl <;> rfl) | (rcases hu with rfl | rfl | rfl | rfl | rfl | rfl | rfl <;> rfl) | (rcases hu with rfl | rfl | rfl | rfl | rfl | rfl | rfl | rfl <;> rfl))
          case r3 => unfold maxLen; omega
          case r4 => omega
          case r5 => simp; omega
          intro v5' wg hown5 hg5 hk5 _
          have mG := (Mv.of_below (below_alloc wb (.cells #[.slice (some ⟨gc, 0, none⟩) (m5 + 80) (m5 + 80)] 43)) (fun j => (Value.slice u5' (ns + k) r5').ownBlock = some j)).grown hg5 (fun j _ e => e)
          have LXg := hide (LXb.out.turn5 (y5 := x5 ++ [.slice (some ⟨gc, 0, none⟩) (m5 + 80) (m5 + 80)]) mG (by rw [List.length_append, LL.out.2]; exact hown5))
          have Fg := hide (mG.own Fb.out (fun j e1 e2 => own_types Fb.out LXb.out.r5 (by decide) j e1 e2))
          have CIg := hide (CIb.out.mv mG (fun j e e2 => by
            obtain ⟨-, -, cs, hc⟩ := CIb.out.blk j e
            exact own_not LXb.out.r5 hc (by decide) e2))
          have NG := hide (mG.at NB.out (fun e => own_not LXb.out.r5 NB.out (by decide) e))
          clear q5' qs qn hown5 hg5 hk5 mG LXb Fb CIb NB
          obtain ⟨t0, t1, t2, t3⟩ := row4 NG.out
          obtain ⟨x0, x1⟩ := row2 LXg.out.qb
          have qr := Fg.out
          have hlb : lf.length ≤ 1048576 := by omega
          have qs := LXg.out.be.size
          have qn := LXg.out.nw
          have zQ : ∀ (w : World) (cs : Array Value) q, w.heap[Qb]? = some (.cells cs 27 (0, 0)) → w.frozen? ⟨Qb, q, none⟩ = false := fun w cs q h => frozen_of_row w Qb q _ 27 h
          have LQ := hide LXg.out.qb
          clear hlf1
          go_wp2_with (at_builtin; refine wpList_append_keep rfl _ _ 25 rfl N 45 iR (.agg #[.string ByteArray.empty, .int .i64 0, .int .i64 0, .slice none 0 0]) 4 56 Tryz.underlying25 ri rz0 rz1 rz2 rfl (by decide) _ _ _ rfl (qr.alloc _) ⟨wg.heap.size, 0, none⟩ 1 1 [.string r.name, .int .i64 r.pa, .int .i64 r.lo, .slice (some ⟨gc, 0, none⟩) m5 (m5 + 80)] rfl rfl ?s1 ?s2 ?s3 ?s4 ?s5 ?_)
          case s1 =>
            intro j u hj
            match j, hj with
            | 0, hj => simp at hj; subst hj; simp [Addr.add]
            | 1, hj => simp at hj; subst hj; simp [Addr.add]
            | 2, hj => simp at hj; subst hj; simp [Addr.add]
            | 3, hj => simp at hj; subst hj; simp [Addr.add]
          case s2 => intro u hu; simp at hu; (first | (subst hu; rfl) | (rcases hu with rfl | rfl <;> rfl) | (rcases hu with rfl | rfl | rfl <;> rfl) | (rcases hu with rfl | rfl | rfl | rfl <;> rfl) | (rcases hu with rfl | rfl | rfl | rfl | rfl <;> rfl) | (rcases hu with rfl | rfl | rfl | rfl | rfl | rfl <;> rfl) | (rcases hu with rfl | rfl | rfl | rfl | rfl | rfl | rfl <;> rfl) | (rcases hu with rfl | rfl | rfl | rfl | rfl | rfl | rfl | rfl <;> rfl))
          case s3 => unfold maxLen; omega
          case s4 => omega
          case s5 => simp; omega
          intro vf' wh hownS hgS hkS _
          obtain ⟨uf', rf', rfl⟩ := own_len hownS
          have mH := (Mv.of_below (below_alloc wg (.cells #[.string r.name, .int .i64 r.pa, .int .i64 r.lo, .slice (some ⟨gc, 0, none⟩) m5 (m5 + 80)] 45)) (fun j => (Value.slice uf lf.length rf).ownBlock = some j)).grown hgS (fun j _ e => e)
          have LXh := hide (LXg.out.turnF (vf' := .slice uf' (lf.length + 1) rf') (vc := .slice (some ⟨gc, 0, none⟩) m5 (m5 + 80)) (c := r.code) Fg.out mH (by
            have h := CIg.out
            rw [HM5.out] at h
            rw [HM5.out]
            exact h) (fun u hu g' e1 e2 => by
            have h1 := CVW.out u hu g' e1
            have h2 := GC.out.1
            have : gc = g' := by simpa [Value.ownBlock] using e2
            omega))
          have qbh := mH.at LQ.out (fun e => own_not Fg.out LQ.out (by decide) e)
          have y1 := (row2 qbh).2
          have zq := zQ wh _ 1 qbh
          have FH : Hid ((wh.setCell ⟨Qb, 1, none⟩ (.slice uf' (lf.length + 1) rf')).ownsRow N 45 4 (.slice uf' (lf.length + 1) rf') (lf ++ [(r, Value.slice (some ⟨gc, 0, none⟩) m5 (m5 + 80))]).length (rtsC (lf ++ [(r, Value.slice (some ⟨gc, 0, none⟩) m5 (m5 + 80))]))) := by
            unfold Hid
            rw [rtsC_snoc, List.length_append]
            exact ((Mv.refl wh (fun j => j = Qb)).set (g := Qb) rfl 1 _).own hownS (fun j e1 e2 => by
              subst e2
              exact own_not hownS qbh (by decide) e1)
          clear qr qs qn hownS hgS hkS mH t0 t1 t2 t3 x0 x1 zQ LQ LXg Fg CIg NG qbh
          go_wp2_with fail
          refine ⟨⟨k + 1, lf ++ [(r, Value.slice (some ⟨gc, 0, none⟩) m5 (m5 + 80))], .slice uf' (lf.length + 1) rf', by go_num, by omega, ?_, ?_, FH.out⟩, by simp [intOf]; omega⟩
          · show List.map Prod.fst _ = _
            rw [List.map_append, hlf.out, TK.out]
            rfl
          · have h := LXh.out
            show LX _ _ _ _ _ _ _ _ _ _ _ _ _ _ _
            rw [codesR_snoc, codLs_snoc, ← List.append_assoc, List.map_append, ← HX5.out]
            exact h
        · obtain rfl : nf = k := by omega
          have SF : Hid (lf.map Prod.fst = fns) := by
            have h := hlf.out
            rw [← LQN.out, List.take_length, HLQ.out] at h
            exact h
          have LL : Hid (lf.length = nf ∧ ((codesS ls ++ codesR lf).map wideV).length = ns + nf) := by
            have h := congrArg List.length SF.out
            rw [List.length_map, ← HLQ.out, List.length_map, LQN.out] at h
            exact ⟨h, by simp [codesS, codesR, h, L5.out.2.2.2]⟩
          obtain ⟨x5, hx5⟩ : ∃ x, x = (codesS ls ++ codesR lf).map wideV := ⟨_, rfl⟩
          rw [← hx5] at hL LL
          have HX5 := hide hx5
          obtain ⟨u5', r5', rfl⟩ := own_len hL.out.r5
          obtain ⟨uf, rf, rfl⟩ := own_len hF.out
          rw [LL.out.2] at hL ⊢
          have HZ : Hid ((∀ p ∈ ls, p.1.wi.length ≤ 1048576 ∧ p.1.wo.length ≤ 1048576 ∧ p.1.re.length ≤ 1048576 ∧ p.1.wr.length ≤ 1048576 ∧ p.1.run.code.length ≤ 1048576) ∧ ∀ p ∈ lf, p.1.code.length ≤ 1048576) := ⟨fun p hp => by
            have := Z1.out p.1 (by rw [← SL.out]; exact List.mem_map.2 ⟨_, hp, rfl⟩)
            exact this.2, fun p hp => (Z2.out p.1 (by rw [← SF.out]; exact List.mem_map.2 ⟨_, hp, rfl⟩)).2⟩
          have PQ : Hid (∀ w', Below wr.heap.size wr w' → Pgm Qt w' (.slice us ls.length rs) (.slice uf lf.length rf) ⟨sys, fns⟩) := fun w' hb => by
            have h := (hL.out.later hb).pgm (own_later hF.out hb) (by rw [SL.out, SF.out]; exact SIX.out) HZ.out.1 HZ.out.2
            rw [SL.out, SF.out] at h
            exact h
          have ZD : Hid ((∀ s ∈ sys, s.run.name.size ≤ 9223372036854775807 ∧ s.run.code.length ≤ 35184372088832) ∧ ∀ r ∈ fns, r.name.size ≤ 9223372036854775807 ∧ r.code.length ≤ 35184372088832) := ⟨fun s hs => by
            have := Z1.out s hs
            exact ⟨this.1, by omega⟩, fun r hr => by
            have := Z2.out r hr
            exact ⟨this.1, by omega⟩⟩
          have LXr := hide hL.out
          have Fr := hide hF.out
          obtain ⟨w3, hw3⟩ : ∃ X, X = wr := ⟨_, rfl⟩
          subst hw3
          obtain ⟨eb, heb⟩ : ∃ x, x = enB ⟨sys, fns⟩ := ⟨_, rfl⟩
          obtain ⟨ee, hee⟩ : ∃ x, x = enE ⟨sys, fns⟩ := ⟨_, rfl⟩
          have HEB := hide heb
          have ENP : Hid (∀ w' vs vf, Below N w0 w' → Pgm Qt w' vs vf ⟨sys, fns⟩ → Calls Tryz.prog 14 #[.agg #[vs, vf]] w' fun e w'' => Below w'.heap.size w' w'' ∧ ∃ v, e = .returned (.tuple #[v, .int .i64 ee]) ∧ w''.ownsRow w'.heap.size 5 1 v eb.length (Lib.byteCells eb)) := fun w' vs vf hb hp => by
            rw [heb, hee]
            exact encode_all _ hp (KD.out w' hb).1
          have DEN : Hid (∀ w', Below N w0 w' → Calls Tryz.prog 15 #[.agg #[.slice sa ns cs, .slice fa nf cf]] w' fun e w'' => Below w'.heap.size w' w'' ∧ ∃ v, e = .returned (.tuple #[v, .int .i64 ee]) ∧ Bn w'' v eb) := fun w' hb => by
            rw [heb, hee]
            exact dencode_any _ (PG.out w' hb) ZD.out.1 ZD.out.2
          clear hL hF hx5 hlf LX2 heb hee
          have y0 := row2 LXr.out.qb
          obtain ⟨y0, y1⟩ := y0
          have J := hide (ENP.out w3 _ _ LXr.out.be (PQ.out w3 (Below.refl _ _)))
          go_wp2_with fail
          refine J.out.mono ?_
          rintro e w4 ⟨b4, vb, rfl, ob⟩
          have X4 := hide b4
          have OB4 := hide ob
          have X4N : Hid (Below N w0 w4) := (LXr.out.later b4).be
          clear J b4 ob y0 y1 x0 x1
          obtain ⟨x0, x1⟩ := AT.out w4 X4N.out
          have J := hide (DEN.out w4 X4N.out)
          go_wp2_with fail
          refine J.out.mono ?_
          rintro e w5 ⟨b5, vc, rfl, ob⟩
          have X5 := hide (below_on X4.out b5)
          have OB5 := hide (own_later OB4.out b5)
          have OC5 := hide ob
          have X5N : Hid (Below N w0 w5) := (LXr.out.later X5.out).be
          have cv1 := conv_bs (own_bs OB5.out)
          have cv2 := conv_bs OC5.out.1
          clear J b5 ob x0 x1 X4N OB4
          obtain ⟨x0, x1⟩ := AT.out w5 X5N.out
          obtain ⟨y0, y1⟩ := row2 (LXr.out.later X5.out).qb
          obtain ⟨ab, nb, rfl⟩ := own_len OB5.out
          go_upto_region 29 with fail
          clear cv1 cv2
          rename_i K4 hK4
          exact enc4 (ns := ns) (nf := nf) (cs := cs) (cf := cf) (sa := sa) (fa := fa) (N5 := w3.heap.size) rfl rfl rfl rfl rfl rfl rfl rfl rfl rfl Y0 HNN AT KD PG Z1 ZD SIX HZ SL SF ENP HEB (Nat.le_trans LXr.out.nw LXr.out.be.size) b1 b2 PA QA HLP HLQ LPN LQN L5 LL HX5 HX6 HX7 (PQ.out w5 X5.out) (LXr.out.later X5.out) (own_later Fr.out X5.out) OB5 OC5 X5.out.size hK4
end Go.Proofs.YtpolajoephjdhaaGreatDoor
