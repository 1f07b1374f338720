/-
  Verify: VerifySays, its walk.
-/
import Derived.Test.YtfkhhplcogedmaaGreatDoorMgY
import Derived.Test.YtfkhhplcogedmaaGreatDoorMgQ
import Derived.Deep.RegionHeld3
namespace Go.Proofs.YtfkhhplcogedmaaGreatDoor
open Go.RowKit
set_option maxRecDepth 100000
theorem lpickW_any (c : Int) (hc : I6 c) (n : Nat) (h0 : 0 < n) (hn : n ≤ 9223372036854775807) (W : World) : Calls Tryz.prog 7 #[.int .i64 c, .int .i64 (n : Int)] W fun e w' => (∃ k : Nat, k < n ∧ e = .returned (.int .i64 (k : Int))) ∧ w' = W := by
  have key : ∀ x : Int, 0 ≤ x → x ≤ 9223372036854775807 → ∃ k : Nat, k < n ∧ x.tmod (n : Int) = (k : Int) := fun x hx _ => by
    refine ⟨(x.tmod n).toNat, ?_, ?_⟩
    · rw [Int.tmod_eq_emod_of_nonneg hx]
      have h1 := Int.emod_lt_of_pos x (show (0 : Int) < (n : Int) by omega)
      have h2 := Int.emod_nonneg x (show (n : Int) ≠ 0 by omega)
      omega
    · rw [Int.tmod_eq_emod_of_nonneg hx]
      have h2 := Int.emod_nonneg x (show (n : Int) ≠ 0 by omega)
      omega
  unfold I6 at hc
  have hn0 : ((n : Int) == 0) = false := beq_eq_false_iff_ne.2 (by omega)
  have hn1 : ¬ (n : Int) = 0 := by omega
  by_cases c0 : c < 0
  · obtain ⟨k, hk, e⟩ := key (-(c + 1)) (by omega) (by omega)
    have t1 : IntKind.i64.wrap (c + 1) = c + 1 := by rw [IntKind.wrap_i64]; omega
    have t2 : IntKind.i64.wrap (-(c + 1)) = -(c + 1) := by rw [IntKind.wrap_i64]; omega
    have HK : Hid (k < n) := hk
    clear key
    go_enter Tryz.func7, Tryz.ntmps7
    go_wp2_with fail
    go_ret
    exact ⟨⟨k, HK.out, by first | rfl | exact ret_int e | exact ret_int (by simpa using e)⟩, rfl⟩
  · obtain ⟨k, hk, e⟩ := key c (by omega) (by omega)
    have HK : Hid (k < n) := hk
    clear key
    go_enter Tryz.func7, Tryz.ntmps7
    go_wp2_with fail
    go_ret
    exact ⟨⟨k, HK.out, by first | rfl | exact ret_int e | exact ret_int (by simpa using e)⟩, rfl⟩
set_option maxHeartbeats 16000000 in
theorem sayslaw_any {Q : Nat → Prop} {w : World} {vs vf vk : Value} {sys : List Sy} {fns : List Rt} {ks : List Kind} (wh at_ bo ba : Int)
    (hS : Sys Q w vs sys) (hF : Rts Q w vf fns) (hk : Kr w vk ks) (ht : Tb w) (hz : Sz ks) (hb : I6 bo ∧ I6 ba) (hw : I6 wh ∧ I6 at_) (hn1 : sys.length ≤ 930000000000) (hn2 : fns.length ≤ 2600000000000) (hz1 : ∀ s ∈ sys, Wd.Small5 s) (hz2 : ∀ r ∈ fns, r.code.length ≤ 8800000000000)
    (JD : Hid (JDp sys fns)) :
    Calls Tryz.prog 3 #[.agg #[vs, vf], vk, .int .i64 wh, .int .i64 at_, .agg #[.int .i64 bo, .int .i64 ba]] w fun e w' => e = .returned (.bool true) ∧ Below w.heap.size w w' := by
  have JS : Hid (∀ V, Below w.heap.size w V → Calls Tryz.prog 4 #[] V fun e w' => e = .returned (.bool true) ∧ Below V.heap.size V w') := fun V hV => shown_any V (ht.later hV)
  have HS := hide hS
  have HF := hide hF
  have HK := hide hk
  have HT := hide ht
  obtain ⟨sa, sc, rfl, s1, s2⟩ := hS.at
  obtain ⟨fa, fc, rfl, f1, f2⟩ := hF.at
  obtain ⟨ka, kc, rfl, kk1, kk2, -⟩ := id hk
  have kk3 : kc ≤ 9223372036854775807 := by unfold maxLen at kk2; omega
  have JL : Hid (∀ V, Below w.heap.size w V → Calls Tryz.prog 5 #[.agg #[.slice sa sys.length sc, .slice fa fns.length fc]] V fun e w' => ∃ gs gf c1 c2 ls lf, e = .returned (.agg #[.slice (some ⟨gs, 0, none⟩) sys.length c1, .slice (some ⟨gf, 0, none⟩) fns.length c2]) ∧ Lnt V.heap.size w' gs c1 gf c2 sys.length fns.length ls lf ∧ ls.map Prod.fst = sys ∧ lf.map Prod.fst = fns ∧ Wd.Rs w'.heap.size (ls.flatMap Wd.lvS ++ lf.map Prod.snd) ∧ Below V.heap.size V w') := fun V hV => (Wd.lent_any sys fns rfl rfl s1 s2 f1 f2 (hS.later hV) (hF.later hV) hn1 hn2 hz1 hz2).mono (by
    rintro e w' ⟨gs, gf, c1, c2, ls, lf, rfl, k1, k2, k3, k4, ⟨k5, k6, k7, k8, k9, k10⟩, k11, k12⟩
    exact ⟨gs, gf, c1, c2, ls, lf, rfl, ⟨k1, k2, k5, k6, ⟨k7, k9⟩, ⟨k8, k10⟩, by rw [← k3, List.length_map], by rw [← k4, List.length_map]⟩, k3, k4, k12, k11⟩)
  obtain ⟨ns, hns⟩ : ∃ n, n = sys.length := ⟨_, rfl⟩
  obtain ⟨nf, hnf⟩ : ∃ n, n = fns.length := ⟨_, rfl⟩
  obtain ⟨nk, hnk⟩ : ∃ n, n = ks.length := ⟨_, rfl⟩
  have HNS := hide hns
  have HNF := hide hnf
  have HNK := hide hnk
  have HZ := hide hz
  have HB := hide hb
  have HW := hide hw
  have HN1 : Hid (ns + nf ≤ 9223372036854775807) := by unfold Hid; omega
  rw [← hns, ← hnf] at JL
  rw [← hns] at s1
  rw [← hnf] at f1
  rw [← hnk] at kk1
  rw [← hns, ← hnf, ← hnk]
  have HKK : Hid (nk ≤ kc ∧ kc ≤ 9223372036854775807) := ⟨kk1, kk3⟩
  have HSC : Hid ((ns ≤ sc ∧ sc ≤ 9223372036854775807) ∧ nf ≤ fc ∧ fc ≤ 9223372036854775807) := ⟨⟨s1, s2⟩, f1, f2⟩
  clear hS hF hk ht hz hb hw hn1 hn2 hz1 hz2 hns hnf hnk kk2
  obtain ⟨W1, hW1⟩ : ∃ X, X = (w.alloc (.cells #[.slice sa ns sc, .slice fa nf fc] 25)).alloc (.cells #[.int .i64 bo, .int .i64 ba] 28) := ⟨_, rfl⟩
  have bw1 : Below w.heap.size w W1 := by rw [hW1]; exact below_on (below_alloc w _) (below_alloc _ _)
  have kp : W1.heap[w.heap.size]? = some (.cells #[.slice sa ns sc, .slice fa nf fc] 25 (0, 0)) := by
    rw [hW1]
    exact ((below_alloc (w.alloc (.cells #[.slice sa ns sc, .slice fa nf fc] 25)) _).block w.heap.size (by simp)).trans (heap_alloc_new w _)
  have kr : W1.heap[w.heap.size + 1]? = some (.cells #[.int .i64 bo, .int .i64 ba] 28 (0, 0)) := by
    rw [hW1]
    have := heap_alloc_new (w.alloc (.cells #[.slice sa ns sc, .slice fa nf fc] 25)) (.cells #[.int .i64 bo, .int .i64 ba] 28)
    simpa using this
  obtain ⟨gp, hgp⟩ : ∃ x, x = w.heap.size := ⟨_, rfl⟩
  obtain ⟨gb, hgb⟩ : ∃ x, x = w.heap.size + 1 := ⟨_, rfl⟩
  rw [← hgp] at kp
  rw [← hgb] at kr
  have KW : Hid (∀ V, Below W1.heap.size W1 V → (V.cell? ⟨gp, 0, none⟩ = some (.slice sa ns sc) ∧ V.cell? ⟨gp, 1, none⟩ = some (.slice fa nf fc)) ∧ V.cell? ⟨gb, 0, none⟩ = some (.int .i64 bo) ∧ V.cell? ⟨gb, 1, none⟩ = some (.int .i64 ba)) := fun V hV => by
    have e1 := (hV.block gp (lt_of_block kp)).trans kp
    have e2 := (hV.block gb (lt_of_block kr)).trans kr
    exact ⟨⟨by rw [cell_of_row V _ _ _ 25 (0, 0) e1]; rfl, by rw [cell_of_row V _ _ _ 25 (0, 0) e1]; rfl⟩, by rw [cell_of_row V _ _ _ 28 (0, 0) e2]; rfl, by rw [cell_of_row V _ _ _ 28 (0, 0) e2]; rfl⟩
  have B1 := hide bw1
  have J1 := hide (JS.out W1 bw1)
  go_enter Tryz.func3, Tryz.ntmps3
  go_upto_region 1 with fail
  rw [← hW1, ← hgb, ← hgp]
  clear hW1 hgb hgp bw1 kp kr
  go_wp2_with fail
  refine J1.out.mono ?_
  rintro e W2 ⟨rfl, b2⟩
  have C2 := hide b2
  have B2 := hide (below_on B1.out b2)
  obtain ⟨⟨p0, p1⟩, -⟩ := KW.out W2 b2
  have J2 := hide (JL.out W2 B2.out)
  clear J1 b2 JS
  go_wp2_with fail
  refine J2.out.mono ?_
  rintro e W3 ⟨gs, gf, c1, c2, ls, lf, rfl, hL, hl1, hl2, hrs, b3⟩
  obtain ⟨W4, hW4⟩ : ∃ X, X = W3.alloc (.cells #[.slice (some ⟨gs, 0, none⟩) ns c1, .slice (some ⟨gf, 0, none⟩) nf c2] 25) := ⟨_, rfl⟩
  obtain ⟨gq, hgq⟩ : ∃ x, x = W3.heap.size := ⟨_, rfl⟩
  have b4 : Below W3.heap.size W3 W4 := hW4 ▸ below_alloc W3 _
  have kq : W4.heap[gq]? = some (.cells #[.slice (some ⟨gs, 0, none⟩) ns c1, .slice (some ⟨gf, 0, none⟩) nf c2] 25 (0, 0)) := by rw [hW4, hgq]; exact heap_alloc_new W3 _
  have KQ : Hid (∀ V, Below W4.heap.size W4 V → PgB V gq (.slice (some ⟨gs, 0, none⟩) ns c1) (.slice (some ⟨gf, 0, none⟩) nf c2)) := fun V hV => PgB.later kq hV
  have HL := hide (hL.later b4)
  have HLL : Hid (ls.map Prod.fst = sys ∧ lf.map Prod.fst = fns) := ⟨hl1, hl2⟩
  have HRS : Hid (Wd.Rs W4.heap.size (ls.flatMap Wd.lvS ++ lf.map Prod.snd)) := hrs.le b4.size
  have C4 := hide (below_on (below_on C2.out b3) b4)
  have B4 := hide (below_on (below_on B2.out b3) b4)
  have HSZ : Hid (w.heap.size ≤ W2.heap.size ∧ W1.heap.size ≤ W2.heap.size) := ⟨B2.out.size, C2.out.size⟩
  clear J2 hL hl1 hl2 hrs b3 b4 kq p0 p1 B2 C2
  go_upto_region 3 with fail
  rw [← hW4, ← hgq]
  clear hW4 hgq
  obtain ⟨⟨p0, p1⟩, -⟩ := KW.out W4 C4.out
  obtain ⟨q0, q1⟩ := (KQ.out W4 (Below.refl _ _)).c
  have J4 : Hid (Calls Tryz.prog 6 #[.agg #[.slice (some ⟨gs, 0, none⟩) ns c1, .slice (some ⟨gf, 0, none⟩) nf c2], .agg #[.slice sa ns sc, .slice fa nf fc], .slice ka nk kc] W4 fun e w' => e = .returned (.bool true) ∧ Below W4.heap.size W4 w') := by
    have u1 := HSC.out
    have u2 := HKK.out
    have hS4 := HS.out.later B4.out
    have hF4 := HF.out.later B4.out
    rw [← HNS.out] at hS4
    rw [← HNF.out] at hF4
    refine says_any HL.out (by rw [HLL.out.1]; exact hS4) (by rw [HLL.out.2]; exact hF4) u1.1.1 u1.1.2 u1.2.1 u1.2.2 (by have := HK.out.later B4.out; rw [← HNK.out] at this; exact this) HNK.out HZ.out u2.1 u2.2 (HT.out.later B4.out) (fun V vk' ks' hV hk' hz' => ?_)
    rw [HLL.out.1, HLL.out.2]
    have hS5 := hS4.later hV
    have hF5 := hF4.later hV
    have := JD.out V sys fns Q sa fa sc fc vk' ks' (SmS.refl _) (SmF.refl _) (by rw [← HNS.out]; exact u1.1.1) u1.1.2 (by rw [← HNF.out]; exact u1.2.1) u1.2.2 (by rw [← HNS.out]; exact hS5) (by rw [← HNF.out]; exact hF5) hk' hz'
    rw [← HNS.out, ← HNF.out] at this
    exact this
  go_wp2_with fail
  refine J4.out.mono ?_
  rintro e W5 ⟨rfl, b5⟩
  have D5 := hide b5
  have C5 := hide (below_on C4.out b5)
  have B5 := hide (below_on B4.out b5)
  clear J4 b5 p0 p1 q0 q1 C4 B4
  obtain ⟨⟨p0, p1⟩, -⟩ := KW.out W5 C5.out
  go_upto_region 6 with fail
  have hn1 := HN1.out
  have tw : IntKind.i64.wrap ((ns : Int) + (nf : Int)) = (ns : Int) + (nf : Int) := by rw [IntKind.wrap_i64]; omega
  by_cases h0 : ns + nf = 0
  · obtain ⟨rfl, rfl⟩ : ns = 0 ∧ nf = 0 := by omega
    clear h0
    go_wp2_with fail
    go_ret
    exact ⟨rfl, B5.out⟩
  have tnn : (((ns : Int) + (nf : Int)) == 0) = false := beq_eq_false_iff_ne.2 (by omega)
  have tn2 : ¬ ((ns : Int) + (nf : Int)) = 0 := by omega
  clear h0
  go_upto_region 9 with fail
  have J6 : Hid (Calls Tryz.prog 7 #[.int .i64 wh, .int .i64 ((ns : Int) + (nf : Int))] W5 fun e w' => (∃ k : Nat, k < ns + nf ∧ e = .returned (.int .i64 (k : Int))) ∧ w' = W5) := by
    have := lpickW_any wh HW.out.1 (ns + nf) (by omega) hn1 W5
    rw [show ((ns + nf : Nat) : Int) = (ns : Int) + (nf : Int) by omega] at this
    exact this
  clear tnn tn2 tw
  go_wp2_with fail
  refine J6.out.mono ?_
  rintro e W6 ⟨⟨k, hk, rfl⟩, rfl⟩
  have J7 := hide (JL.out W6 B5.out)
  clear J6
  go_wp2_with fail
  refine J7.out.mono ?_
  rintro e W7 ⟨hs, hf, d1, d2, rs, rf, rfl, hR, hr1, hr2, hrr, b7⟩
  obtain ⟨W8, hW8⟩ : ∃ X, X = W7.alloc (.cells #[.slice (some ⟨hs, 0, none⟩) ns d1, .slice (some ⟨hf, 0, none⟩) nf d2] 25) := ⟨_, rfl⟩
  obtain ⟨gr, hgr⟩ : ∃ x, x = W7.heap.size := ⟨_, rfl⟩
  have b8 : Below W7.heap.size W7 W8 := hW8 ▸ below_alloc W7 _
  have kr : W8.heap[gr]? = some (.cells #[.slice (some ⟨hs, 0, none⟩) ns d1, .slice (some ⟨hf, 0, none⟩) nf d2] 25 (0, 0)) := by rw [hW8, hgr]; exact heap_alloc_new W7 _
  have KR : Hid (PgB W8 gr (.slice (some ⟨hs, 0, none⟩) ns d1) (.slice (some ⟨hf, 0, none⟩) nf d2)) := kr
  have HR := hide (hR.later b8)
  have HRL : Hid (rs.map Prod.fst = sys ∧ rf.map Prod.fst = fns) := ⟨hr1, hr2⟩
  have HRR : Hid (Wd.Rs W8.heap.size (rs.flatMap Wd.lvS ++ rf.map Prod.snd)) := hrr.le b8.size
  have D8 := hide (below_on (below_on D5.out b7) b8)
  have C8 := hide (below_on (below_on C5.out b7) b8)
  have B8 := hide (below_on (below_on B5.out b7) b8)
  clear J7 hR hr1 hr2 hrr b7 b8 kr p0 p1
  go_upto_region 11 with fail
  rw [← hW8, ← hgr]
  clear hW8 hgr
  obtain ⟨⟨p0, p1⟩, y0, y1⟩ := KW.out W8 C8.out
  by_cases hkn : k < ns
  · have t1 : (k : Int) < (ns : Int) := by omega
    have his : k < sys.length := by have := HNS.out; omega
    obtain ⟨g, o, rfl, -, hat⟩ := (HS.out.later B8.out).nth his
    obtain ⟨a1, a2, a3, a4, a5, n1, n2, n3, n4, n5, k1, k2, k3, k4, k5, HV, z1, z2, z3, z4, z5, z6, z7, z8⟩ := hat.vs
    have HN5 : Hid (n5 = sys[k].run.code.length) := il_len HV.co
    obtain ⟨ao5, c5, e5, cc1, cc2⟩ := HV.co.at
    have HM5 : Hid (n5 ≤ 9223372036854775807) := by
      injection e5 with e51 e52 e53
      unfold Hid
      omega
    clear hat HV z1 z2 z3 z4 z5 z6 z7 cc1 cc2 e5
    have HKN := hide hkn
    have HK0 := hide hk
    clear hk hn1
    go_upto_region 12 with fail
    by_cases h5 : n5 = 0
    · have tn : ((n5 : Int) == 0) = true := by rw [h5]; rfl
      go_wp2_with fail
      go_ret
      exact ⟨rfl, B8.out⟩
    have tn : ((n5 : Int) == 0) = false := beq_eq_false_iff_ne.2 (by omega)
    have J9 : Hid (Calls Tryz.prog 7 #[.int .i64 at_, .int .i64 (n5 : Int)] W8 fun e w' => (∃ i : Nat, i < n5 ∧ e = .returned (.int .i64 (i : Int))) ∧ w' = W8) := lpickW_any at_ HW.out.2 n5 (by omega) HM5.out W8
    have H50 := hide h5
    clear h5
    go_upto_region 14 with fail
    go_wp2_with fail
    refine J9.out.mono ?_
    rintro e W9 ⟨⟨i, hi, rfl⟩, rfl⟩
    go_wp2_with fail
    obtain ⟨gc, oc, cc, vq, ls', P, hcq, hcq1, Q1, R1, m1, hr1⟩ := wayS1 (b := ⟨bo, ba⟩) (i := i) (HL.out.later D8.out) HRS.out HR.out D5.out.size HLL.out.1 his HN5.out hi HB.out
    obtain ⟨V1, hV1⟩ : ∃ X, X = putI W9 gc (oc + i * 2) ⟨bo, ba⟩ := ⟨_, rfl⟩
    rw [← hV1] at hcq1 Q1 R1
    have n1 := P.nn
    have n3 := HSZ.out
    have BV1 : Hid (Below w.heap.size w V1) := by unfold Hid; rw [hV1]; exact below_put B8.out (by omega)
    have CV1 : Hid (Below W1.heap.size W1 V1) := by unfold Hid; rw [hV1]; exact below_put C8.out (by omega)
    have kq0 := KQ.out W9 D8.out
    have kq1 : PgB V1 gq (.slice (some ⟨gs, 0, none⟩) ns c1) (.slice (some ⟨gf, 0, none⟩) nf c2) := by rw [hV1]; exact kq0.put (.of P.q)
    have kr1 : PgB V1 gr (.slice (some ⟨hs, 0, none⟩) ns d1) (.slice (some ⟨hf, 0, none⟩) nf d2) := by rw [hV1]; exact KR.out.put (.of P.q)
    have hi6 : (i : Int) < (n5 : Int) := by omega
    obtain ⟨u1, x1⟩ := P.x
    obtain ⟨u2, x2⟩ := P.y
    obtain ⟨cs, t, hb⟩ := P.b
    have x3 := frozen_of_row W9 gc (oc + i * 2) cs t hb
    have x4 := frozen_of_row W9 gc (oc + i * 2 + 1) cs t hb
    have hcc := P.h1
    obtain ⟨-, y0', y1'⟩ := KW.out V1 CV1.out
    have s0 : W9.drew.cell? ⟨gq, 0, none⟩ = some (.slice (some ⟨gs, 0, none⟩) ns c1) ∧ W9.drew.cell? ⟨gs, k * 8 + 7, none⟩ = some (.slice (some ⟨gc, oc, none⟩) n5 cc) ∧ W9.drew.cell? ⟨gb, 0, none⟩ = some (.int .i64 bo) ∧ W9.drew.cell? ⟨gb, 1, none⟩ = some (.int .i64 ba) := ⟨kq0.c.1, hcq, y0, y1⟩
    have s1 : Hid (V1.drew.cell? ⟨gq, 0, none⟩ = some (.slice (some ⟨gs, 0, none⟩) ns c1) ∧ V1.drew.cell? ⟨gs, k * 8 + 7, none⟩ = some (.slice (some ⟨gc, oc, none⟩) n5 cc) ∧ V1.drew.cell? ⟨gb, 0, none⟩ = some (.int .i64 bo) ∧ V1.drew.cell? ⟨gb, 1, none⟩ = some (.int .i64 ba)) := ⟨kq1.c.1, hcq1, y0', y1'⟩
    have KQ1 := hide kq1
    have KR1 := hide kr1
    have HQ1 := hide Q1
    have HR1 := hide R1
    have HM1 := hide m1
    have HHR1 := hide hr1
    have HI := hide hi
    clear hb p0 p1 y0 y1 y0' y1' hcq hcq1 kq0 kq1 kr1 Q1 R1 m1 hr1 P n1 n3 hi
    unfold putI at hV1
    dsimp only at hV1
    go_region_held3 (fun V => V.cell? ⟨gq, 0, none⟩ = some (.slice (some ⟨gs, 0, none⟩) ns c1) ∧ V.cell? ⟨gs, k * 8 + 7, none⟩ = some (.slice (some ⟨gc, oc, none⟩) n5 cc) ∧ V.cell? ⟨gb, 0, none⟩ = some (.int .i64 bo) ∧ V.cell? ⟨gb, 1, none⟩ = some (.int .i64 ba)) (first | exact s0 | (rw [← hV1]; exact s1.out)) (fail)
    rw [← hV1]
    clear hV1 x1 x2 x3 x4 s0 s1 u1 u2 hcc
    go_wp2_with fail
    obtain ⟨gd, od, cd, vd, rs', P, hcq, hcq1, Q2, R2, m2⟩ := wayS2 (b := ⟨bo, ba⟩) (i := i) HQ1.out HHR1.out HR1.out HRR.out D5.out.size HRL.out.1 his HN5.out HI.out HB.out
    obtain ⟨V2, hV2⟩ : ∃ X, X = putI V1 gd (od + i * 2) ⟨bo, ba⟩ := ⟨_, rfl⟩
    rw [← hV2] at hcq1 Q2 R2
    have n1 := P.nn
    have n3 := HSZ.out
    have n6 := B5.out.size
    have n7 := C5.out.size
    have BV2 : Hid (Below w.heap.size w V2) := by unfold Hid; rw [hV2]; exact below_put BV1.out (by omega)
    have CV2 : Hid (Below W1.heap.size W1 V2) := by unfold Hid; rw [hV2]; exact below_put CV1.out (by omega)
    have kq2 : PgB V2 gq (.slice (some ⟨gs, 0, none⟩) ns c1) (.slice (some ⟨gf, 0, none⟩) nf c2) := by rw [hV2]; exact KQ1.out.put (.of P.q)
    have kr2 : PgB V2 gr (.slice (some ⟨hs, 0, none⟩) ns d1) (.slice (some ⟨hf, 0, none⟩) nf d2) := by rw [hV2]; exact KR1.out.put (.of P.q)
    obtain ⟨u1, x1⟩ := P.x
    obtain ⟨u2, x2⟩ := P.y
    obtain ⟨cs, t, hb⟩ := P.b
    have x3 := frozen_of_row V1 gd (od + i * 2) cs t hb
    have x4 := frozen_of_row V1 gd (od + i * 2 + 1) cs t hb
    have hcc := P.h1
    obtain ⟨-, y0, y1⟩ := KW.out V1 CV1.out
    obtain ⟨-, y0', y1'⟩ := KW.out V2 CV2.out
    have s0 : V1.cell? ⟨gr, 0, none⟩ = some (.slice (some ⟨hs, 0, none⟩) ns d1) ∧ V1.cell? ⟨hs, k * 8 + 7, none⟩ = some (.slice (some ⟨gd, od, none⟩) n5 cd) ∧ V1.cell? ⟨gb, 0, none⟩ = some (.int .i64 bo) ∧ V1.cell? ⟨gb, 1, none⟩ = some (.int .i64 ba) := ⟨KR1.out.c.1, hcq, y0, y1⟩
    have s1 : Hid (V2.cell? ⟨gr, 0, none⟩ = some (.slice (some ⟨hs, 0, none⟩) ns d1) ∧ V2.cell? ⟨hs, k * 8 + 7, none⟩ = some (.slice (some ⟨gd, od, none⟩) n5 cd) ∧ V2.cell? ⟨gb, 0, none⟩ = some (.int .i64 bo) ∧ V2.cell? ⟨gb, 1, none⟩ = some (.int .i64 ba)) := ⟨kr2.c.1, hcq1, y0', y1'⟩
    have J2 : Hid (∀ V, Below V2.heap.size V2 V → Calls Tryz.prog 6 #[.agg #[.slice (some ⟨gs, 0, none⟩) ns c1, .slice (some ⟨gf, 0, none⟩) nf c2], .agg #[.slice (some ⟨hs, 0, none⟩) ns d1, .slice (some ⟨hf, 0, none⟩) nf d2], .slice ka nk kc] V fun e w' => e = .returned (.bool true) ∧ Below V.heap.size V w') := fun V hV => by
      have u2 := HKK.out
      have b2 := below_on BV2.out hV
      exact says_end (Q2.later hV) (R2.later hV) HM1.out HLL.out.2 m2 HRL.out.2 HNS.out HNF.out (SmS.set sys his) (SmF.refl _) (by have := HK.out.later b2; rw [← HNK.out] at this; exact this) HNK.out HZ.out u2.1 u2.2 (HT.out.later b2) JD
    have KQ2 : Hid (∀ V, Below V2.heap.size V2 V → PgB V gq (.slice (some ⟨gs, 0, none⟩) ns c1) (.slice (some ⟨gf, 0, none⟩) nf c2)) := fun V hV => kq2.later hV
    have KR2 : Hid (∀ V, Below V2.heap.size V2 V → PgB V gr (.slice (some ⟨hs, 0, none⟩) ns d1) (.slice (some ⟨hf, 0, none⟩) nf d2)) := fun V hV => kr2.later hV
    clear hb y0 y1 y0' y1' hcq hcq1 kq2 kr2 Q2 R2 m2 P n1 n3 n6 n7
    unfold putI at hV2
    dsimp only at hV2
    go_region_held3 (fun V => V.cell? ⟨gr, 0, none⟩ = some (.slice (some ⟨hs, 0, none⟩) ns d1) ∧ V.cell? ⟨hs, k * 8 + 7, none⟩ = some (.slice (some ⟨gd, od, none⟩) n5 cd) ∧ V.cell? ⟨gb, 0, none⟩ = some (.int .i64 bo) ∧ V.cell? ⟨gb, 1, none⟩ = some (.int .i64 ba)) (first | exact s0 | (rw [← hV2]; exact s1.out)) (fail)
    rw [← hV2]
    clear hV2 x1 x2 x3 x4 s0 s1 u1 u2 hcc
    go_upto_region 23 with fail
    have b4 : Below V2.heap.size V2 V2.drew.drew := below_on (below_drew _) (below_drew _)
    obtain ⟨V3, hV3⟩ : ∃ X, X = V2.drew.drew := ⟨_, rfl⟩
    rw [← hV3] at b4
    rw [← hV3]
    have B3 := hide (below_on BV2.out b4)
    have J3 := hide (J2.out V3 b4)
    obtain ⟨q0, q1⟩ := (KQ2.out V3 b4).c
    obtain ⟨r0, r1⟩ := (KR2.out V3 b4).c
    clear hV3 b4 J2
    go_wp2_with fail
    refine J3.out.mono ?_
    rintro e V4 ⟨rfl, b5⟩
    have B4 := hide (below_on B3.out b5)
    clear b5 J3 q0 q1 r0 r1
    go_wp2_with fail
    go_ret
    exact ⟨rfl, B4.out⟩
  · have t1 : ¬ (k : Int) < (ns : Int) := by omega
    obtain ⟨j, hj⟩ : ∃ j, j = k - ns := ⟨_, rfl⟩
    have tj : IntKind.i64.wrap ((k : Int) - (ns : Int)) = (j : Int) := by rw [IntKind.wrap_i64]; omega
    have tjn : (j : Int) < (nf : Int) := by omega
    have his : j < fns.length := by have := HNF.out; omega
    obtain ⟨g, o, rfl, -, -, -, vc, -, -, -, z8, hil⟩ := (HF.out.later B8.out).nth his
    obtain ⟨a5, c5, rfl, cc1, cc2⟩ := hil.at
    obtain ⟨n5, hn5⟩ : ∃ n, n = fns[j].code.length := ⟨_, rfl⟩
    rw [← hn5] at z8 cc1
    have HN5 : Hid (n5 = fns[j].code.length) := hn5
    have HM5 : Hid (n5 ≤ 9223372036854775807) := by
      unfold Hid
      omega
    clear hil cc1 cc2 hn5 hj hk hn1 hkn
    go_upto_region 18 with fail
    by_cases h5 : n5 = 0
    · have tn : ((n5 : Int) == 0) = true := by rw [h5]; rfl
      go_wp2_with fail
      go_ret
      exact ⟨rfl, B8.out⟩
    have tn : ((n5 : Int) == 0) = false := beq_eq_false_iff_ne.2 (by omega)
    have J9 : Hid (Calls Tryz.prog 7 #[.int .i64 at_, .int .i64 (n5 : Int)] W8 fun e w' => (∃ i : Nat, i < n5 ∧ e = .returned (.int .i64 (i : Int))) ∧ w' = W8) := lpickW_any at_ HW.out.2 n5 (by omega) HM5.out W8
    have H50 := hide h5
    clear h5
    go_upto_region 20 with fail
    go_wp2_with fail
    refine J9.out.mono ?_
    rintro e W9 ⟨⟨i, hi, rfl⟩, rfl⟩
    go_wp2_with fail
    obtain ⟨gc, oc, cc, vq, lf', P, hcq, hcq1, Q1, R1, m1, hr1⟩ := wayF1 (b := ⟨bo, ba⟩) (i := i) (HL.out.later D8.out) HRS.out HR.out D5.out.size HLL.out.2 his HN5.out hi HB.out
    obtain ⟨V1, hV1⟩ : ∃ X, X = putI W9 gc (oc + i * 2) ⟨bo, ba⟩ := ⟨_, rfl⟩
    rw [← hV1] at hcq1 Q1 R1
    have n1 := P.nn
    have n3 := HSZ.out
    have BV1 : Hid (Below w.heap.size w V1) := by unfold Hid; rw [hV1]; exact below_put B8.out (by omega)
    have CV1 : Hid (Below W1.heap.size W1 V1) := by unfold Hid; rw [hV1]; exact below_put C8.out (by omega)
    have kq0 := KQ.out W9 D8.out
    have kq1 : PgB V1 gq (.slice (some ⟨gs, 0, none⟩) ns c1) (.slice (some ⟨gf, 0, none⟩) nf c2) := by rw [hV1]; exact kq0.put (.of P.q)
    have kr1 : PgB V1 gr (.slice (some ⟨hs, 0, none⟩) ns d1) (.slice (some ⟨hf, 0, none⟩) nf d2) := by rw [hV1]; exact KR.out.put (.of P.q)
    have hi6 : (i : Int) < (n5 : Int) := by omega
    obtain ⟨u1, x1⟩ := P.x
    obtain ⟨u2, x2⟩ := P.y
    obtain ⟨cs, t, hb⟩ := P.b
    have x3 := frozen_of_row W9 gc (oc + i * 2) cs t hb
    have x4 := frozen_of_row W9 gc (oc + i * 2 + 1) cs t hb
    have hcc := P.h1
    obtain ⟨-, y0', y1'⟩ := KW.out V1 CV1.out
    have s0 : W9.drew.cell? ⟨gq, 1, none⟩ = some (.slice (some ⟨gf, 0, none⟩) nf c2) ∧ W9.drew.cell? ⟨gf, j * 4 + 3, none⟩ = some (.slice (some ⟨gc, oc, none⟩) n5 cc) ∧ W9.drew.cell? ⟨gb, 0, none⟩ = some (.int .i64 bo) ∧ W9.drew.cell? ⟨gb, 1, none⟩ = some (.int .i64 ba) := ⟨kq0.c.2, hcq, y0, y1⟩
    have s1 : Hid (V1.drew.cell? ⟨gq, 1, none⟩ = some (.slice (some ⟨gf, 0, none⟩) nf c2) ∧ V1.drew.cell? ⟨gf, j * 4 + 3, none⟩ = some (.slice (some ⟨gc, oc, none⟩) n5 cc) ∧ V1.drew.cell? ⟨gb, 0, none⟩ = some (.int .i64 bo) ∧ V1.drew.cell? ⟨gb, 1, none⟩ = some (.int .i64 ba)) := ⟨kq1.c.2, hcq1, y0', y1'⟩
    have KQ1 := hide kq1
    have KR1 := hide kr1
    have HQ1 := hide Q1
    have HR1 := hide R1
    have HM1 := hide m1
    have HHR1 := hide hr1
    have HI := hide hi
    clear hb p0 p1 y0 y1 y0' y1' hcq hcq1 kq0 kq1 kr1 Q1 R1 m1 hr1 P n1 n3 hi
    unfold putI at hV1
    dsimp only at hV1
    go_region_held3 (fun V => V.cell? ⟨gq, 1, none⟩ = some (.slice (some ⟨gf, 0, none⟩) nf c2) ∧ V.cell? ⟨gf, j * 4 + 3, none⟩ = some (.slice (some ⟨gc, oc, none⟩) n5 cc) ∧ V.cell? ⟨gb, 0, none⟩ = some (.int .i64 bo) ∧ V.cell? ⟨gb, 1, none⟩ = some (.int .i64 ba)) (first | exact s0 | (rw [← hV1]; exact s1.out)) (fail)
    rw [← hV1]
    clear hV1 x1 x2 x3 x4 s0 s1 u1 u2 hcc
    go_wp2_with fail
    obtain ⟨gd, od, cd, vd, rf', P, hcq, hcq1, Q2, R2, m2⟩ := wayF2 (b := ⟨bo, ba⟩) (i := i) HQ1.out HHR1.out HR1.out HRR.out D5.out.size HRL.out.2 his HN5.out HI.out HB.out
    obtain ⟨V2, hV2⟩ : ∃ X, X = putI V1 gd (od + i * 2) ⟨bo, ba⟩ := ⟨_, rfl⟩
    rw [← hV2] at hcq1 Q2 R2
    have n1 := P.nn
    have n3 := HSZ.out
    have n6 := B5.out.size
    have n7 := C5.out.size
    have BV2 : Hid (Below w.heap.size w V2) := by unfold Hid; rw [hV2]; exact below_put BV1.out (by omega)
    have CV2 : Hid (Below W1.heap.size W1 V2) := by unfold Hid; rw [hV2]; exact below_put CV1.out (by omega)
    have kq2 : PgB V2 gq (.slice (some ⟨gs, 0, none⟩) ns c1) (.slice (some ⟨gf, 0, none⟩) nf c2) := by rw [hV2]; exact KQ1.out.put (.of P.q)
    have kr2 : PgB V2 gr (.slice (some ⟨hs, 0, none⟩) ns d1) (.slice (some ⟨hf, 0, none⟩) nf d2) := by rw [hV2]; exact KR1.out.put (.of P.q)
    obtain ⟨u1, x1⟩ := P.x
    obtain ⟨u2, x2⟩ := P.y
    obtain ⟨cs, t, hb⟩ := P.b
    have x3 := frozen_of_row V1 gd (od + i * 2) cs t hb
    have x4 := frozen_of_row V1 gd (od + i * 2 + 1) cs t hb
    have hcc := P.h1
    obtain ⟨-, y0, y1⟩ := KW.out V1 CV1.out
    obtain ⟨-, y0', y1'⟩ := KW.out V2 CV2.out
    have s0 : V1.cell? ⟨gr, 1, none⟩ = some (.slice (some ⟨hf, 0, none⟩) nf d2) ∧ V1.cell? ⟨hf, j * 4 + 3, none⟩ = some (.slice (some ⟨gd, od, none⟩) n5 cd) ∧ V1.cell? ⟨gb, 0, none⟩ = some (.int .i64 bo) ∧ V1.cell? ⟨gb, 1, none⟩ = some (.int .i64 ba) := ⟨KR1.out.c.2, hcq, y0, y1⟩
    have s1 : Hid (V2.cell? ⟨gr, 1, none⟩ = some (.slice (some ⟨hf, 0, none⟩) nf d2) ∧ V2.cell? ⟨hf, j * 4 + 3, none⟩ = some (.slice (some ⟨gd, od, none⟩) n5 cd) ∧ V2.cell? ⟨gb, 0, none⟩ = some (.int .i64 bo) ∧ V2.cell? ⟨gb, 1, none⟩ = some (.int .i64 ba)) := ⟨kr2.c.2, hcq1, y0', y1'⟩
    have J2 : Hid (∀ V, Below V2.heap.size V2 V → Calls Tryz.prog 6 #[.agg #[.slice (some ⟨gs, 0, none⟩) ns c1, .slice (some ⟨gf, 0, none⟩) nf c2], .agg #[.slice (some ⟨hs, 0, none⟩) ns d1, .slice (some ⟨hf, 0, none⟩) nf d2], .slice ka nk kc] V fun e w' => e = .returned (.bool true) ∧ Below V.heap.size V w') := fun V hV => by
      have u2 := HKK.out
      have b2 := below_on BV2.out hV
      exact says_end (Q2.later hV) (R2.later hV) HLL.out.1 HM1.out HRL.out.1 m2 HNS.out HNF.out (SmS.refl _) (SmF.set fns his) (by have := HK.out.later b2; rw [← HNK.out] at this; exact this) HNK.out HZ.out u2.1 u2.2 (HT.out.later b2) JD
    have KQ2 : Hid (∀ V, Below V2.heap.size V2 V → PgB V gq (.slice (some ⟨gs, 0, none⟩) ns c1) (.slice (some ⟨gf, 0, none⟩) nf c2)) := fun V hV => kq2.later hV
    have KR2 : Hid (∀ V, Below V2.heap.size V2 V → PgB V gr (.slice (some ⟨hs, 0, none⟩) ns d1) (.slice (some ⟨hf, 0, none⟩) nf d2)) := fun V hV => kr2.later hV
    clear hb y0 y1 y0' y1' hcq hcq1 kq2 kr2 Q2 R2 m2 P n1 n3 n6 n7
    unfold putI at hV2
    dsimp only at hV2
    go_region_held3 (fun V => V.cell? ⟨gr, 1, none⟩ = some (.slice (some ⟨hf, 0, none⟩) nf d2) ∧ V.cell? ⟨hf, j * 4 + 3, none⟩ = some (.slice (some ⟨gd, od, none⟩) n5 cd) ∧ V.cell? ⟨gb, 0, none⟩ = some (.int .i64 bo) ∧ V.cell? ⟨gb, 1, none⟩ = some (.int .i64 ba)) (first | exact s0 | (rw [← hV2]; exact s1.out)) (fail)
    rw [← hV2]
    clear hV2 x1 x2 x3 x4 s0 s1 u1 u2 hcc
    go_upto_region 23 with fail
    have b4 : Below V2.heap.size V2 V2.drew.drew := below_on (below_drew _) (below_drew _)
    obtain ⟨V3, hV3⟩ : ∃ X, X = V2.drew.drew := ⟨_, rfl⟩
    rw [← hV3] at b4
    rw [← hV3]
    have B3 := hide (below_on BV2.out b4)
    have J3 := hide (J2.out V3 b4)
    obtain ⟨q0, q1⟩ := (KQ2.out V3 b4).c
    obtain ⟨r0, r1⟩ := (KR2.out V3 b4).c
    clear hV3 b4 J2
    go_wp2_with fail
    refine J3.out.mono ?_
    rintro e V4 ⟨rfl, b5⟩
    have B4 := hide (below_on B3.out b5)
    clear b5 J3 q0 q1 r0 r1
    go_wp2_with fail
    go_ret
    exact ⟨rfl, B4.out⟩
end Go.Proofs.YtfkhhplcogedmaaGreatDoor
