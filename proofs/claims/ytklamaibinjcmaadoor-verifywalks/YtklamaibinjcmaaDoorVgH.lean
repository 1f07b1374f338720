/-
  Verify: the law's touches, where all may be touched.
-/
import Derived.Test.YtklamaibinjcmaaDoorVfV
namespace Go.Proofs.YtklamaibinjcmaaDoor
open Go.RowKit
set_option maxRecDepth 100000
theorem tdiv_pos {a : Int} (h : 1 ≤ a.tdiv 8) : 0 ≤ a := by
  apply Classical.byContradiction
  intro c
  have e : a = -(-a) := by omega
  rw [e, Int.neg_tdiv, Int.tdiv_eq_ediv_of_nonneg (by omega)] at h
  omega
/-- A kind's fields. -/
theorem Kr.fd {W : World} {ka : Option Addr} {nk kc : Nat} {ks : List Kind} (h : Kr W (.slice ka nk kc) ks) {q : Int} (h1 : 1 ≤ q) (h2 : q ≤ (ks.length : Int)) : ∃ j g o af cf, j < ks.length ∧ q = (j : Int) + 1 ∧ ka = some ⟨g, o, none⟩ ∧ W.cell? ⟨g, o + j * 2 + 1, none⟩ = some (.slice af (fdN ks q.toNat) cf) ∧ fdN ks q.toNat ≤ cf ∧ cf ≤ 9223372036854775807 := by
  obtain ⟨j, hj⟩ : ∃ j : Nat, q = (j : Int) + 1 := ⟨(q - 1).toNat, by omega⟩
  obtain ⟨ao, c, e, -, -, h3⟩ := h
  simp only [Value.slice.injEq] at e
  obtain ⟨rfl, -, -⟩ := e
  obtain ⟨g, o, vf, rfl, -, y2, y3⟩ := h3 j (by omega)
  obtain ⟨af, cf, rfl, f1, f2, -⟩ := y3
  have hf : fdN ks q.toNat = (ks[j]'(by omega)).2.length := by
    unfold fdN
    have e1 : q.toNat - 1 = j := by omega
    rw [e1, List.getD_eq_getElem?_getD, List.getElem?_eq_getElem (by omega)]
    rfl
  rw [← hf] at y2 f1
  exact ⟨j, g, o, af, cf, by omega, hj, rfl, y2, f1, by unfold maxLen at f2; omega⟩
set_option maxHeartbeats 8000000 in
theorem touches_true {Q : Nat → Prop} {W : World} {vs vf vk vc : Value} {p : Pg} {ks : List Kind} (hp : Pgm Q W vs vf p) (hk : Kr W vk ks) (r : Ro) (a k : Nat) (hc : Il Q W vc r.rt.code) (hi6 : I6 (iat r.rt.code a).a) (hm : mtI p.fns.length ks r a = true) (hj : isJ (iat r.rt.code a) = true → thereI r.rt.code (iat r.rt.code a).a = true) (hkk : ∀ q, q ∈ r.re ∨ q ∈ r.wr → 1 ≤ q ∧ q ≤ (ks.length : Int)) (hsy : r.sy = true → ∃ h : k < p.sys.length, p.sys[k].re = r.re ∧ p.sys[k].wr = r.wr) (_h16 : p.fns.length ≤ 16) : Calls Tryd.prog 19 #[.agg #[vs, vf], vk, rtV r.rt vc, .bool r.sy, .int .i64 (k : Int), insV (iat r.rt.code a)] W fun e w' => e = .returned (.bool true) ∧ Below W.heap.size W w' := by
  obtain ⟨rt, pl, sy, re, wrt⟩ := r
  obtain ⟨nm, pa, lo, code⟩ := rt
  dsimp only [rtV, insV] at hc hi6 hm hj hkk hsy ⊢
  obtain ⟨sa, sc, rfl, s1, s2⟩ := hp.1.at
  obtain ⟨fa, fc, rfl, f1, f2⟩ := hp.2.at
  have HKR := hide hk
  obtain ⟨ka, kc, rfl, k1, k2, -⟩ := hk
  have k3 : kc ≤ 9223372036854775807 := by unfold maxLen at k2; omega
  obtain ⟨ac, cc, rfl, c1, c2⟩ := hc.at
  have HMT := hide hm
  unfold mtI at hm
  dsimp only at hm
  have HS := hide hp.1
  have HSY := hide hsy
  obtain ⟨op, hop⟩ : ∃ y, y = (iat code a).op := ⟨_, rfl⟩
  obtain ⟨av, hav⟩ : ∃ y, y = (iat code a).a := ⟨_, rfl⟩
  have HJ : Hid (op = 19 ∨ op = 20 → 0 ≤ av ∧ av < (code.length : Int)) := fun h => by
    have h1 := hj (by unfold isJ; rw [← hop]; exact decide_eq_true h)
    unfold thereI at h1
    rw [← hav] at h1
    exact of_decide_eq_true h1
  have HE : Hid (mtE ks re wrt code a = true → (op = 5 → av.tdiv 8 ∈ wrt ∧ av.tmod 8 < fdI ks (av.tdiv 8)) ∧ (op = 4 → (av.tdiv 8 ∈ re ∨ av.tdiv 8 ∈ wrt) ∧ av.tmod 8 < fdI ks (av.tdiv 8)) ∧ (op = 26 ∨ op = 28 → (1 ≤ av.tdiv 8 ∧ av.tdiv 8 ≤ (ks.length : Int)) ∧ av.tmod 8 = fdI ks (av.tdiv 8)) ∧ (op = 29 ∨ op = 35 → 1 ≤ av ∧ av ≤ (ks.length : Int))) := fun h => by
    unfold mtE at h
    rw [← hop, ← hav] at h
    refine ⟨fun e => ?_, fun e => ?_, fun e => ?_, fun e => ?_⟩
    · subst e
      simpa using h
    · subst e
      simpa using h
    · rcases e with e | e
      · subst e
        have h2 : inrI code a = true ∧ isK ks (av.tdiv 8) = true ∧ av.tmod 8 = fdI ks (av.tdiv 8) := by simpa using h
        exact ⟨of_decide_eq_true h2.2.1, h2.2.2⟩
      · subst e
        have h2 : isK ks (av.tdiv 8) = true ∧ av.tmod 8 = fdI ks (av.tdiv 8) := by simpa using h
        exact ⟨of_decide_eq_true h2.1, h2.2⟩
    · rcases e with e | e
      · subst e
        have h2 : isK ks av = true := by simpa using h
        exact of_decide_eq_true h2
      · subst e
        have h2 : isK ks av = true := by simpa using h
        exact of_decide_eq_true h2
  rw [← hop, ← hav] at hm
  rw [← hop, ← hav]
  rw [← hav] at hi6
  obtain ⟨hi1, hi2⟩ := hi6
  have t1 : IntKind.i64.wrap (av.tdiv 8) = av.tdiv 8 := by have := tdiv_b (a := av) ⟨hi1, hi2⟩; unfold I6 at this; rw [IntKind.wrap_i64]; omega
  have HKK := hide hkk
  obtain ⟨nc, hnc⟩ : ∃ y, y = code.length := ⟨_, rfl⟩
  obtain ⟨ns, hns⟩ : ∃ y, y = p.sys.length := ⟨_, rfl⟩
  obtain ⟨nf, hnf⟩ : ∃ y, y = p.fns.length := ⟨_, rfl⟩
  obtain ⟨nk, hnk⟩ : ∃ y, y = ks.length := ⟨_, rfl⟩
  have HNK := hide hnk
  have HNS := hide hns
  rw [← hnc] at c1 HJ
  rw [← hnf] at f1 hm
  rw [← hns] at s1
  rw [← hnk] at k1
  rw [← hns, ← hnf, ← hnk, ← hnc]
  clear hp hop hav hc hj hkk hsy hnc hns hnf hnk k2 HMT
  obtain ⟨W1, hW1⟩ : ∃ X, X = ((W.alloc (.cells #[.slice sa ns sc, .slice fa nf fc] 25)).alloc (.cells #[.string nm, .int .i64 pa, .int .i64 lo, .slice ac nc cc] 28)).alloc (.cells #[.int .i64 op, .int .i64 av] 47) := ⟨_, rfl⟩
  have b1 : Below W.heap.size W W1 := by rw [hW1]; exact below_on (below_on (below_alloc W _) (below_alloc _ _)) (below_alloc _ _)
  obtain ⟨g6, hg6⟩ : ∃ y, y = W.heap.size := ⟨_, rfl⟩
  obtain ⟨g8, hg8⟩ : ∃ y, y = W.heap.size + 1 := ⟨_, rfl⟩
  obtain ⟨g11, hg11⟩ : ∃ y, y = W.heap.size + 1 + 1 := ⟨_, rfl⟩
  have q6 : W1.heap[g6]? = some (.cells #[.slice sa ns sc, .slice fa nf fc] 25 (0, 0)) := by
    rw [hW1, hg6]
    have h0 := heap_alloc_new W (.cells #[.slice sa ns sc, .slice fa nf fc] 25)
    have h1 := (below_alloc (W.alloc (.cells #[.slice sa ns sc, .slice fa nf fc] 25)) (.cells #[.string nm, .int .i64 pa, .int .i64 lo, .slice ac nc cc] 28)).block W.heap.size (by simp)
    have h2 := (below_alloc ((W.alloc (.cells #[.slice sa ns sc, .slice fa nf fc] 25)).alloc (.cells #[.string nm, .int .i64 pa, .int .i64 lo, .slice ac nc cc] 28)) (.cells #[.int .i64 op, .int .i64 av] 47)).block W.heap.size (by simp; omega)
    exact h2.trans (h1.trans h0)
  have q8 : W1.heap[g8]? = some (.cells #[.string nm, .int .i64 pa, .int .i64 lo, .slice ac nc cc] 28 (0, 0)) := by
    rw [hW1, hg8]
    have h0 := heap_alloc_new (W.alloc (.cells #[.slice sa ns sc, .slice fa nf fc] 25)) (.cells #[.string nm, .int .i64 pa, .int .i64 lo, .slice ac nc cc] 28)
    have e : (W.alloc (.cells #[.slice sa ns sc, .slice fa nf fc] 25)).heap.size = W.heap.size + 1 := by simp
    rw [e] at h0
    have h2 := (below_alloc ((W.alloc (.cells #[.slice sa ns sc, .slice fa nf fc] 25)).alloc (.cells #[.string nm, .int .i64 pa, .int .i64 lo, .slice ac nc cc] 28)) (.cells #[.int .i64 op, .int .i64 av] 47)).block (W.heap.size + 1) (by simp)
    exact h2.trans h0
  have q11 : W1.heap[g11]? = some (.cells #[.int .i64 op, .int .i64 av] 47 (0, 0)) := by
    rw [hW1, hg11]
    have h0 := heap_alloc_new ((W.alloc (.cells #[.slice sa ns sc, .slice fa nf fc] 25)).alloc (.cells #[.string nm, .int .i64 pa, .int .i64 lo, .slice ac nc cc] 28)) (.cells #[.int .i64 op, .int .i64 av] 47)
    have e : ((W.alloc (.cells #[.slice sa ns sc, .slice fa nf fc] 25)).alloc (.cells #[.string nm, .int .i64 pa, .int .i64 lo, .slice ac nc cc] 28)).heap.size = W.heap.size + 1 + 1 := by simp
    rw [e] at h0
    exact h0
  obtain ⟨x0, x1⟩ := row2 q11
  obtain ⟨-, -, z2, z3⟩ := row4 q8
  have y0 : W1.cell? ⟨g6, 0, none⟩ = some (.slice sa ns sc) := by rw [cell_of_row W1 _ _ _ 25 (0, 0) q6]; rfl
  have y1 : W1.cell? ⟨g6, 1, none⟩ = some (.slice fa nf fc) := by rw [cell_of_row W1 _ _ _ 25 (0, 0) q6]; rfl
  have B1 := hide b1
  have Q15 := hide (show W1.heap[g6]? = _ ∧ W1.heap[g11]? = _ from ⟨q6, q11⟩)
  go_enter Tryd.func19, Tryd.ntmps19
  go_upto_region 1 with fail
  rw [← hW1, ← hg11, ← hg8, ← hg6]
  clear hW1 hg6 hg8 hg11 b1 q6 q8 q11
  by_cases o2 : op = 2 ∨ op = 3
  · rw [if_pos o2] at hm
    have hm' := of_decide_eq_true hm
    obtain ⟨m1, m2⟩ := hm'
    rcases o2 with o2 | o2
    · subst o2
      clear hm HS HE HJ
      go_wp2_with fail
      go_ret
      exact ⟨rfl, B1.out⟩
    · subst o2
      clear hm HS HE HJ
      go_wp2_with fail
      go_ret
      exact ⟨rfl, B1.out⟩
  · rw [if_neg o2] at hm
    have f2 : (op == 2) = false := beq_eq_false_iff_ne.2 (fun e => o2 (.inl e))
    have f3 : (op == 3) = false := beq_eq_false_iff_ne.2 (fun e => o2 (.inr e))
    clear o2
    by_cases o21 : op = 21
    · rw [if_pos o21] at hm
      subst o21
      obtain ⟨m1, m2⟩ := of_decide_eq_true hm
      clear hm HS HE HJ
      go_wp2_with fail
      go_ret
      exact ⟨rfl, B1.out⟩
    · rw [if_neg o21] at hm
      have f21 : (op == 21) = false := beq_eq_false_iff_ne.2 o21
      clear o21
      by_cases oj : op = 19 ∨ op = 20
      · obtain ⟨m1, m2⟩ := HJ.out oj
        clear hm HS HE HJ
        rcases oj with oj | oj
        · subst oj
          go_wp2_with fail
          go_ret
          exact ⟨rfl, B1.out⟩
        · subst oj
          go_wp2_with fail
          go_ret
          exact ⟨rfl, B1.out⟩
      · have f19 : (op == 19) = false := beq_eq_false_iff_ne.2 (fun e => oj (.inl e))
        have f20 : (op == 20) = false := beq_eq_false_iff_ne.2 (fun e => oj (.inr e))
        clear oj HJ
        by_cases o5 : op = 5
        · subst o5
          obtain ⟨hsyT, hmE⟩ : sy = true ∧ mtE ks re wrt code a = true := by simpa [ent] using hm
          subst hsyT
          obtain ⟨md, mf⟩ := (HE.out hmE).1 rfl
          have hq := HKK.out _ (.inr md)
          have MD : Hid (av.tdiv 8 ∈ wrt ∨ False) := .inl md
          have hav0 := tdiv_pos hq.1
          obtain ⟨j, gk, ok, af, cf, hjk, hqj, hka, dk, hf1, hf2⟩ := HKR.out.fd hq.1 hq.2
          subst hka
          obtain ⟨hks, hre', hwr'⟩ := HSY.out rfl
          obtain ⟨gs, os, hsa, -, hat⟩ := HS.out.nth hks
          subst hsa
          obtain ⟨a1, a2, a3, a4, a5, n1, n2, n3, n4, n5, e1, e2, e3, e4, e5, HV, u1, u2, u3, u4, u5, u6, u7, u8⟩ := hat.vs
          have hM := Mv.of_below B1.out (fun _ => False)
          have v1 := hM.cell u1 id
          have v2 := hM.cell u2 id
          have v3 := hM.cell u3 id
          have v4 := hM.cell u4 id
          have v5 := hM.cell u5 id
          have v6 := hM.cell u6 id
          have v7 := hM.cell u7 id
          have v8 := hM.cell u8 id
          have dk1 := hM.cell dk id
          have HRE : Hid (Nl Q W (.slice a3 n3 e3) re) := hre' ▸ HV.re
          have HWR : Hid (Nl Q W (.slice a4 n4 e4) wrt) := hwr' ▸ HV.wr
          obtain ⟨kq, hkq⟩ : ∃ y, y = av.tdiv 8 := ⟨_, rfl⟩
          obtain ⟨cq, hcq⟩ : ∃ y, y = av.tmod 8 := ⟨_, rfl⟩
          rw [← hkq] at t1 hq hqj mf MD dk1 hf1
          rw [← hcq] at mf
          have t2 : av.tmod 8 = cq := hcq.symm
          have t1' : IntKind.i64.wrap (av.tdiv 8) = kq := by rw [← hkq]; exact t1
          have t3 : av.tdiv 8 = kq := hkq.symm
          unfold fdI at mf
          obtain ⟨fd, hfd⟩ : ∃ y, y = fdN ks kq.toNat := ⟨_, rfl⟩
          rw [← hfd] at mf dk1 hf1
          have w1 : ¬ kq < 1 := by omega
          have w2 : ¬ kq > (nk : Int) := by have := HNK.out; omega
          have w3 : IntKind.i64.wrap (kq - 1) = (j : Int) := by rw [IntKind.wrap_i64]; have := HNK.out; omega
          have w4 : (j : Int) < (nk : Int) := by have := HNK.out; omega
          have w5 : ¬ cq ≥ (fd : Int) := by omega
          have w6 : ¬ av < 0 := by omega
          have w7 : kq - 1 = (j : Int) := by omega
          have w8 : (k : Int) < (ns : Int) := by have := HNS.out; omega
          generalize p.sys[k] = sk at *
          obtain ⟨swi, swo, sre, swr, snm, spa, slo, scode⟩ := sk
          dsimp only at v5 v6 v7
          clear hm hmE md hq hqj hre' hwr' hat HV hM u1 u2 u3 u4 u5 u6 u7 u8 dk hkq hcq hfd HS HSY HE
          go_upto_region 17 with fail
          obtain ⟨g15, hg15⟩ : ∃ y, y = W1.heap.size := ⟨_, rfl⟩
          obtain ⟨W2, hW2⟩ : ∃ X, X = W1.alloc (.cells #[.slice a1 n1 e1, .slice a2 n2 e2, .slice a3 n3 e3, .slice a4 n4 e4, .string snm, .int .i64 spa, .int .i64 slo, .slice a5 n5 e5] 60) := ⟨_, rfl⟩
          have b2 : Below W1.heap.size W1 W2 := hW2 ▸ below_alloc W1 _
          have k15 : W2.heap[g15]? = some (.cells #[.slice a1 n1 e1, .slice a2 n2 e2, .slice a3 n3 e3, .slice a4 n4 e4, .string snm, .int .i64 spa, .int .i64 slo, .slice a5 n5 e5] 60 (0, 0)) := by rw [hW2, hg15]; exact heap_alloc_new W1 _
          rw [← hW2, ← hg15]
          have B2 := hide (below_on B1.out b2)
          obtain ⟨-, -, p3, p4, -⟩ := row8 k15
          have x0' := (Mv.of_below b2 (fun _ => False)).cell x0 id
          obtain ⟨aa4, ee4, hh4, hl4, hl4'⟩ := HWR.out.at
          simp only [Value.slice.injEq] at hh4
          obtain ⟨rfl, hn4, rfl⟩ := hh4
          obtain ⟨aa3, ee3, hh3, hl3, hl3'⟩ := HRE.out.at
          simp only [Value.slice.injEq] at hh3
          obtain ⟨rfl, hn3, rfl⟩ := hh3
          have HN4 := hide hn4
          have HN3 := hide hn3
          have hcap4 : n4 ≤ e4 := by rw [hn4]; exact hl4
          have hcap3 : n3 ≤ e3 := by rw [hn3]; exact hl3
          clear hW2 hg15 b2 k15 x0 x1 y0 y1 z2 z3 v1 v2 v3 v4 v5 v6 v7 v8 dk1 hn4 hn3 hl4 hl3 Q15
          go_wp2_with fail
          go_loopw [16, 17] (fun v16 v17 V => ∃ (i : Nat) (b : Bool), i ≤ n4 ∧ v17 = .int .i64 (i : Int) ∧ v16 = .bool b ∧ V = W2 ∧ Hid (b = true ↔ kq ∈ wrt.take i)) (fun _ v17 _ => n4 - (intOf v17).toNat)
          case atStart => exact ⟨0, false, Nat.zero_le _, rfl, rfl, rfl, by unfold Hid; simp⟩
          case round =>
            obtain ⟨i, b, hi, rfl, rfl, rfl, HB⟩ := hrel
            by_cases hlt : i < n4
            · have r1 : (i : Int) < (n4 : Int) := by omega
              have hiw : i < wrt.length := by have := HN4.out; omega
              have htk : wrt.take (i + 1) = wrt.take i ++ [wrt[i]] := List.take_succ_eq_append_getElem hiw
              obtain ⟨gw, ow, hgw, -, dw, -⟩ := (HWR.out.later B2.out).nth hiw
              subst hgw
              obtain ⟨xw, hxw⟩ : ∃ y, y = wrt[i] := ⟨_, rfl⟩
              rw [← hxw] at dw htk
              clear hxw
              cases b with
              | true =>
                have HB2 : Hid (true = true ↔ kq ∈ wrt.take (i + 1)) := ⟨fun _ => by rw [htk]; simp [HB.out.1 rfl], fun _ => rfl⟩
                clear HB htk
                go_wp2_with fail
                go_roundw
                case rel => exact ⟨i + 1, true, by omega, rfl, rfl, trivial, HB2⟩
                case measure => simp only [intOf]; omega
              | false =>
                have hno : kq ∉ wrt.take i := fun e => absurd (HB.out.2 e) (by decide)
                by_cases ex : xw = kq
                · have HB2 : Hid (true = true ↔ kq ∈ wrt.take (i + 1)) := ⟨fun _ => by rw [htk]; simp [ex], fun _ => rfl⟩
                  have fx : (xw == kq) = true := by simp [ex]
                  clear HB htk hno ex
                  go_wp2_with fail
                  go_roundw
                  case rel => exact ⟨i + 1, true, by omega, rfl, rfl, trivial, HB2⟩
                  case measure => simp only [intOf]; omega
                · have HB2 : Hid (false = true ↔ kq ∈ wrt.take (i + 1)) := ⟨fun e => (by cases e), fun e => by rw [htk, List.mem_append, List.mem_singleton] at e; exact absurd (e.resolve_left hno).symm ex⟩
                  have fx : (xw == kq) = false := beq_eq_false_iff_ne.2 ex
                  clear HB htk hno ex
                  go_wp2_with fail
                  go_roundw
                  case rel => exact ⟨i + 1, false, by omega, rfl, rfl, trivial, HB2⟩
                  case measure => simp only [intOf]; omega
            · have r1 : ¬ (i : Int) < (n4 : Int) := by omega
              have HB1 : Hid (b = true ↔ kq ∈ wrt) := by
                have e : wrt.take i = wrt := List.take_of_length_le (by have := HN4.out; omega)
                have := HB.out
                rw [e] at this
                exact this
              clear HB
              go_wp2_with fail
              go_loopw [16, 18] (fun v16 v18 V => ∃ (i : Nat) (b : Bool), i ≤ n3 ∧ v18 = .int .i64 (i : Int) ∧ v16 = .bool b ∧ V = wr ∧ Hid (b = true ↔ kq ∈ wrt)) (fun _ v18 _ => n3 - (intOf v18).toNat)
              case atStart => exact ⟨0, b, Nat.zero_le _, rfl, rfl, rfl, HB1.out⟩
              case round =>
                obtain ⟨i2, b', hi2, rfl, rfl, rfl, HB⟩ := hrel
                by_cases hlt2 : i2 < n3
                · have r2 : (i2 : Int) < (n3 : Int) := by omega
                  have hir : i2 < re.length := by have := HN3.out; omega
                  have htk : re.take (i2 + 1) = re.take i2 ++ [re[i2]] := List.take_succ_eq_append_getElem hir
                  obtain ⟨gw, ow, hgw, -, dw, -⟩ := (HRE.out.later B2.out).nth hir
                  subst hgw
                  obtain ⟨xw, hxw⟩ : ∃ y, y = re[i2] := ⟨_, rfl⟩
                  rw [← hxw] at dw htk
                  clear hxw
                  cases b' with
                  | true =>
                    clear htk
                    go_wp2_with fail
                    go_roundw
                    case rel => exact ⟨i2 + 1, true, by omega, rfl, rfl, trivial, HB⟩
                    case measure => simp only [intOf]; omega
                  | false =>
                    clear htk
                    go_wp2_with fail
                    go_roundw
                    case rel => exact ⟨i2 + 1, false, by omega, rfl, rfl, trivial, HB⟩
                    case measure => simp only [intOf]; omega
                · have r2 : ¬ (i2 : Int) < (n3 : Int) := by omega
                  have HF : Hid (b' = true) := by
                    exact HB.out.2 (MD.out.resolve_right id)
                  clear HB
                  go_wp2_with fail
                  go_ret
                  exact ⟨ret_bool HF.out, B2.out⟩
        · have f5 : (op == 5) = false := beq_eq_false_iff_ne.2 o5
          by_cases o4 : op = 4
          · subst o4
            obtain ⟨hsyT, hmE⟩ : sy = true ∧ mtE ks re wrt code a = true := by simpa [ent] using hm
            subst hsyT
            obtain ⟨md, mf⟩ := (HE.out hmE).2.1 rfl
            have hq := HKK.out _ md
            have MD : Hid (av.tdiv 8 ∈ wrt ∨ av.tdiv 8 ∈ re) := md.elim .inr .inl
            have hav0 := tdiv_pos hq.1
            obtain ⟨j, gk, ok, af, cf, hjk, hqj, hka, dk, hf1, hf2⟩ := HKR.out.fd hq.1 hq.2
            subst hka
            obtain ⟨hks, hre', hwr'⟩ := HSY.out rfl
            obtain ⟨gs, os, hsa, -, hat⟩ := HS.out.nth hks
            subst hsa
            obtain ⟨a1, a2, a3, a4, a5, n1, n2, n3, n4, n5, e1, e2, e3, e4, e5, HV, u1, u2, u3, u4, u5, u6, u7, u8⟩ := hat.vs
            have hM := Mv.of_below B1.out (fun _ => False)
            have v1 := hM.cell u1 id
            have v2 := hM.cell u2 id
            have v3 := hM.cell u3 id
            have v4 := hM.cell u4 id
            have v5 := hM.cell u5 id
            have v6 := hM.cell u6 id
            have v7 := hM.cell u7 id
            have v8 := hM.cell u8 id
            have dk1 := hM.cell dk id
            have HRE : Hid (Nl Q W (.slice a3 n3 e3) re) := hre' ▸ HV.re
            have HWR : Hid (Nl Q W (.slice a4 n4 e4) wrt) := hwr' ▸ HV.wr
            obtain ⟨kq, hkq⟩ : ∃ y, y = av.tdiv 8 := ⟨_, rfl⟩
            obtain ⟨cq, hcq⟩ : ∃ y, y = av.tmod 8 := ⟨_, rfl⟩
            rw [← hkq] at t1 hq hqj mf MD dk1 hf1
            rw [← hcq] at mf
            have t2 : av.tmod 8 = cq := hcq.symm
            have t1' : IntKind.i64.wrap (av.tdiv 8) = kq := by rw [← hkq]; exact t1
            have t3 : av.tdiv 8 = kq := hkq.symm
            unfold fdI at mf
            obtain ⟨fd, hfd⟩ : ∃ y, y = fdN ks kq.toNat := ⟨_, rfl⟩
            rw [← hfd] at mf dk1 hf1
            have w1 : ¬ kq < 1 := by omega
            have w2 : ¬ kq > (nk : Int) := by have := HNK.out; omega
            have w3 : IntKind.i64.wrap (kq - 1) = (j : Int) := by rw [IntKind.wrap_i64]; have := HNK.out; omega
            have w4 : (j : Int) < (nk : Int) := by have := HNK.out; omega
            have w5 : ¬ cq ≥ (fd : Int) := by omega
            have w6 : ¬ av < 0 := by omega
            have w7 : kq - 1 = (j : Int) := by omega
            have w8 : (k : Int) < (ns : Int) := by have := HNS.out; omega
            generalize p.sys[k] = sk at *
            obtain ⟨swi, swo, sre, swr, snm, spa, slo, scode⟩ := sk
            dsimp only at v5 v6 v7
            clear hm hmE md hq hqj hre' hwr' hat HV hM u1 u2 u3 u4 u5 u6 u7 u8 dk hkq hcq hfd HS HSY HE
            go_upto_region 17 with fail
            obtain ⟨g15, hg15⟩ : ∃ y, y = W1.heap.size := ⟨_, rfl⟩
            obtain ⟨W2, hW2⟩ : ∃ X, X = W1.alloc (.cells #[.slice a1 n1 e1, .slice a2 n2 e2, .slice a3 n3 e3, .slice a4 n4 e4, .string snm, .int .i64 spa, .int .i64 slo, .slice a5 n5 e5] 60) := ⟨_, rfl⟩
            have b2 : Below W1.heap.size W1 W2 := hW2 ▸ below_alloc W1 _
            have k15 : W2.heap[g15]? = some (.cells #[.slice a1 n1 e1, .slice a2 n2 e2, .slice a3 n3 e3, .slice a4 n4 e4, .string snm, .int .i64 spa, .int .i64 slo, .slice a5 n5 e5] 60 (0, 0)) := by rw [hW2, hg15]; exact heap_alloc_new W1 _
            rw [← hW2, ← hg15]
            have B2 := hide (below_on B1.out b2)
            obtain ⟨-, -, p3, p4, -⟩ := row8 k15
            have x0' := (Mv.of_below b2 (fun _ => False)).cell x0 id
            obtain ⟨aa4, ee4, hh4, hl4, hl4'⟩ := HWR.out.at
            simp only [Value.slice.injEq] at hh4
            obtain ⟨rfl, hn4, rfl⟩ := hh4
            obtain ⟨aa3, ee3, hh3, hl3, hl3'⟩ := HRE.out.at
            simp only [Value.slice.injEq] at hh3
            obtain ⟨rfl, hn3, rfl⟩ := hh3
            have HN4 := hide hn4
            have HN3 := hide hn3
            have hcap4 : n4 ≤ e4 := by rw [hn4]; exact hl4
            have hcap3 : n3 ≤ e3 := by rw [hn3]; exact hl3
            clear hW2 hg15 b2 k15 x0 x1 y0 y1 z2 z3 v1 v2 v3 v4 v5 v6 v7 v8 dk1 hn4 hn3 hl4 hl3 Q15
            go_wp2_with fail
            go_loopw [16, 17] (fun v16 v17 V => ∃ (i : Nat) (b : Bool), i ≤ n4 ∧ v17 = .int .i64 (i : Int) ∧ v16 = .bool b ∧ V = W2 ∧ Hid (b = true ↔ kq ∈ wrt.take i)) (fun _ v17 _ => n4 - (intOf v17).toNat)
            case atStart => exact ⟨0, false, Nat.zero_le _, rfl, rfl, rfl, by unfold Hid; simp⟩
            case round =>
              obtain ⟨i, b, hi, rfl, rfl, rfl, HB⟩ := hrel
              by_cases hlt : i < n4
              · have r1 : (i : Int) < (n4 : Int) := by omega
                have hiw : i < wrt.length := by have := HN4.out; omega
                have htk : wrt.take (i + 1) = wrt.take i ++ [wrt[i]] := List.take_succ_eq_append_getElem hiw
                obtain ⟨gw, ow, hgw, -, dw, -⟩ := (HWR.out.later B2.out).nth hiw
                subst hgw
                obtain ⟨xw, hxw⟩ : ∃ y, y = wrt[i] := ⟨_, rfl⟩
                rw [← hxw] at dw htk
                clear hxw
                cases b with
                | true =>
                  have HB2 : Hid (true = true ↔ kq ∈ wrt.take (i + 1)) := ⟨fun _ => by rw [htk]; simp [HB.out.1 rfl], fun _ => rfl⟩
                  clear HB htk
                  go_wp2_with fail
                  go_roundw
                  case rel => exact ⟨i + 1, true, by omega, rfl, rfl, trivial, HB2⟩
                  case measure => simp only [intOf]; omega
                | false =>
                  have hno : kq ∉ wrt.take i := fun e => absurd (HB.out.2 e) (by decide)
                  by_cases ex : xw = kq
                  · have HB2 : Hid (true = true ↔ kq ∈ wrt.take (i + 1)) := ⟨fun _ => by rw [htk]; simp [ex], fun _ => rfl⟩
                    have fx : (xw == kq) = true := by simp [ex]
                    clear HB htk hno ex
                    go_wp2_with fail
                    go_roundw
                    case rel => exact ⟨i + 1, true, by omega, rfl, rfl, trivial, HB2⟩
                    case measure => simp only [intOf]; omega
                  · have HB2 : Hid (false = true ↔ kq ∈ wrt.take (i + 1)) := ⟨fun e => (by cases e), fun e => by rw [htk, List.mem_append, List.mem_singleton] at e; exact absurd (e.resolve_left hno).symm ex⟩
                    have fx : (xw == kq) = false := beq_eq_false_iff_ne.2 ex
                    clear HB htk hno ex
                    go_wp2_with fail
                    go_roundw
                    case rel => exact ⟨i + 1, false, by omega, rfl, rfl, trivial, HB2⟩
                    case measure => simp only [intOf]; omega
              · have r1 : ¬ (i : Int) < (n4 : Int) := by omega
                have HB1 : Hid (b = true ↔ kq ∈ wrt) := by
                  have e : wrt.take i = wrt := List.take_of_length_le (by have := HN4.out; omega)
                  have := HB.out
                  rw [e] at this
                  exact this
                clear HB
                go_wp2_with fail
                go_loopw [16, 18] (fun v16 v18 V => ∃ (i : Nat) (b : Bool), i ≤ n3 ∧ v18 = .int .i64 (i : Int) ∧ v16 = .bool b ∧ V = wr ∧ Hid (b = true ↔ (kq ∈ wrt ∨ kq ∈ re.take i))) (fun _ v18 _ => n3 - (intOf v18).toNat)
                case atStart => exact ⟨0, b, Nat.zero_le _, rfl, rfl, rfl, by unfold Hid; rw [HB1.out]; simp⟩
                case round =>
                  obtain ⟨i2, b', hi2, rfl, rfl, rfl, HB⟩ := hrel
                  by_cases hlt2 : i2 < n3
                  · have r2 : (i2 : Int) < (n3 : Int) := by omega
                    have hir : i2 < re.length := by have := HN3.out; omega
                    have htk : re.take (i2 + 1) = re.take i2 ++ [re[i2]] := List.take_succ_eq_append_getElem hir
                    obtain ⟨gw, ow, hgw, -, dw, -⟩ := (HRE.out.later B2.out).nth hir
                    subst hgw
                    obtain ⟨xw, hxw⟩ : ∃ y, y = re[i2] := ⟨_, rfl⟩
                    rw [← hxw] at dw htk
                    clear hxw
                    cases b' with
                    | true =>
                      have HB2 : Hid (true = true ↔ (kq ∈ wrt ∨ kq ∈ re.take (i2 + 1))) := ⟨fun _ => (HB.out.1 rfl).imp id (fun e => by rw [htk]; simp [e]), fun _ => rfl⟩
                      clear HB htk
                      go_wp2_with fail
                      go_roundw
                      case rel => exact ⟨i2 + 1, true, by omega, rfl, rfl, trivial, HB2⟩
                      case measure => simp only [intOf]; omega
                    | false =>
                      have hno : ¬ (kq ∈ wrt ∨ kq ∈ re.take i2) := fun e => absurd (HB.out.2 e) (by decide)
                      by_cases ex : xw = kq
                      · have HB2 : Hid (true = true ↔ (kq ∈ wrt ∨ kq ∈ re.take (i2 + 1))) := ⟨fun _ => .inr (by rw [htk]; simp [ex]), fun _ => rfl⟩
                        have fx : (xw == kq) = true := by simp [ex]
                        clear HB htk hno ex
                        go_wp2_with fail
                        go_roundw
                        case rel => exact ⟨i2 + 1, true, by omega, rfl, rfl, trivial, HB2⟩
                        case measure => simp only [intOf]; omega
                      · have HB2 : Hid (false = true ↔ (kq ∈ wrt ∨ kq ∈ re.take (i2 + 1))) := ⟨fun e => (by cases e), fun e => by
                          rw [htk, List.mem_append, List.mem_singleton] at e
                          rcases e with e | e2 | e2
                          · exact absurd (.inl e) hno
                          · exact absurd (.inr e2) hno
                          · exact absurd e2.symm ex⟩
                        have fx : (xw == kq) = false := beq_eq_false_iff_ne.2 ex
                        clear HB htk hno ex
                        go_wp2_with fail
                        go_roundw
                        case rel => exact ⟨i2 + 1, false, by omega, rfl, rfl, trivial, HB2⟩
                        case measure => simp only [intOf]; omega
                  · have r2 : ¬ (i2 : Int) < (n3 : Int) := by omega
                    have HF : Hid (b' = true) := by
                      have e : re.take i2 = re := List.take_of_length_le (by have := HN3.out; omega)
                      have h1 := HB.out
                      rw [e] at h1
                      have h2 := MD.out
                      exact h1.2 h2
                    clear HB
                    go_wp2_with fail
                    go_ret
                    exact ⟨ret_bool HF.out, B2.out⟩
          · have f4 : (op == 4) = false := beq_eq_false_iff_ne.2 o4
            clear HS HSY
            by_cases o26 : op = 26
            · subst o26
              obtain ⟨hsyT, hmE⟩ : sy = true ∧ mtE ks re wrt code a = true := by simpa [ent] using hm
              subst hsyT
              obtain ⟨hq, mf⟩ := (HE.out hmE).2.2.1 (.inl rfl)
              have hav0 := tdiv_pos hq.1
              obtain ⟨j, gk, ok, af, cf, hjk, hqj, hka, dk, hf1, hf2⟩ := HKR.out.fd hq.1 hq.2
              subst hka
              have dk1 := (Mv.of_below B1.out (fun _ => False)).cell dk id
              obtain ⟨kq, hkq⟩ : ∃ y, y = av.tdiv 8 := ⟨_, rfl⟩
              obtain ⟨cq, hcq⟩ : ∃ y, y = av.tmod 8 := ⟨_, rfl⟩
              rw [← hkq] at t1 hq hqj mf dk1 hf1
              rw [← hcq] at mf
              have t2 : av.tmod 8 = cq := hcq.symm
              have t1' : IntKind.i64.wrap (av.tdiv 8) = kq := by rw [← hkq]; exact t1
              have t3 : av.tdiv 8 = kq := hkq.symm
              unfold fdI at mf
              obtain ⟨fd, hfd⟩ : ∃ y, y = fdN ks kq.toNat := ⟨_, rfl⟩
              rw [← hfd] at mf dk1 hf1
              have w1 : kq ≥ 1 := by omega
              have w2 : kq ≤ (nk : Int) := by have := HNK.out; omega
              have w3 : IntKind.i64.wrap (kq - 1) = (j : Int) := by rw [IntKind.wrap_i64]; have := HNK.out; omega
              have w4 : (j : Int) < (nk : Int) := by have := HNK.out; omega
              have w5 : (cq == (fd : Int)) = true := by simp [mf]
              have w6 : av ≥ 0 := by omega
              have w7 : kq - 1 = (j : Int) := by omega
              clear hm hmE hq hqj dk hkq hcq hfd HE mf
              go_wp2_with fail
              go_ret
              exact ⟨rfl, B1.out⟩
            · have f26 : (op == 26) = false := beq_eq_false_iff_ne.2 o26
              by_cases o28 : op = 28
              · subst o28
                obtain ⟨hsyT, hmE⟩ : sy = true ∧ mtE ks re wrt code a = true := by simpa [ent] using hm
                subst hsyT
                obtain ⟨hq, mf⟩ := (HE.out hmE).2.2.1 (.inr rfl)
                have hav0 := tdiv_pos hq.1
                obtain ⟨j, gk, ok, af, cf, hjk, hqj, hka, dk, hf1, hf2⟩ := HKR.out.fd hq.1 hq.2
                subst hka
                have dk1 := (Mv.of_below B1.out (fun _ => False)).cell dk id
                obtain ⟨kq, hkq⟩ : ∃ y, y = av.tdiv 8 := ⟨_, rfl⟩
                obtain ⟨cq, hcq⟩ : ∃ y, y = av.tmod 8 := ⟨_, rfl⟩
                rw [← hkq] at t1 hq hqj mf dk1 hf1
                rw [← hcq] at mf
                have t2 : av.tmod 8 = cq := hcq.symm
                have t1' : IntKind.i64.wrap (av.tdiv 8) = kq := by rw [← hkq]; exact t1
                have t3 : av.tdiv 8 = kq := hkq.symm
                unfold fdI at mf
                obtain ⟨fd, hfd⟩ : ∃ y, y = fdN ks kq.toNat := ⟨_, rfl⟩
                rw [← hfd] at mf dk1 hf1
                have w1 : kq ≥ 1 := by omega
                have w2 : kq ≤ (nk : Int) := by have := HNK.out; omega
                have w3 : IntKind.i64.wrap (kq - 1) = (j : Int) := by rw [IntKind.wrap_i64]; have := HNK.out; omega
                have w4 : (j : Int) < (nk : Int) := by have := HNK.out; omega
                have w5 : (cq == (fd : Int)) = true := by simp [mf]
                have w6 : av ≥ 0 := by omega
                have w7 : kq - 1 = (j : Int) := by omega
                clear hm hmE hq hqj dk hkq hcq hfd HE mf
                go_wp2_with fail
                go_ret
                exact ⟨rfl, B1.out⟩
              · have f28 : (op == 28) = false := beq_eq_false_iff_ne.2 o28
                by_cases o29 : op = 29
                · subst o29
                  obtain ⟨hsyT, hmE⟩ : sy = true ∧ mtE ks re wrt code a = true := by simpa [ent] using hm
                  subst hsyT
                  obtain ⟨w1, w2⟩ := (HE.out hmE).2.2.2 (.inl rfl)
                  have w3 : av ≤ (nk : Int) := by have := HNK.out; omega
                  clear hm hmE HE w2
                  go_wp2_with fail
                  go_ret
                  exact ⟨rfl, B1.out⟩
                · have f29 : (op == 29) = false := beq_eq_false_iff_ne.2 o29
                  by_cases o35 : op = 35
                  · subst o35
                    obtain ⟨hsyT, hmE⟩ : sy = true ∧ mtE ks re wrt code a = true := by simpa [ent] using hm
                    subst hsyT
                    obtain ⟨w1, w2⟩ := (HE.out hmE).2.2.2 (.inr rfl)
                    have w3 : av ≤ (nk : Int) := by have := HNK.out; omega
                    clear hm hmE HE w2
                    go_wp2_with fail
                    go_ret
                    exact ⟨rfl, B1.out⟩
                  · have f35 : (op == 35) = false := beq_eq_false_iff_ne.2 o35
                    by_cases o25 : op = 25
                    · subst o25
                      obtain ⟨hsyT, -⟩ : sy = true ∧ mtE ks re wrt code a = true := by simpa [ent] using hm
                      subst hsyT
                      clear hm HE
                      go_wp2_with fail
                      go_ret
                      exact ⟨rfl, B1.out⟩
                    · have f25 : (op == 25) = false := beq_eq_false_iff_ne.2 o25
                      by_cases o27 : op = 27
                      · subst o27
                        obtain ⟨hsyT, -⟩ : sy = true ∧ mtE ks re wrt code a = true := by simpa [ent] using hm
                        subst hsyT
                        clear hm HE
                        go_wp2_with fail
                        go_ret
                        exact ⟨rfl, B1.out⟩
                      · have f27 : (op == 27) = false := beq_eq_false_iff_ne.2 o27
                        by_cases o30 : op = 30
                        · subst o30
                          obtain ⟨hsyT, -⟩ : sy = true ∧ mtE ks re wrt code a = true := by simpa [ent] using hm
                          subst hsyT
                          clear hm HE
                          go_wp2_with fail
                          go_ret
                          exact ⟨rfl, B1.out⟩
                        · have f30 : (op == 30) = false := beq_eq_false_iff_ne.2 o30
                          clear hm HE o4 o5 o26 o28 o29 o35 o25 o27 o30
                          go_wp2_with fail
                          go_ret
                          exact ⟨rfl, B1.out⟩
end Go.Proofs.YtklamaibinjcmaaDoor
