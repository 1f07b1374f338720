import Derived.Test.YtpolajoephjdhaaGreatDoorRfM
import Derived.Test.YtpolajoephjdhaaGreatDoorEnM
import Derived.Test.YtpolajoephjdhaaGreatDoorPkM
import Derived.Test.YtpolajoephjdhaaGreatDoorEnE
import Derived.Test.YtpolajoephjdhaaGreatDoorBkN
/-
  The document's set and May.
-/
namespace Go.Proofs.YtpolajoephjdhaaGreatDoor
open Go.RowKit
set_option maxRecDepth 100000
set_option maxHeartbeats 2000000 in
theorem dset_at {Q : Nat → Prop} {W : World} {n c : Nat} {ao : Option Addr} (l : List Int) (hn : n = l.length) (h : Nl Q W (.slice ao n c) l) : Calls Tryz.prog 72 #[.slice ao n c] W fun e w' => e = .returned (.bool (setOk l)) ∧ w' = W := by
  obtain ⟨te, hte⟩ : ∃ t, t = setOk l := ⟨_, rfl⟩
  rw [← hte]
  have TE : Hid (te = setFrom 0 (l.drop 0)) := hte
  have H := hide h
  have HN := hide hn
  have hc1 : n ≤ c ∧ c ≤ 9223372036854775807 := by
    obtain ⟨a9, c', e, h1, h2, -⟩ := h
    injection e with _ e2 e3
    unfold maxLen at h2
    omega
  obtain ⟨hc1, hc2⟩ := hc1
  clear h hn hte
  go_enter Tryz.func72, Tryz.ntmps72
  go_wp2_with fail
  go_loop [4, 3] (fun v u => ∃ (k : Nat) (last : Int), v = .int .i64 (k : Int) ∧ u = .int .i64 last ∧ k ≤ n ∧ Hid (te = setFrom last (l.drop k))) (fun v _ => n - (intOf v).toNat)
  case atStart => exact ⟨0, 0, rfl, rfl, by omega, TE.out⟩
  case round =>
    obtain ⟨k, last, rfl, rfl, hk, ht⟩ := hrel
    by_cases hlt : k < n
    · have hkl : k < l.length := by rw [← HN.out]; exact hlt
      obtain ⟨g, o, rfl, -, d0, -⟩ := H.out.nth hkl
      have e1 := ht.out
      rw [List.drop_eq_getElem_cons hkl, setFrom_cons] at e1
      generalize l[k] = z at d0 e1
      have i1 : (k : Int) < (n : Int) := by omega
      clear hkl ht
      by_cases hz : last < z ∧ z ≤ 12
      · have e2 : Hid (te = setFrom z (l.drop (k + 1))) := by unfold Hid; rw [e1, decide_eq_true hz, Bool.true_and]
        have j1 : ¬ z ≤ last := by omega
        have j2 : ¬ (12 : Int) < z := by omega
        clear e1 hz
        go_wp2_with fail
        exact ⟨⟨k + 1, z, by go_num, rfl, by omega, e2.out⟩, by simp [intOf]; omega⟩
      · obtain rfl : te = false := by rw [e1, decide_eq_false hz]; rfl
        by_cases hz1 : z ≤ last
        · clear hz e1
          go_wp2_with fail
          go_ret
          exact ⟨rfl, rfl⟩
        · have hz2 : (12 : Int) < z := by omega
          clear hz e1
          go_wp2_with fail
          go_ret
          exact ⟨rfl, rfl⟩
    · obtain rfl : n = k := by omega
      obtain rfl : te = true := by
        have := ht.out
        rw [HN.out, List.drop_length] at this
        exact this
      clear ht
      go_wp2_with fail
      go_ret
      exact ⟨rfl, rfl⟩
theorem nl_len {Q : Nat → Prop} {W : World} {n c : Nat} {ao : Option Addr} {l : List Int} (h : Nl Q W (.slice ao n c) l) : n = l.length := by
  obtain ⟨a9, c9, e, -⟩ := h
  injection e
def sysD (s : Sy) : Bool := setOk s.wi && setOk s.wo && setOk s.re && setOk s.wr && rtD s.run
theorem sum_mem {α : Type} (f : α → Nat) : ∀ {l : List α} {x : α}, x ∈ l → f x ≤ (l.map f).sum
  | y :: l, x, h => by
    rw [List.map_cons, List.sum_cons]
    rcases List.mem_cons.1 h with rfl | h
    · omega
    · have := sum_mem f h
      omega
theorem mayOk_D (sys : List Sy) (fns : List Rt) : mayOk ⟨sys, fns⟩ = (decide (sys.length ≤ 16 ∧ fns.length ≤ 16) && sys.all sysD && fns.all rtD && decide (sumS sys + sumR fns ≤ 2000)) := by
  show (decide (sys.length ≤ 16 ∧ fns.length ≤ 16) && sys.all sysOk && fns.all rtOk && decide (sumS sys + sumR fns ≤ 2000)) = _
  by_cases h : sumS sys + sumR fns ≤ 2000
  · have e1 : sys.all sysOk = sys.all sysD := by
      rw [Bool.eq_iff_iff, List.all_eq_true, List.all_eq_true]
      refine forall_congr' fun s => forall_congr' fun hs => ?_
      have hl : s.run.code.length ≤ 2000 := by
        have := sum_mem (fun s : Sy => s.run.code.length) hs
        unfold sumS at h
        omega
      unfold sysOk sysD
      rw [rtOk_rtD, decide_eq_true hl, Bool.and_true]
    have e2 : fns.all rtOk = fns.all rtD := by
      rw [Bool.eq_iff_iff, List.all_eq_true, List.all_eq_true]
      refine forall_congr' fun s => forall_congr' fun hs => ?_
      have hl : s.code.length ≤ 2000 := by
        have := sum_mem (fun s : Rt => s.code.length) hs
        unfold sumR at h
        omega
      rw [rtOk_rtD, decide_eq_true hl, Bool.and_true]
    rw [e1, e2]
  · rw [decide_eq_false h, Bool.and_false, Bool.and_false]
set_option maxHeartbeats 8000000 in
theorem dmay_at {Q : Nat → Prop} {W : World} {ns cs nf cf : Nat} {sa fa : Option Addr} (sys : List Sy) (fns : List Rt) (hns : ns = sys.length) (hnf : nf = fns.length) (_hc2 : cs ≤ 9223372036854775807) (_hc4 : cf ≤ 9223372036854775807)
    (h1 : Sys Q W (.slice sa ns cs) sys) (h2 : Rts Q W (.slice fa nf cf) fns) (z1 : ∀ s ∈ sys, s.run.name.size ≤ 9223372036854775807 ∧ s.run.code.length ≤ 35184372088832) (z2 : ∀ r ∈ fns, r.name.size ≤ 9223372036854775807 ∧ r.code.length ≤ 35184372088832) : Calls Tryz.prog 37 #[.agg #[.slice sa ns cs, .slice fa nf cf]] W fun e w' => e = .returned (.bool (mayOk ⟨sys, fns⟩)) ∧ Below W.heap.size W w' := by
  obtain ⟨w0, hw0⟩ : ∃ X, X = W.alloc (.cells #[.slice sa ns cs, .slice fa nf cf] 27) := ⟨_, rfl⟩
  have B0 : Below W.heap.size W w0 := hw0 ▸ below_alloc W _
  have n1 : w0.heap[W.heap.size]? = some (.cells #[.slice sa ns cs, .slice fa nf cf] 27 (0, 0)) := by rw [hw0]; exact heap_alloc_new W _
  obtain ⟨B, hB⟩ : ∃ B, B = W.heap.size := ⟨_, rfl⟩
  rw [← hB] at n1
  have c0 : w0.cell? ⟨B, 0, none⟩ = some (.slice sa ns cs) := by rw [cell_of_row w0 _ _ _ 27 (0, 0) n1]; rfl
  have c1 : w0.cell? ⟨B, 1, none⟩ = some (.slice fa nf cf) := by rw [cell_of_row w0 _ _ _ 27 (0, 0) n1]; rfl
  obtain ⟨te, hte⟩ : ∃ t, t = mayOk ⟨sys, fns⟩ := ⟨_, rfl⟩
  rw [← hte]
  have TE : Hid (te = (decide (ns ≤ 16 ∧ nf ≤ 16) && sys.all sysD && fns.all rtD && decide (sumS sys + sumR fns ≤ 2000))) := by
    unfold Hid
    rw [hte, hns, hnf]
    exact mayOk_D sys fns
  have hc1 : ns ≤ cs := by
    obtain ⟨a9, c9, e, h, -⟩ := h1
    injection e with _ e2 e3
    omega
  have hc3 : nf ≤ cf := by
    obtain ⟨a9, c9, e, h, -⟩ := h2
    injection e with _ e2 e3
    omega
  have AT : Hid (∀ w', Below w0.heap.size w0 w' → w'.cell? ⟨B, 0, none⟩ = some (.slice sa ns cs) ∧ w'.cell? ⟨B, 1, none⟩ = some (.slice fa nf cf)) := fun w' hb => row2 ((hb.block B (lt_of_block n1)).trans n1)
  have HB := hide B0
  have H1 := hide h1
  have H2 := hide h2
  have HNS := hide hns
  have HNF := hide hnf
  have Z1 := hide z1
  have Z2 := hide z2
  clear hte n1 B0 h1 h2 hns hnf z1 z2
  go_enter Tryz.func37, Tryz.ntmps37
  go_upto_region 1 with fail
  rw [← hw0, ← hB]
  clear hw0 hB
  by_cases hs16 : 16 < ns
  · obtain rfl : te = false := by rw [TE.out, decide_eq_false (by omega)]; rfl
    go_wp2_with fail
    go_ret
    exact ⟨rfl, HB.out⟩
  by_cases hf16 : 16 < nf
  · obtain rfl : te = false := by rw [TE.out, decide_eq_false (by omega)]; rfl
    go_wp2_with fail
    go_ret
    exact ⟨rfl, HB.out⟩
  have TE2 : Hid (te = (sys.all sysD && fns.all rtD && decide (sumS sys + sumR fns ≤ 2000))) := by
    unfold Hid
    rw [TE.out, decide_eq_true (by omega), Bool.true_and]
  clear TE
  go_wp2_with fail
  clear c0 c1
  go_loopw [4, 3] (fun v u wr => ∃ (k n : Nat), v = .int .i64 (k : Int) ∧ u = .int .i64 (n : Int) ∧ k ≤ ns ∧ n ≤ 35184372088832 * k ∧ Hid (n = sumS (sys.take k)) ∧ Hid ((sys.take k).all sysD = true) ∧ Hid (Below w0.heap.size w0 wr)) (fun v _ _ => ns - (intOf v).toNat)
  case atStart => exact ⟨0, 0, rfl, rfl, by omega, by omega, rfl, rfl, Below.refl _ _⟩
  case round =>
    obtain ⟨k, n, rfl, rfl, hk, hn, hsum, hall, hbw⟩ := hrel
    obtain ⟨c0, c1⟩ := AT.out wr hbw.out
    by_cases hlt : k < ns
    · have hlt' : k < sys.length := by rw [← HNS.out]; exact hlt
      have bw := below_on HB.out hbw.out
      obtain ⟨g, o, rfl, -, hat⟩ := (H1.out.later bw).nth hlt'
      obtain ⟨a1, a2, a3, a4, a5, m1, m2, m3, m4, m5, p1, p2, p3, p4, p5, hv, d0, d1, d2, d3, d4, d5, d6, d7⟩ := hat.vs
      have g1 := World.block_lt_of_cell? wr _ d0
      obtain ⟨w2, hw2⟩ : ∃ X, X = wr.alloc (.cells #[.slice a1 m1 p1, .slice a2 m2 p2, .slice a3 m3 p3, .slice a4 m4 p4, .string sys[k].run.name, .int .i64 sys[k].run.pa, .int .i64 sys[k].run.lo, .slice a5 m5 p5] 47) := ⟨_, rfl⟩
      obtain ⟨t, htt⟩ : ∃ t, t = wr.heap.size := ⟨_, rfl⟩
      have b2 : Below wr.heap.size wr w2 := hw2 ▸ below_alloc wr _
      have n2 : w2.heap[t]? = some (.cells #[.slice a1 m1 p1, .slice a2 m2 p2, .slice a3 m3 p3, .slice a4 m4 p4, .string sys[k].run.name, .int .i64 sys[k].run.pa, .int .i64 sys[k].run.lo, .slice a5 m5 p5] 47 (0, 0)) := by rw [hw2, htt]; exact heap_alloc_new wr _
      have hv2 := hv.later b2
      have k1 := nl_len hv2.w
      have k2 := nl_len hv2.wo
      have k3 := nl_len hv2.re
      have k4 := nl_len hv2.wr
      have JS1 := hide (dset_at _ k1 hv2.w)
      have JS2 := hide (dset_at _ k2 hv2.wo)
      have JS3 := hide (dset_at _ k3 hv2.re)
      have JS4 := hide (dset_at _ k4 hv2.wr)
      have J2 := hide (droutine_at sys[k].run.name sys[k].run.pa sys[k].run.lo sys[k].run.code hv2.co (Z1.out _ (List.getElem_mem hlt')).1)
      have E4 := hide (all_snoc (p := sysD) hlt' hall.out)
      have E5 := hide (fun h => all_no (p := sysD) (l := sys) hlt' h)
      have E6 := hide (sumS_snoc hlt')
      have E7 : Hid (sysD sys[k] = (setOk sys[k].wi && setOk sys[k].wo && setOk sys[k].re && setOk sys[k].wr && rtD sys[k].run)) := rfl
      have E8 : m5 ≤ 35184372088832 := by have := (Z1.out _ (List.getElem_mem hlt')).2; have := hv.ln; omega
      have E9 := hide hv.ln
      have HX := hide (below_on hbw.out b2)
      have N2 := hide n2
      have EQ : rtD ⟨sys[k].run.name, sys[k].run.pa, sys[k].run.lo, sys[k].run.code⟩ = rtD sys[k].run := rfl
      rw [EQ] at J2
      generalize setOk sys[k].wi = s1 at *
      generalize setOk sys[k].wo = s2 at *
      generalize setOk sys[k].re = s3 at *
      generalize setOk sys[k].wr = s4 at *
      rw [E7.out] at E4 E5
      generalize rtD sys[k].run = q2 at *
      generalize sys[k].run.name = nm at *
      generalize sys[k].run.pa = pa at *
      generalize sys[k].run.lo = lo at *
      generalize sys[k].run.code.length = cl at *
      clear hat hv hv2 b2 bw E7 EQ k1 k2 k3 k4
      go_upto_region 8 with fail
      rw [← hw2, ← htt]
      clear hw2 htt n2 c0 c1 d0 d1 d2 d3 d4 d5 d6 d7
      obtain ⟨x0, x1, x2, x3, x4, x5, x6, x7⟩ := row8 N2.out
      go_cut [6] (fun v wx => v = .bool (s1 && s2 && s3 && s4) ∧ w2 = wx)
      case first =>
        clear J2 E4 E5 E6 x4 x5 x6 x7
        go_wp2_with fail
        refine JS1.out.mono ?_
        rintro e w3 ⟨rfl, rfl⟩
        cases s1 with
        | false =>
          go_wp2_with fail
          go_meet
          exact ⟨rfl, rfl⟩
        | true =>
          go_wp2_with fail
          refine JS2.out.mono ?_
          rintro e w3 ⟨rfl, rfl⟩
          cases s2 with
          | false =>
            go_wp2_with fail
            go_meet
            exact ⟨rfl, rfl⟩
          | true =>
            go_wp2_with fail
            refine JS3.out.mono ?_
            rintro e w3 ⟨rfl, rfl⟩
            cases s3 with
            | false =>
              go_wp2_with fail
              go_meet
              exact ⟨rfl, rfl⟩
            | true =>
              go_wp2_with fail
              refine JS4.out.mono ?_
              rintro e w3 ⟨rfl, rfl⟩
              cases s4 with
              | false =>
                go_wp2_with fail
                go_meet
                exact ⟨rfl, rfl⟩
              | true =>
                go_wp2_with fail
                go_meet
                exact ⟨rfl, rfl⟩
      obtain ⟨rfl, rfl⟩ := hcut
      clear JS1 JS2 JS3 JS4 x0 x1 x2 x3
      generalize (s1 && s2 && s3 && s4) = q1 at *
      go_wp2_with fail
      refine J2.out.mono ?_
      rintro e w4 ⟨rfl, hb4⟩
      obtain ⟨-, -, -, -, -, -, -, z8⟩ := row8 ((hb4.block t (lt_of_block N2.out)).trans N2.out)
      have HB4 := hide (below_on HX.out hb4)
      clear J2 hb4 x4 x5 x6 x7 N2 HX
      cases q1 with
      | false =>
        obtain rfl : te = false := by rw [TE2.out, E5.out rfl]; rfl
        go_wp2_with fail
        go_ret
        exact ⟨rfl, below_on HB.out HB4.out⟩
      | true =>
        cases q2 with
        | false =>
          obtain rfl : te = false := by rw [TE2.out, E5.out rfl]; rfl
          go_wp2_with fail
          go_ret
          exact ⟨rfl, below_on HB.out HB4.out⟩
        | true =>
          have hov : n ≤ 35184372088832 * 16 := by omega
          go_wp2_with fail
          go_roundw
          case rel => exact ⟨k + 1, n + m5, by go_num, by go_num, by omega, by omega, by have := E6.out; have := hsum.out; have := E9.out; unfold Hid; omega, E4.out, HB4.out⟩
          case measure => simp [intOf]; omega
    · obtain rfl : ns = k := by omega
      have SA : Hid (sys.all sysD = true ∧ n = sumS sys) := by
        have h1 := hall.out
        have h2 := hsum.out
        rw [HNS.out, List.take_length] at h1 h2
        exact ⟨h1, h2⟩
      have TE3 : Hid (te = (fns.all rtD && decide (n + sumR fns ≤ 2000))) := by
        unfold Hid
        rw [TE2.out, SA.out.1, Bool.true_and, ← SA.out.2]
      have hov : n ≤ 35184372088832 * 16 := by omega
      have HBW := hide hbw.out
      clear TE2 hbw hall hsum SA hlt hn
      go_wp2_with fail
      clear c0 c1
      go_loopw [8, 3] (fun v u wr => ∃ (j m : Nat), v = .int .i64 (j : Int) ∧ u = .int .i64 (m : Int) ∧ j ≤ nf ∧ m ≤ n + 35184372088832 * j ∧ Hid (m = n + sumR (fns.take j)) ∧ Hid ((fns.take j).all rtD = true) ∧ Hid (Below w0.heap.size w0 wr)) (fun v _ _ => nf - (intOf v).toNat)
      case atStart => exact ⟨0, n, rfl, rfl, by omega, by omega, rfl, rfl, HBW.out⟩
      case round =>
        obtain ⟨j, m, rfl, rfl, hj, hm, hsum, hall, hbw⟩ := hrel
        obtain ⟨c0, c1⟩ := AT.out wr hbw.out
        by_cases hlt : j < nf
        · have hlt' : j < fns.length := by rw [← HNF.out]; exact hlt
          have bw := below_on HB.out hbw.out
          have RN : Hid (∀ w', Below W.heap.size W w' → ∃ g o vc, fa = some ⟨g, o, none⟩ ∧ w'.cell? ⟨g, o + j * 4, none⟩ = some (.string fns[j].name) ∧ w'.cell? ⟨g, o + j * 4 + 1, none⟩ = some (.int .i64 fns[j].pa) ∧ w'.cell? ⟨g, o + j * 4 + 2, none⟩ = some (.int .i64 fns[j].lo) ∧ w'.cell? ⟨g, o + j * 4 + 3, none⟩ = some vc ∧ Il Q w' vc fns[j].code) := fun w' hb => by
            obtain ⟨g, o, h, -, -, -, vc, d⟩ := (H2.out.later hb).nth hlt'
            exact ⟨g, o, vc, h, d⟩
          obtain ⟨g, o, rfl, -, -, -, vc, d0, d1, d2, d3, hil⟩ := (H2.out.later bw).nth hlt'
          obtain ⟨a5, p5, rfl, e1, e2⟩ := hil.at
          have J2 := hide (droutine_at fns[j].name fns[j].pa fns[j].lo fns[j].code hil (Z2.out _ (List.getElem_mem hlt')).1)
          have E4 := hide (all_snoc (p := rtD) hlt' hall.out)
          have E5 := hide (fun h => all_no (p := rtD) (l := fns) hlt' h)
          have E6 := hide (sumR_snoc hlt')
          have E8 := (Z2.out _ (List.getElem_mem hlt')).2
          have CL : Hid (∀ w', Below wr.heap.size wr w' → w'.cell? ⟨g, o + j * 4 + 3, none⟩ = some (.slice a5 fns[j].code.length p5)) := fun w' hb => (hb.cell (World.block_lt_of_cell? wr _ d3)).trans d3
          have HBX := hide hbw.out
          have EQ : rtD ⟨fns[j].name, fns[j].pa, fns[j].lo, fns[j].code⟩ = rtD fns[j] := rfl
          rw [EQ] at J2
          clear RN
          generalize rtD fns[j] = q2 at *
          generalize fns[j].name = nm at *
          generalize fns[j].pa = pa at *
          generalize fns[j].lo = lo at *
          generalize fns[j].code.length = cl at *
          clear hil bw EQ hbw
          go_wp2_with fail
          refine J2.out.mono ?_
          rintro e w4 ⟨rfl, hb4⟩
          obtain ⟨c0', c1'⟩ := AT.out w4 (below_on HBX.out hb4)
          have z8 := CL.out w4 hb4
          have HB4 := hide (below_on HBX.out hb4)
          clear hb4 J2 c0 c1 d0 d1 d2 d3 CL HBX
          cases q2 with
          | false =>
            obtain rfl : te = false := by rw [TE3.out, E5.out rfl]; rfl
            go_wp2_with fail
            go_ret
            exact ⟨rfl, below_on HB.out HB4.out⟩
          | true =>
            have hov2 : m ≤ 35184372088832 * 32 := by omega
            go_wp2_with fail
            go_roundw
            case rel => exact ⟨j + 1, m + cl, by go_num, by go_num, by omega, by omega, by have := E6.out; have := hsum.out; unfold Hid; omega, E4.out, HB4.out⟩
            case measure => simp [intOf]; omega
        · obtain rfl : nf = j := by omega
          have SB : fns.all rtD = true ∧ m = n + sumR fns := by
            have h1 := hall.out
            have h2 := hsum.out
            rw [HNF.out, List.take_length] at h1 h2
            exact ⟨h1, h2⟩
          have T4 : Hid (te = decide (m ≤ 2000)) := by
            unfold Hid
            rw [TE3.out, SB.1, Bool.true_and, ← SB.2]
          have HB4 := hide hbw.out
          clear SB hsum hall hm hbw
          go_wp2_with fail
          go_ret
          refine ⟨?_, below_on HB.out HB4.out⟩
          rw [T4.out]
          exact ret_bool (by rw [decide_eq_decide]; omega)
end Go.Proofs.YtpolajoephjdhaaGreatDoor

/-
  The document's putSet, putRoutine and Encode.
-/
namespace Go.Proofs.YtpolajoephjdhaaGreatDoor
open Go.RowKit
set_option maxRecDepth 100000
theorem dput_out {W : World} {v : Value} {l : List UInt8} (n : Nat) (h : Bs W v l) (hv : NilB v) (hn : n < 18446744073709551616) (hl : l.length ≤ 1000000000) : Calls Tryz.prog 38 #[v, .int .u64 n] W (ByOut W (l ++ uv n)) := by
  refine (rput_any v l n W h hv hn (by omega)).mono ?_
  rintro e w' ⟨v', rfl, ho, hb⟩
  exact ⟨v', rfl, by rw [List.length_append]; exact ho, hb⟩
theorem dputint_out {W : World} {v : Value} {l : List UInt8} (n : Int) (h : Bs W v l) (hv : NilB v) (hn : I6 n) (hl : l.length ≤ 1000000000) : Calls Tryz.prog 75 #[v, .int .i64 n] W (ByOut W (l ++ uv (Lib.zigzag n))) := by
  refine (rputInt_any v l n W h hv hn.1 hn.2 (by omega)).mono ?_
  rintro e w' ⟨v', rfl, ho, hb⟩
  exact ⟨v', rfl, by rw [List.length_append]; exact ho, hb⟩
/-- Bytes that are read, whose slice is nil or points somewhere. -/
def Bn (W : World) (v : Value) (l : List UInt8) : Prop := Bs W v l ∧ NilB v
theorem own_bn {w : World} {B : Nat} {v : Value} {l : List UInt8} (h : w.ownsRow B 5 1 v l.length (Lib.byteCells l)) : Bn w v l := ⟨own_bs h, own_nil h⟩
theorem bn_nil (w : World) : Bn w (.slice none 0 0) [] := ⟨Bs.nil w, .inl rfl⟩
theorem dputtext_bn {W : World} {v : Value} {l : List UInt8} (s : ByteArray) (h : Bn W v l) (hl : l.length ≤ 1000000000) (hs : s.size ≤ 1000000000) : Calls Tryz.prog 74 #[v, .string s] W fun e w' => ∃ v', e = .returned v' ∧ Bn w' v' (l ++ uv s.size ++ s.data.toList) ∧ Below W.heap.size W w' := by
  refine (rputText_bs s h (by omega)).mono ?_
  rintro e w' ⟨v', rfl, ho, hb⟩
  exact ⟨v', rfl, by rw [List.append_assoc]; exact ho, hb⟩
theorem dput_bn {W : World} {v : Value} {l : List UInt8} (n : Nat) (h : Bn W v l) (hn : n < 18446744073709551616) (hl : l.length ≤ 1000000000) : Calls Tryz.prog 38 #[v, .int .u64 n] W fun e w' => ∃ v', e = .returned v' ∧ Bn w' v' (l ++ uv n) ∧ Below W.heap.size W w' := by
  refine (dput_out n h.1 h.2 hn hl).mono ?_
  rintro e w' ⟨v', rfl, ho, hb⟩
  exact ⟨v', rfl, own_bn ho, hb⟩
theorem dputint_bn {W : World} {v : Value} {l : List UInt8} (n : Int) (h : Bn W v l) (hn : I6 n) (hl : l.length ≤ 1000000000) : Calls Tryz.prog 75 #[v, .int .i64 n] W fun e w' => ∃ v', e = .returned v' ∧ Bn w' v' (l ++ uv (Lib.zigzag n)) ∧ Below W.heap.size W w' := by
  refine (dputint_out n h.1 h.2 hn hl).mono ?_
  rintro e w' ⟨v', rfl, ho, hb⟩
  exact ⟨v', rfl, own_bn ho, hb⟩
set_option maxHeartbeats 2000000 in
theorem dputset_at {Q : Nat → Prop} {W : World} {n c : Nat} {ao : Option Addr} {vb : Value} {bb : List UInt8} (l : List Int) (h : Nl Q W (.slice ao n c) l) (hok : setOk l = true) (hb : Bn W vb bb) (hl : bb.length ≤ 100000000) : Calls Tryz.prog 39 #[vb, .slice ao n c] W fun e w' => ∃ v', e = .returned v' ∧ Bn w' v' (bb ++ setBy l) ∧ Below W.heap.size W w' := by
  have hn := nl_len h
  have hcc : n ≤ c ∧ c ≤ 9223372036854775807 := by
    obtain ⟨a9, c', e, h1, h2, -⟩ := h
    injection e with _ e2 e3
    unfold maxLen at h2
    omega
  obtain ⟨hc1, hc2⟩ := hcc
  obtain ⟨k1, k2⟩ := setOk_mem hok
  have HK := hide k1
  have H := hide h
  have HN := hide hn
  have hn12 : n ≤ 12 := by omega
  have u1 := uv_len (n := n) (by omega)
  have J0 := hide (dput_bn n hb (by omega) (by omega))
  have TE : Hid (bb ++ setBy l = bb ++ uv n ++ kindsBy l) := by unfold Hid; rw [hn]; simp [setBy, kindsBy]
  rw [TE.out]
  obtain ⟨pre, hpre⟩ : ∃ x, x = bb ++ uv n := ⟨_, rfl⟩
  rw [← hpre] at J0 ⊢
  have PL : Hid (pre.length ≤ 100000010) := by
    unfold Hid
    rw [hpre, List.length_append]
    omega
  have hw : IntKind.u64.wrap (n : Int) = (n : Int) := by rw [IntKind.wrap_u64]; omega
  clear h hn hok k1 k2 hb hpre u1
  go_enter Tryz.func39, Tryz.ntmps39
  go_wp2_with fail
  refine J0.out.mono ?_
  rintro e w1 ⟨v1, rfl, b1, hb1⟩
  have B1 := hide b1
  have X1 := hide hb1
  clear J0 b1 hb1
  go_wp2_with fail
  go_loopw [5, 0] (fun v u wr => ∃ k : Nat, v = .int .i64 (k : Int) ∧ k ≤ n ∧ Hid (Bn wr u (pre ++ kindsBy (l.take k))) ∧ Hid (Below W.heap.size W wr)) (fun v _ _ => n - (intOf v).toNat)
  case atStart => exact ⟨0, rfl, by omega, by unfold Hid; simpa [kindsBy] using B1.out, X1.out⟩
  case round =>
    obtain ⟨k, rfl, hk, hown, hbw⟩ := hrel
    by_cases hlt : k < n
    · have hlt' : k < l.length := by rw [← HN.out]; exact hlt
      obtain ⟨g, o, rfl, -, d0, -⟩ := (H.out.later hbw.out).nth hlt'
      have hr := HK.out _ (List.getElem_mem hlt')
      have E4 := hide (kindsBy_snoc hlt')
      generalize l[k] = z at *
      obtain ⟨zn, rfl⟩ : ∃ q : Nat, z = (q : Int) := ⟨z.toNat, by omega⟩
      have LK : Hid ((pre ++ kindsBy (l.take k)).length ≤ 1000000000) := by
        unfold Hid
        have q2 := kindsBy_len (l := l.take k) (fun i hi => HK.out i (List.mem_of_mem_take hi))
        rw [List.length_take] at q2
        have := PL.out
        rw [List.length_append]
        omega
      have J1 := hide (dput_bn zn hown.out (by omega) LK.out)
      have hz : IntKind.u64.wrap (zn : Int) = (zn : Int) := by rw [IntKind.wrap_u64]; omega
      have i1 : (k : Int) < (n : Int) := by omega
      clear hlt'
      go_wp2_with fail
      refine J1.out.mono ?_
      rintro e w2 ⟨v2, rfl, b2, hb2⟩
      have B2 : Hid (Bn w2 v2 (pre ++ kindsBy (l.take (k + 1)))) := by
        unfold Hid
        rw [E4.out, ← List.append_assoc]
        exact b2
      have X2 := hide (below_on hbw.out hb2)
      clear J1 b2 hb2 d0
      go_wp2_with fail
      exact ⟨⟨k + 1, by go_num, by omega, B2.out, X2.out⟩, by simp [intOf]; omega⟩
    · obtain rfl : n = k := by omega
      have T2 : Hid (pre ++ kindsBy l = pre ++ kindsBy (l.take n)) := by unfold Hid; rw [HN.out, List.take_length]
      go_wp2_with fail
      go_ret
      rw [T2.out]
      exact ⟨_, rfl, hown.out, hbw.out⟩
set_option maxHeartbeats 4000000 in
theorem dputroutine_at {Q : Nat → Prop} {W : World} {n c : Nat} {ao : Option Addr} {vb : Value} {bb : List UInt8} (nm : ByteArray) (pa lo : Int) (code : List Ins) (hn : n = code.length) (_hc1 : n ≤ c) (_hc2 : c ≤ 9223372036854775807) (h : Il Q W (.slice ao n c) code) (hok : rtOk ⟨nm, pa, lo, code⟩ = true) (hb : Bn W vb bb) (hl : bb.length ≤ 100000000) : Calls Tryz.prog 40 #[vb, .agg #[.string nm, .int .i64 pa, .int .i64 lo, .slice ao n c]] W fun e w' => ∃ v', e = .returned v' ∧ Bn w' v' (bb ++ rtBy ⟨nm, pa, lo, code⟩) ∧ Below W.heap.size W w' := by
  obtain ⟨w0, hw0⟩ : ∃ X, X = W.alloc (.cells #[.string nm, .int .i64 pa, .int .i64 lo, .slice ao n c] 45) := ⟨_, rfl⟩
  have B0 : Below W.heap.size W w0 := hw0 ▸ below_alloc W _
  have n1 : w0.heap[W.heap.size]? = some (.cells #[.string nm, .int .i64 pa, .int .i64 lo, .slice ao n c] 45 (0, 0)) := by rw [hw0]; exact heap_alloc_new W _
  obtain ⟨B, hB⟩ : ∃ B, B = W.heap.size := ⟨_, rfl⟩
  rw [← hB] at n1
  obtain ⟨k1, k2, k3, k4, k5⟩ := rtOk_all hok
  dsimp only at k1 k2 k3 k4 k5
  have h6 := h.i6
  obtain ⟨p, rfl⟩ : ∃ p : Nat, pa = (p : Int) := ⟨pa.toNat, by omega⟩
  obtain ⟨q, rfl⟩ : ∃ q : Nat, lo = (q : Int) := ⟨lo.toNat, by omega⟩
  have J0 := hide (dputtext_bn nm ⟨hb.1.below B0 (Nat.le_refl _), hb.2⟩ (by omega) (by omega))
  have TE : Hid (bb ++ rtBy ⟨nm, (p : Int), (q : Int), code⟩ = bb ++ uv nm.size ++ nm.data.toList ++ uv p ++ uv q ++ uv n ++ codeBy code) := by unfold Hid; rw [hn]; simp [rtBy, codeBy]
  have R4 : Hid (∀ w, Below w0.heap.size w0 w → w.cell? ⟨B, 0, none⟩ = some (.string nm) ∧ w.cell? ⟨B, 1, none⟩ = some (.int .i64 (p : Int)) ∧ w.cell? ⟨B, 2, none⟩ = some (.int .i64 (q : Int)) ∧ w.cell? ⟨B, 3, none⟩ = some (.slice ao n c)) := fun w hw => row4 ((hw.block B (lt_of_block n1)).trans n1)
  obtain ⟨c0, -, -, -⟩ := R4.out w0 (Below.refl _ _)
  have u1 := uv_len (n := nm.size) (by omega)
  have u2 := uv_len (n := p) (by omega)
  have u3 := uv_len (n := q) (by omega)
  have u4 := uv_len (n := n) (by omega)
  have nl : nm.data.toList.length = nm.size := by rw [Array.length_toList]; rfl
  have HB := hide B0
  have H := hide (h.later B0)
  have HN := hide hn
  have K5 := hide k5
  have H6 := hide h6
  have hl2 : n ≤ 2000 := by omega
  have hw1 : IntKind.u64.wrap (p : Int) = (p : Int) := by rw [IntKind.wrap_u64]; omega
  have hw2 : IntKind.u64.wrap (q : Int) = (q : Int) := by rw [IntKind.wrap_u64]; omega
  have hw3 : IntKind.u64.wrap (n : Int) = (n : Int) := by rw [IntKind.wrap_u64]; omega
  clear n1 B0 h hn hok k5 h6 k4 hb
  obtain ⟨pre, hpre⟩ : ∃ x, x = bb ++ uv nm.size ++ nm.data.toList ++ uv p ++ uv q ++ uv n := ⟨_, rfl⟩
  have PL : Hid (pre.length ≤ 100000100) := by
    unfold Hid
    rw [hpre]
    simp only [List.length_append, nl]
    omega
  rw [TE.out, ← hpre]
  have EP := hide hpre
  clear hpre
  go_enter Tryz.func40, Tryz.ntmps40
  go_upto_region 1 with fail
  rw [← hw0, ← hB]
  clear hw0 hB
  go_wp2_with fail
  refine J0.out.mono ?_
  rintro e w1 ⟨v1, rfl, ho1, hb1⟩
  obtain ⟨-, y1, -, -⟩ := R4.out w1 hb1
  have J1 := hide (dput_bn p ho1 (by omega) (by simp only [List.length_append, nl]; omega))
  have H1 := hide hb1
  clear ho1 hb1 J0 c0
  go_wp2_with fail
  refine J1.out.mono ?_
  rintro e w2 ⟨v2, rfl, ho2, hb2⟩
  have H2 := hide (below_on H1.out hb2)
  obtain ⟨-, -, y2, -⟩ := R4.out w2 H2.out
  have J2 := hide (dput_bn q ho2 (by omega) (by simp only [List.length_append, nl]; omega))
  clear ho2 hb2 J1 y1
  go_wp2_with fail
  refine J2.out.mono ?_
  rintro e w3 ⟨v3, rfl, ho3, hb3⟩
  have H3 := hide (below_on H2.out hb3)
  obtain ⟨-, -, -, y3⟩ := R4.out w3 H3.out
  have J3 := hide (dput_bn n ho3 (by omega) (by simp only [List.length_append, nl]; omega))
  clear ho3 hb3 J2 y2
  go_wp2_with fail
  refine J3.out.mono ?_
  rintro e w4 ⟨v4, rfl, ho4, hb4⟩
  have H4 := hide (below_on H3.out hb4)
  have O4 := hide ho4
  clear ho4 hb4 J3 y3
  rw [← EP.out] at O4
  go_wp2_with fail
  go_loopw [5, 0] (fun v u wr => ∃ k : Nat, v = .int .i64 (k : Int) ∧ k ≤ n ∧ Hid (Bn wr u (pre ++ codeBy (code.take k))) ∧ Hid (Below w0.heap.size w0 wr)) (fun v _ _ => n - (intOf v).toNat)
  case atStart => exact ⟨0, rfl, by omega, by unfold Hid; simpa [codeBy] using O4.out, H4.out⟩
  case round =>
    obtain ⟨k, rfl, hk, hown, hbw⟩ := hrel
    by_cases hlt : k < n
    · have hlt' : k < code.length := by rw [← HN.out]; exact hlt
      have AT : Hid (∀ w', Below w0.heap.size w0 w' → ∃ g o, ao = some ⟨g, o, none⟩ ∧ w'.cell? ⟨g, o + k * 2, none⟩ = some (.int .i64 code[k].op) ∧ w'.cell? ⟨g, o + k * 2 + 1, none⟩ = some (.int .i64 code[k].a)) := fun w' hb => by
        obtain ⟨g, o, h, -, d0, d1, -⟩ := (H.out.later hb).nth hlt'
        exact ⟨g, o, h, d0, d1⟩
      obtain ⟨g, o, rfl, -, d0, d1, -, ia⟩ := (H.out.later hbw.out).nth hlt'
      obtain ⟨-, -, -, y3⟩ := R4.out wr hbw.out
      have hop := K5.out _ (List.getElem_mem hlt')
      have E4 := hide (codeBy_snoc hlt')
      have CL : Hid ((pre ++ codeBy (code.take k)).length ≤ 100050000) := by
        unfold Hid
        have q2 := codeBy_len (l := code.take k) (fun i hi => ⟨K5.out i (List.mem_of_mem_take hi), H6.out i (List.mem_of_mem_take hi)⟩)
        rw [List.length_take] at q2
        have q3 : 20 * min k code.length ≤ 20 * 2000 := Nat.mul_le_mul_left _ (by omega)
        have := PL.out
        rw [List.length_append]
        omega
      generalize code[k] = x at *
      obtain ⟨op, a⟩ := x
      dsimp only at *
      obtain ⟨on, rfl⟩ : ∃ z : Nat, op = (z : Int) := ⟨op.toNat, by omega⟩
      have J1 := hide (dput_bn on hown.out (by omega) (by have := CL.out; omega))
      have hwo : IntKind.u64.wrap (on : Int) = (on : Int) := by rw [IntKind.wrap_u64]; omega
      have IA := hide ia
      have CL2 : Hid ((pre ++ codeBy (code.take k) ++ uv on).length ≤ 1000000000) := by
        have := CL.out
        have := uv_len (n := on) (by omega)
        unfold Hid
        rw [List.length_append]
        omega
      have E5 : Hid (insBy ⟨(on : Int), a⟩ = uv on ++ (if numb (opk (on : Int)) then uv (Lib.zigzag a) else [])) := rfl
      have i1 : (k : Int) < (n : Int) := by omega
      clear hlt' ia
      go_wp2_with fail
      refine J1.out.mono ?_
      rintro e w2 ⟨v2, rfl, b2, hb2⟩
      have B2 := hide b2
      have X2 := hide (below_on hbw.out hb2)
      obtain ⟨-, -, -, y3'⟩ := R4.out w2 X2.out
      obtain ⟨g', o', e', d0', d1'⟩ := AT.out w2 X2.out
      injection e' with e'
      injection e' with e1 e2
      subst e1 e2
      have J2 := hide (dhasa_any (on : Int) w2)
      clear J1 b2 hb2 d0 d1 y3
      go_wp2_with fail
      refine J2.out.mono ?_
      rintro e w3 ⟨rfl, hb3⟩
      have X3 := hide (below_on X2.out hb3)
      obtain ⟨-, -, -, y3⟩ := R4.out w3 X3.out
      obtain ⟨g', o', e', d0, d1⟩ := AT.out w3 X3.out
      injection e' with e'
      injection e' with e1 e2
      subst e1 e2
      have B3 : Hid (Bn w3 v2 (pre ++ codeBy (code.take k) ++ uv on)) := ⟨B2.out.1.below hb3 (Nat.le_refl _), B2.out.2⟩
      clear J2 hb3 y3' d0' d1' B2 X2
      cases hq : numb (opk (on : Int)) with
      | true =>
        have J3 := hide (dputint_bn a B3.out IA.out CL2.out)
        have E6 : Hid (insBy ⟨(on : Int), a⟩ = uv on ++ uv (Lib.zigzag a)) := by unfold Hid; rw [E5.out, hq]; rfl
        clear hq
        go_wp2_with fail
        refine J3.out.mono ?_
        rintro e w5 ⟨v5, rfl, b5, hb5⟩
        have B5 : Hid (Bn w5 v5 (pre ++ codeBy (code.take (k + 1)))) := by
          unfold Hid
          rw [E4.out, E6.out, ← List.append_assoc, ← List.append_assoc]
          exact b5
        have X5 := hide (below_on X3.out hb5)
        clear J3 b5 hb5 d0 d1 y3
        go_wp2_with fail
        exact ⟨⟨k + 1, by go_num, by omega, B5.out, X5.out⟩, by simp [intOf]; omega⟩
      | false =>
        have B5 : Hid (Bn w3 v2 (pre ++ codeBy (code.take (k + 1)))) := by
          unfold Hid
          have E6 : insBy ⟨(on : Int), a⟩ = uv on := by rw [E5.out, hq]; simp
          rw [E4.out, E6, ← List.append_assoc]
          exact B3.out
        clear hq
        go_wp2_with fail
        exact ⟨⟨k + 1, by go_num, by omega, B5.out, X3.out⟩, by simp [intOf]; omega⟩
    · obtain rfl : n = k := by omega
      have T2 : Hid (pre ++ codeBy code = pre ++ codeBy (code.take n)) := by unfold Hid; rw [HN.out, List.take_length]
      obtain ⟨-, -, -, y3⟩ := R4.out wr hbw.out
      go_wp2_with fail
      go_ret
      rw [T2.out]
      exact ⟨_, rfl, hown.out, below_on HB.out hbw.out⟩
end Go.Proofs.YtpolajoephjdhaaGreatDoor

/-
  The document's Encode.
-/
namespace Go.Proofs.YtpolajoephjdhaaGreatDoor
open Go.RowKit
set_option maxRecDepth 100000
/-- What a program is written as: nothing, if it may not be. -/
def enB (p : Pg) : List UInt8 := if mayOk p = true then pgBy p else []
def enE (p : Pg) : Int := if mayOk p = true then 0 else 130
set_option maxHeartbeats 8000000 in
theorem dencode_at {Q : Nat → Prop} {W : World} {ns cs nf cf : Nat} {sa fa : Option Addr} (sys : List Sy) (fns : List Rt) (hns : ns = sys.length) (hnf : nf = fns.length) (hc2 : cs ≤ 9223372036854775807) (hc4 : cf ≤ 9223372036854775807)
    (h1 : Sys Q W (.slice sa ns cs) sys) (h2 : Rts Q W (.slice fa nf cf) fns) (z1 : ∀ s ∈ sys, s.run.name.size ≤ 9223372036854775807 ∧ s.run.code.length ≤ 35184372088832) (z2 : ∀ r ∈ fns, r.name.size ≤ 9223372036854775807 ∧ r.code.length ≤ 35184372088832) : Calls Tryz.prog 15 #[.agg #[.slice sa ns cs, .slice fa nf cf]] W fun e w' => Below W.heap.size W w' ∧ ∃ v, e = .returned (.tuple #[v, .int .i64 (enE ⟨sys, fns⟩)]) ∧ Bn w' v (enB ⟨sys, fns⟩) := by
  obtain ⟨w0, hw0⟩ : ∃ X, X = W.alloc (.cells #[.slice sa ns cs, .slice fa nf cf] 27) := ⟨_, rfl⟩
  have B0 : Below W.heap.size W w0 := hw0 ▸ below_alloc W _
  have n1 : w0.heap[W.heap.size]? = some (.cells #[.slice sa ns cs, .slice fa nf cf] 27 (0, 0)) := by rw [hw0]; exact heap_alloc_new W _
  obtain ⟨B, hB⟩ : ∃ B, B = W.heap.size := ⟨_, rfl⟩
  rw [← hB] at n1
  have hc1 : ns ≤ cs := by
    obtain ⟨a9, c9, e, h, -⟩ := h1
    injection e with _ e2 e3
    omega
  have hc3 : nf ≤ cf := by
    obtain ⟨a9, c9, e, h, -⟩ := h2
    injection e with _ e2 e3
    omega
  have AT : Hid (∀ w', Below w0.heap.size w0 w' → w'.cell? ⟨B, 0, none⟩ = some (.slice sa ns cs) ∧ w'.cell? ⟨B, 1, none⟩ = some (.slice fa nf cf)) := fun w' hb => row2 ((hb.block B (lt_of_block n1)).trans n1)
  obtain ⟨c0, c1⟩ := AT.out w0 (Below.refl _ _)
  have HB := hide B0
  have H1 := hide (h1.later B0)
  have H2 := hide (h2.later B0)
  have HNS := hide hns
  have HNF := hide hnf
  have J := hide (dmay_at sys fns hns hnf hc2 hc4 H1.out H2.out z1 z2)
  obtain ⟨te, hte⟩ : ∃ t, t = mayOk ⟨sys, fns⟩ := ⟨_, rfl⟩
  have TE := hide hte
  rw [← hte] at J
  obtain ⟨ee, hee⟩ : ∃ x, x = enE ⟨sys, fns⟩ := ⟨_, rfl⟩
  obtain ⟨bb, hbb⟩ : ∃ x, x = enB ⟨sys, fns⟩ := ⟨_, rfl⟩
  rw [← hee, ← hbb]
  have EF : Hid (te = false → ee = 130 ∧ bb = []) := fun h => by
    rw [hee, hbb]
    unfold enE enB
    rw [← hte, h]
    exact ⟨rfl, rfl⟩
  have ET : Hid (te = true → ee = 0 ∧ bb = pgBy ⟨sys, fns⟩) := fun h => by
    rw [hee, hbb]
    unfold enE enB
    rw [← hte, h]
    exact ⟨rfl, rfl⟩
  clear hee hbb
  have SX : Hid ((∀ y ∈ sys, Sy6 y) ∧ ∀ y ∈ fns, Rt6 y) := ⟨h1.six, h2.six⟩
  clear n1 B0 h1 h2 hns hnf z1 z2 hte
  go_enter Tryz.func15, Tryz.ntmps15
  go_upto_region 1 with fail
  rw [← hw0, ← hB]
  clear hw0 hB
  go_wp2_with fail
  refine J.out.mono ?_
  rintro e w1 ⟨rfl, b1⟩
  have X1 := hide b1
  clear J b1 c0 c1
  obtain ⟨c0, c1⟩ := AT.out w1 X1.out
  cases te with
  | false =>
    obtain ⟨rfl, rfl⟩ := EF.out rfl
    go_wp2_with fail
    go_ret2
    exact ⟨below_on HB.out X1.out, _, rfl, bn_nil _⟩
  | true =>
    have MO := TE.out
    unfold mayOk at MO
    have MO' := MO.symm
    simp only [Bool.and_eq_true, decide_eq_true_eq] at MO'
    obtain ⟨⟨⟨⟨m1, m2⟩, m3⟩, m4⟩, -⟩ := MO'
    have hs16 : ns ≤ 16 := by rw [HNS.out]; exact m1
    have hf16 : nf ≤ 16 := by rw [HNF.out]; exact m2
    have M3 := hide m3
    have M4 := hide m4
    have PG : Hid (pgBy ⟨sys, fns⟩ = [] ++ uv ns ++ syssBy sys ++ uv nf ++ rtsBy fns) := by unfold Hid; rw [HNS.out, HNF.out]; rfl
    have u1 := uv_len (n := ns) (by omega)
    have u2 := uv_len (n := nf) (by omega)
    have hw1 : IntKind.u64.wrap (ns : Int) = (ns : Int) := by rw [IntKind.wrap_u64]; omega
    have hw2 : IntKind.u64.wrap (nf : Int) = (nf : Int) := by rw [IntKind.wrap_u64]; omega
    have LS : Hid (∀ k, (syssBy (sys.take k)).length ≤ 672000) := fun k => by
      have q := flat_len sysBy 42000 (l := sys.take k) (fun y hy => sysBy_len (List.all_eq_true.1 M3.out y (List.mem_of_mem_take hy)) (SX.out.1 y (List.mem_of_mem_take hy)))
      rw [List.length_take] at q
      have q3 : 42000 * min k sys.length ≤ 42000 * 16 := Nat.mul_le_mul_left _ (by have := HNS.out; omega)
      unfold syssBy
      omega
    have LR : Hid (∀ k, (rtsBy (fns.take k)).length ≤ 656000) := fun k => by
      have q := flat_len rtBy 41000 (l := fns.take k) (fun y hy => rtBy_len (List.all_eq_true.1 M4.out y (List.mem_of_mem_take hy)) (SX.out.2 y (List.mem_of_mem_take hy)))
      rw [List.length_take] at q
      have q3 : 41000 * min k fns.length ≤ 41000 * 16 := Nat.mul_le_mul_left _ (by have := HNF.out; omega)
      unfold rtsBy
      omega
    obtain ⟨rfl, hbe⟩ := ET.out rfl
    have BE : Hid (bb = [] ++ uv ns ++ syssBy sys ++ uv nf ++ rtsBy fns) := hbe.trans PG.out
    clear MO m1 m2 m3 m4 TE hbe EF ET PG
    have J := hide (dput_bn ns (bn_nil w1) (by omega) (by simp))
    go_wp2_with fail
    refine J.out.mono ?_
    rintro e w2 ⟨v2, rfl, b2, hb2⟩
    obtain ⟨p1, hp1⟩ : ∃ x, x = [] ++ uv ns := ⟨_, rfl⟩
    rw [← hp1] at b2 BE
    have P1 : Hid (p1.length ≤ 10) := by unfold Hid; rw [hp1]; simpa using u1
    have B2 := hide b2
    have X2 := hide (below_on X1.out hb2)
    clear J b2 hb2 c0 c1 hp1
    go_wp2_with fail
    go_loopw [6, 5] (fun v u wr => ∃ k : Nat, v = .int .i64 (k : Int) ∧ k ≤ ns ∧ Hid (Bn wr u (p1 ++ syssBy (sys.take k))) ∧ Hid (Below w0.heap.size w0 wr)) (fun v _ _ => ns - (intOf v).toNat)
    case atStart => exact ⟨0, rfl, by omega, by unfold Hid; simpa [syssBy] using B2.out, X2.out⟩
    case round =>
      obtain ⟨k, rfl, hk, hown, hbw⟩ := hrel
      obtain ⟨c0, c1⟩ := AT.out wr hbw.out
      by_cases hlt : k < ns
      · have hlt' : k < sys.length := by rw [← HNS.out]; exact hlt
        obtain ⟨g, o, rfl, -, hat⟩ := (H1.out.later hbw.out).nth hlt'
        obtain ⟨a1, a2, a3, a4, a5, m1, m2, m3, m4, m5, q1, q2, q3, q4, q5, hv, d0, d1, d2, d3, d4, d5, d6, d7⟩ := hat.vs
        have g1 := World.block_lt_of_cell? wr _ d0
        obtain ⟨w3, hw3⟩ : ∃ X, X = wr.alloc (.cells #[.slice a1 m1 q1, .slice a2 m2 q2, .slice a3 m3 q3, .slice a4 m4 q4, .string sys[k].run.name, .int .i64 sys[k].run.pa, .int .i64 sys[k].run.lo, .slice a5 m5 q5] 47) := ⟨_, rfl⟩
        obtain ⟨t, htt⟩ : ∃ t, t = wr.heap.size := ⟨_, rfl⟩
        have b3 : Below wr.heap.size wr w3 := hw3 ▸ below_alloc wr _
        have n3 : w3.heap[t]? = some (.cells #[.slice a1 m1 q1, .slice a2 m2 q2, .slice a3 m3 q3, .slice a4 m4 q4, .string sys[k].run.name, .int .i64 sys[k].run.pa, .int .i64 sys[k].run.lo, .slice a5 m5 q5] 47 (0, 0)) := by rw [hw3, htt]; exact heap_alloc_new wr _
        have VS := hide (hv.later b3)
        obtain ⟨s1, s2, s3, s4, s5⟩ := sysOk_all (List.all_eq_true.1 M3.out _ (List.getElem_mem hlt'))
        have E4 : Hid (syssBy (sys.take (k + 1)) = syssBy (sys.take k) ++ sysBy sys[k]) := flat_snoc sysBy hlt'
        have l1 := setBy_len s1
        have l2 := setBy_len s2
        have l3 := setBy_len s3
        have l4 := setBy_len s4
        have S5 := hide s5
        have S1 := hide s1
        have S2 := hide s2
        have S3 := hide s3
        have S4 := hide s4
        have HX := hide (below_on hbw.out b3)
        have N3 := hide n3
        have R8 : Hid (∀ w, Below w3.heap.size w3 w → w.cell? ⟨t, 0, none⟩ = some (.slice a1 m1 q1) ∧ w.cell? ⟨t, 1, none⟩ = some (.slice a2 m2 q2) ∧ w.cell? ⟨t, 2, none⟩ = some (.slice a3 m3 q3) ∧ w.cell? ⟨t, 3, none⟩ = some (.slice a4 m4 q4) ∧ w.cell? ⟨t, 4, none⟩ = some (.string sys[k].run.name) ∧ w.cell? ⟨t, 5, none⟩ = some (.int .i64 sys[k].run.pa) ∧ w.cell? ⟨t, 6, none⟩ = some (.int .i64 sys[k].run.lo) ∧ w.cell? ⟨t, 7, none⟩ = some (.slice a5 m5 q5)) := fun w hw => row8 ((hw.block t (lt_of_block n3)).trans n3)
        have B3 : Hid (Bn w3 _ (p1 ++ syssBy (sys.take k))) := ⟨hown.out.1.below b3 (Nat.le_refl _), hown.out.2⟩
        have L0 : Hid ((p1 ++ syssBy (sys.take k)).length ≤ 700000) := by
          unfold Hid
          have := LS.out k
          have := P1.out
          rw [List.length_append]
          omega
        have EX : Hid (sysBy sys[k] = setBy sys[k].wi ++ setBy sys[k].wo ++ setBy sys[k].re ++ setBy sys[k].wr ++ rtBy ⟨sys[k].run.name, sys[k].run.pa, sys[k].run.lo, sys[k].run.code⟩) := rfl
        have SOK : Hid (rtOk ⟨sys[k].run.name, sys[k].run.pa, sys[k].run.lo, sys[k].run.code⟩ = true) := s5
        obtain ⟨cur, hcur⟩ : ∃ x, x = p1 ++ syssBy (sys.take k) := ⟨_, rfl⟩
        have HC := hide hcur
        rw [← hcur] at B3 L0
        have LC := L0.out
        clear hat hv b3 n3 s1 s2 s3 s4 s5 S5 hown hcur L0
        generalize sys[k] = sk at *
        clear hlt'
        go_upto_region 9 with fail
        rw [← hw3, ← htt]
        clear hw3 htt c0 c1 d0 d1 d2 d3 d4 d5 d6 d7 N3
        obtain ⟨x0, -⟩ := R8.out w3 (Below.refl _ _)
        have J := hide (dputset_at _ VS.out.w S1.out B3.out (by omega))
        go_wp2_with fail
        refine J.out.mono ?_
        rintro e w4 ⟨v4, rfl, b4, hb4⟩
        have X4 := hide hb4
        obtain ⟨-, x1, -⟩ := R8.out w4 X4.out
        have J' := hide (dputset_at _ (VS.out.later X4.out).wo S2.out b4 (by rw [List.length_append]; omega))
        clear J b4 hb4 x0
        go_wp2_with fail
        refine J'.out.mono ?_
        rintro e w5 ⟨v5, rfl, b5, hb5⟩
        have X5 := hide (below_on X4.out hb5)
        obtain ⟨-, -, x2, -⟩ := R8.out w5 X5.out
        have J := hide (dputset_at _ (VS.out.later X5.out).re S3.out b5 (by simp only [List.length_append]; omega))
        clear J' b5 hb5 x1 X4
        go_wp2_with fail
        refine J.out.mono ?_
        rintro e w6 ⟨v6, rfl, b6, hb6⟩
        have X6 := hide (below_on X5.out hb6)
        obtain ⟨-, -, -, x3, -⟩ := R8.out w6 X6.out
        have J' := hide (dputset_at _ (VS.out.later X6.out).wr S4.out b6 (by simp only [List.length_append]; omega))
        clear J b6 hb6 x2 X5
        go_wp2_with fail
        refine J'.out.mono ?_
        rintro e w7 ⟨v7, rfl, b7, hb7⟩
        have X7 := hide (below_on X6.out hb7)
        obtain ⟨-, -, -, -, x4, x5, x6, x7⟩ := R8.out w7 X7.out
        have J := hide (dputroutine_at _ _ _ _ VS.out.ln VS.out.le VS.out.cp (VS.out.later X7.out).co SOK.out b7 (by simp only [List.length_append]; omega))
        clear J' b7 hb7 x3 X6
        go_wp2_with fail
        refine J.out.mono ?_
        rintro e w8 ⟨v8, rfl, b8, hb8⟩
        have B8 : Hid (Bn w8 v8 (p1 ++ syssBy (sys.take (k + 1)))) := by
          unfold Hid
          rw [E4.out, EX.out, ← List.append_assoc, ← HC.out]
          simpa [List.append_assoc] using b8
        have X8 := hide (below_on HX.out (below_on X7.out hb8))
        clear J b8 hb8 x4 x5 x6 x7 X7 VS
        go_wp2_with fail
        exact ⟨⟨k + 1, by go_num, by omega, B8.out, X8.out⟩, by simp [intOf]; omega⟩
      · obtain rfl : ns = k := by omega
        have T2 : Hid (p1 ++ syssBy sys = p1 ++ syssBy (sys.take ns)) := by unfold Hid; rw [HNS.out, List.take_length]
        have LT : Hid ((p1 ++ syssBy (sys.take ns)).length ≤ 1000000) := by
          unfold Hid
          have := LS.out ns
          have := P1.out
          rw [List.length_append]
          omega
        rw [T2.out] at BE
        have J := hide (dput_bn nf hown.out (by omega) (by have := LT.out; omega))
        have XR := hide hbw.out
        obtain ⟨cur, hcur⟩ : ∃ x, x = p1 ++ syssBy (sys.take ns) ++ uv nf := ⟨_, rfl⟩
        rw [← hcur] at J BE
        have LC : Hid (cur.length ≤ 1000010) := by
          unfold Hid
          rw [hcur, List.length_append]
          have := LT.out
          omega
        clear hown hbw T2 LT hcur
        go_wp2_with fail
        refine J.out.mono ?_
        rintro e w3 ⟨v3, rfl, b3, hb3⟩
        have B3 := hide b3
        have X3 := hide (below_on XR.out hb3)
        clear J b3 hb3 c0 c1
        go_wp2_with fail
        go_loopw [8, 5] (fun v u wr => ∃ j : Nat, v = .int .i64 (j : Int) ∧ j ≤ nf ∧ Hid (Bn wr u (cur ++ rtsBy (fns.take j))) ∧ Hid (Below w0.heap.size w0 wr)) (fun v _ _ => nf - (intOf v).toNat)
        case atStart => exact ⟨0, rfl, by omega, by unfold Hid; simpa [rtsBy] using B3.out, X3.out⟩
        case round =>
          obtain ⟨j, rfl, hj, hown, hbw⟩ := hrel
          obtain ⟨c0, c1⟩ := AT.out wr hbw.out
          by_cases hlt : j < nf
          · have hlt' : j < fns.length := by rw [← HNF.out]; exact hlt
            obtain ⟨g, o, rfl, -, -, -, vc, d0, d1, d2, d3, hil⟩ := (H2.out.later hbw.out).nth hlt'
            obtain ⟨a5, p5, rfl, e1, e2⟩ := hil.at
            have E4 : Hid (rtsBy (fns.take (j + 1)) = rtsBy (fns.take j) ++ rtBy fns[j]) := flat_snoc rtBy hlt'
            have EX : Hid (rtBy fns[j] = rtBy ⟨fns[j].name, fns[j].pa, fns[j].lo, fns[j].code⟩) := rfl
            have SOK : rtOk ⟨fns[j].name, fns[j].pa, fns[j].lo, fns[j].code⟩ = true := List.all_eq_true.1 M4.out _ (List.getElem_mem hlt')
            have J := hide (dputroutine_at _ _ _ _ rfl e1 e2 hil SOK hown.out (by have := LR.out j; have := LC.out; rw [List.length_append]; omega))
            have XB := hide hbw.out
            clear hil SOK hown hbw
            generalize hgn : fns[j].name = nm at *
            generalize hgp : fns[j].pa = pa at *
            generalize hgl : fns[j].lo = lo at *
            generalize hgc : fns[j].code.length = cl at *
            clear hgn hgp hgl hgc
            go_wp2_with fail
            refine J.out.mono ?_
            rintro e w5 ⟨v5, rfl, b5, hb5⟩
            have B5 : Hid (Bn w5 v5 (cur ++ rtsBy (fns.take (j + 1)))) := by
              unfold Hid
              rw [E4.out, EX.out, ← List.append_assoc]
              exact b5
            have X5 := hide (below_on XB.out hb5)
            clear J b5 hb5 d0 d1 d2 d3 c0 c1 EX E4
            go_wp2_with fail
            exact ⟨⟨j + 1, by go_num, by omega, B5.out, X5.out⟩, by simp [intOf]; omega⟩
          · obtain rfl : nf = j := by omega
            have T3 : Hid (cur ++ rtsBy fns = cur ++ rtsBy (fns.take nf)) := by unfold Hid; rw [HNF.out, List.take_length]
            rw [T3.out] at BE
            go_wp2_with fail
            go_ret2
            exact ⟨below_on HB.out hbw.out, _, rfl, by rw [BE.out]; exact hown.out⟩
theorem dencode_any {Q : Nat → Prop} {W : World} {vs vf : Value} (p : Pg) (h : Pgm Q W vs vf p) (z1 : ∀ s ∈ p.sys, s.run.name.size ≤ 9223372036854775807 ∧ s.run.code.length ≤ 35184372088832) (z2 : ∀ r ∈ p.fns, r.name.size ≤ 9223372036854775807 ∧ r.code.length ≤ 35184372088832) : Calls Tryz.prog 15 #[.agg #[vs, vf]] W fun e w' => Below W.heap.size W w' ∧ ∃ v, e = .returned (.tuple #[v, .int .i64 (enE p)]) ∧ Bn w' v (enB p) := by
  obtain ⟨h1, h2⟩ := h
  obtain ⟨a1, c1, rfl, e1, e2⟩ := h1.at
  obtain ⟨a2, c2, rfl, e3, e4⟩ := h2.at
  exact dencode_at p.sys p.fns rfl rfl e2 e4 h1 h2 z1 z2
/-- The code's, in the same words. -/
theorem encode_all {Q : Nat → Prop} {W : World} {vs vf : Value} (p : Pg) (h : Pgm Q W vs vf p) (ht : Tb W) : Calls Tryz.prog 14 #[.agg #[vs, vf]] W fun e w' => Below W.heap.size W w' ∧ ∃ v, e = .returned (.tuple #[v, .int .i64 (enE p)]) ∧ w'.ownsRow W.heap.size 5 1 v (enB p).length (Lib.byteCells (enB p)) := by
  refine (encode_any p h ht).mono ?_
  intro e w' ho
  obtain ⟨h1, h2⟩ := ho
  unfold enE enB
  by_cases hm : mayOk p = true
  · rw [if_pos hm] at h2
    rw [if_pos hm, if_pos hm]
    exact ⟨h1, h2⟩
  · rw [if_neg hm] at h2
    rw [if_neg hm, if_neg hm]
    exact ⟨h1, _, h2, World.ownsRow_nil _ _ _ _⟩
end Go.Proofs.YtpolajoephjdhaaGreatDoor
