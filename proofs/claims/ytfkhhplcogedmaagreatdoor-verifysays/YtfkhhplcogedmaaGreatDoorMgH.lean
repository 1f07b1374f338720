import Derived.Test.YtfkhhplcogedmaaGreatDoorMgE
/-
  mayBeWritten.
-/
namespace Go.Proofs.YtfkhhplcogedmaaGreatDoor
open Go.RowKit
set_option maxRecDepth 100000
/-- A system's eight values, each as the code hands it on. -/
structure SyVs (Q : Nat → Prop) (W : World) (s : Sy) (a1 a2 a3 a4 a5 : Option Addr) (n1 n2 n3 n4 n5 c1 c2 c3 c4 c5 : Nat) : Prop where
  w : Nl Q W (.slice a1 n1 c1) s.wi
  wo : Nl Q W (.slice a2 n2 c2) s.wo
  re : Nl Q W (.slice a3 n3 c3) s.re
  wr : Nl Q W (.slice a4 n4 c4) s.wr
  co : Il Q W (.slice a5 n5 c5) s.run.code
  ln : n5 = s.run.code.length
  le : n5 ≤ c5
  cp : c5 ≤ 9223372036854775807
  pa : I6 s.run.pa
  lo : I6 s.run.lo
theorem SyAt.vs {Q : Nat → Prop} {W : World} {g o : Nat} {s : Sy} (h : SyAt Q W g o s) : ∃ a1 a2 a3 a4 a5 n1 n2 n3 n4 n5 c1 c2 c3 c4 c5, SyVs Q W s a1 a2 a3 a4 a5 n1 n2 n3 n4 n5 c1 c2 c3 c4 c5 ∧ W.cell? ⟨g, o, none⟩ = some (.slice a1 n1 c1) ∧ W.cell? ⟨g, o + 1, none⟩ = some (.slice a2 n2 c2) ∧ W.cell? ⟨g, o + 2, none⟩ = some (.slice a3 n3 c3) ∧ W.cell? ⟨g, o + 3, none⟩ = some (.slice a4 n4 c4) ∧ W.cell? ⟨g, o + 4, none⟩ = some (.string s.run.name) ∧ W.cell? ⟨g, o + 5, none⟩ = some (.int .i64 s.run.pa) ∧ W.cell? ⟨g, o + 6, none⟩ = some (.int .i64 s.run.lo) ∧ W.cell? ⟨g, o + 7, none⟩ = some (.slice a5 n5 c5) := by
  obtain ⟨i1, i2, v1, v2, v3, v4, vc, h1, h2, h3, h4, h5, h6, h7, h8, m1, m2, m3, m4, m5⟩ := h
  obtain ⟨a1, c1, rfl, -, -⟩ := m1.at
  obtain ⟨a2, c2, rfl, -, -⟩ := m2.at
  obtain ⟨a3, c3, rfl, -, -⟩ := m3.at
  obtain ⟨a4, c4, rfl, -, -⟩ := m4.at
  obtain ⟨a5, c5, rfl, e1, e2⟩ := m5.at
  exact ⟨a1, a2, a3, a4, a5, _, _, _, _, _, c1, c2, c3, c4, c5, ⟨m1, m2, m3, m4, m5, rfl, e1, e2, i1, i2⟩, h1, h2, h3, h4, h5, h6, h7, h8⟩
theorem SyVs.later {Q : Nat → Prop} {W W' : World} {s : Sy} {a1 a2 a3 a4 a5 : Option Addr} {n1 n2 n3 n4 n5 c1 c2 c3 c4 c5 : Nat} (h : SyVs Q W s a1 a2 a3 a4 a5 n1 n2 n3 n4 n5 c1 c2 c3 c4 c5) (hb : Below W.heap.size W W') : SyVs Q W' s a1 a2 a3 a4 a5 n1 n2 n3 n4 n5 c1 c2 c3 c4 c5 :=
  ⟨h.w.later hb, h.wo.later hb, h.re.later hb, h.wr.later hb, h.co.later hb, h.ln, h.le, h.cp, h.pa, h.lo⟩
theorem row8 {w : World} {B : Nat} {x1 x2 x3 x4 x5 x6 x7 x8 : Value} (h : w.heap[B]? = some (.cells #[x1, x2, x3, x4, x5, x6, x7, x8] 38 (0, 0))) : w.cell? ⟨B, 0, none⟩ = some x1 ∧ w.cell? ⟨B, 1, none⟩ = some x2 ∧ w.cell? ⟨B, 2, none⟩ = some x3 ∧ w.cell? ⟨B, 3, none⟩ = some x4 ∧ w.cell? ⟨B, 4, none⟩ = some x5 ∧ w.cell? ⟨B, 5, none⟩ = some x6 ∧ w.cell? ⟨B, 6, none⟩ = some x7 ∧ w.cell? ⟨B, 7, none⟩ = some x8 := by
  refine ⟨?_, ?_, ?_, ?_, ?_, ?_, ?_, ?_⟩ <;> rw [cell_of_row w _ _ _ 38 (0, 0) h] <;> rfl
/-- How many instructions the first systems have. -/
def sumS (l : List Sy) : Nat := (l.map fun s => s.run.code.length).sum
def sumR (l : List Rt) : Nat := (l.map fun r => r.code.length).sum
theorem sumS_snoc {l : List Sy} {k : Nat} (h : k < l.length) : sumS (l.take (k + 1)) = sumS (l.take k) + l[k].run.code.length := by
  unfold sumS
  rw [List.take_add_one, List.getElem?_eq_getElem h, List.map_append, List.sum_append]
  simp
theorem sumR_snoc {l : List Rt} {k : Nat} (h : k < l.length) : sumR (l.take (k + 1)) = sumR (l.take k) + l[k].code.length := by
  unfold sumR
  rw [List.take_add_one, List.getElem?_eq_getElem h, List.map_append, List.sum_append]
  simp
theorem sysOk_rt {s : Sy} (h : sysOk s = true) : rtOk s.run = true := by
  unfold sysOk at h
  simp only [Bool.and_eq_true] at h
  exact h.2
theorem all_snoc {α : Type} {p : α → Bool} {l : List α} {k : Nat} (h : k < l.length) (ha : (l.take k).all p = true) : (l.take (k + 1)).all p = p l[k] := by
  rw [List.take_add_one, List.getElem?_eq_getElem h, List.all_append, ha]
  simp
theorem all_no {α : Type} {p : α → Bool} {l : List α} {k : Nat} (h : k < l.length) (hp : p l[k] = false) : l.all p = false := by
  rw [List.all_eq_false]
  exact ⟨l[k], List.getElem_mem _, by rw [hp]; simp⟩
set_option maxHeartbeats 8000000 in
theorem maywrite_at {Q : Nat → Prop} {W : World} {ns cs nf cf : Nat} {sa fa : Option Addr} (sys : List Sy) (fns : List Rt) (hns : ns = sys.length) (hnf : nf = fns.length) (hc1 : ns ≤ cs) (_hc2 : cs ≤ 9223372036854775807) (hc3 : nf ≤ cf) (_hc4 : cf ≤ 9223372036854775807)
    (h1 : Sys Q W (.slice sa ns cs) sys) (h2 : Rts Q W (.slice fa nf cf) fns) (ht : Tb W) : Calls Tryz.prog 41 #[.agg #[.slice sa ns cs, .slice fa nf cf]] W fun e w' => e = .returned (.bool (mayOk ⟨sys, fns⟩)) ∧ Below W.heap.size W w' := by
  obtain ⟨w0, hw0⟩ : ∃ X, X = W.alloc (.cells #[.slice sa ns cs, .slice fa nf cf] 25) := ⟨_, rfl⟩
  have B0 : Below W.heap.size W w0 := hw0 ▸ below_alloc W _
  have n1 : w0.heap[W.heap.size]? = some (.cells #[.slice sa ns cs, .slice fa nf cf] 25 (0, 0)) := by rw [hw0]; exact heap_alloc_new W _
  obtain ⟨B, hB⟩ : ∃ B, B = W.heap.size := ⟨_, rfl⟩
  rw [← hB] at n1
  have c0 : w0.cell? ⟨B, 0, none⟩ = some (.slice sa ns cs) := by rw [cell_of_row w0 _ _ _ 25 (0, 0) n1]; rfl
  have c1 : w0.cell? ⟨B, 1, none⟩ = some (.slice fa nf cf) := by rw [cell_of_row w0 _ _ _ 25 (0, 0) n1]; rfl
  obtain ⟨te, hte⟩ : ∃ t, t = mayOk ⟨sys, fns⟩ := ⟨_, rfl⟩
  rw [← hte]
  have TE : Hid (te = (decide (ns ≤ 16 ∧ nf ≤ 16) && sys.all sysOk && fns.all rtOk && decide (sumS sys + sumR fns ≤ 2000))) := by
    unfold Hid
    rw [hte, hns, hnf]; rfl
  have HW := hide hw0
  have HB := hide B0
  have EB := hide hB
  have N1 := hide n1
  have H1 := hide h1
  have H2 := hide h2
  have HT := hide ht
  have HNS := hide hns
  have HNF := hide hnf
  clear hte n1 B0 ht h1 h2 hns hnf
  go_enter Tryz.func41, Tryz.ntmps41
  go_upto_region 1 with fail
  rw [← hw0, ← hB]
  clear hw0 hB
  by_cases hs16 : 16 < ns
  · obtain rfl : te = false := by rw [TE.out, decide_eq_false (by omega)]; rfl
    go_wp2_with fail
    go_ret
    exact ⟨rfl, HB.out⟩
  by_cases hf16 : 16 < nf
  · obtain rfl : te = false := by rw [TE.out, decide_eq_false (by omega)]; rfl
    go_wp2_with fail
    go_ret
    exact ⟨rfl, HB.out⟩
  have TE2 : Hid (te = (sys.all sysOk && fns.all rtOk && decide (sumS sys + sumR fns ≤ 2000))) := by
    unfold Hid
    rw [TE.out, decide_eq_true (by omega), Bool.true_and]
  clear TE
  go_wp2_with fail
  go_loopw [21, 3] (fun v u wr => ∃ (k n : Nat), v = .int .i64 (k : Int) ∧ u = .int .i64 (n : Int) ∧ k ≤ ns ∧ n ≤ 2000 * k ∧ Hid (n = sumS (sys.take k)) ∧ Hid ((sys.take k).all sysOk = true) ∧ Hid (Below w0.heap.size w0 wr)) (fun v _ _ => ns - (intOf v).toNat)
  case atStart => exact ⟨0, 0, rfl, rfl, by omega, by omega, rfl, rfl, Below.refl _ _⟩
  case round =>
    obtain ⟨k, n, rfl, rfl, hk, hn, hsum, hall, hbw⟩ := hrel
    by_cases hlt : k < ns
    · have hlt' : k < sys.length := by rw [← HNS.out]; exact hlt
      have bw := below_on HB.out hbw.out
      obtain ⟨g, o, rfl, -, hat⟩ := (H1.out.later bw).nth hlt'
      obtain ⟨a1, a2, a3, a4, a5, m1, m2, m3, m4, m5, p1, p2, p3, p4, p5, hv, d0, d1, d2, d3, d4, d5, d6, d7⟩ := hat.vs
      have g1 := World.block_lt_of_cell? wr _ d0
      obtain ⟨w2, hw2⟩ : ∃ X, X = wr.alloc (.cells #[.slice a1 m1 p1, .slice a2 m2 p2, .slice a3 m3 p3, .slice a4 m4 p4, .string sys[k].run.name, .int .i64 sys[k].run.pa, .int .i64 sys[k].run.lo, .slice a5 m5 p5] 38) := ⟨_, rfl⟩
      obtain ⟨t, htt⟩ : ∃ t, t = wr.heap.size := ⟨_, rfl⟩
      have b2 : Below wr.heap.size wr w2 := hw2 ▸ below_alloc wr _
      have n2 : w2.heap[t]? = some (.cells #[.slice a1 m1 p1, .slice a2 m2 p2, .slice a3 m3 p3, .slice a4 m4 p4, .string sys[k].run.name, .int .i64 sys[k].run.pa, .int .i64 sys[k].run.lo, .slice a5 m5 p5] 38 (0, 0)) := by rw [hw2, htt]; exact heap_alloc_new wr _
      have hv2 := hv.later b2
      have J1 := hide (aresets_at (.string sys[k].run.name) (.int .i64 sys[k].run.pa) (.int .i64 sys[k].run.lo) (.slice a5 m5 p5) _ _ _ _ hv2.w hv2.wo hv2.re hv2.wr)
      have J2 : Hid (∀ w, Below w2.heap.size w2 w → Calls Tryz.prog 68 #[.agg #[.string sys[k].run.name, .int .i64 sys[k].run.pa, .int .i64 sys[k].run.lo, .slice a5 m5 p5]] w fun e w' => e = .returned (.bool (rtOk sys[k].run)) ∧ Below w.heap.size w w') := fun w hw => isroutine_at _ _ _ _ hv.ln hv.le hv.cp (hv2.later hw).co (((HT.out.later bw).later b2).later hw)
      have E4 := hide (all_snoc (p := sysOk) hlt' hall.out)
      have E5 := hide (fun h => all_no (p := sysOk) (l := sys) hlt' h)
      have E6 := hide (sumS_snoc hlt')
      have E7 : Hid (sysOk sys[k] = (setOk sys[k].wi && setOk sys[k].wo && setOk sys[k].re && setOk sys[k].wr && rtOk sys[k].run)) := rfl
      have E8 : Hid (rtOk sys[k].run = true → m5 ≤ 2000) := fun h => by have := rtOk_code h; have := hv.ln; omega
      have E9 := hide hv.ln
      have HX := hide (below_on hbw.out b2)
      have N2 := hide n2
      have R8 : Hid (∀ w, Below w2.heap.size w2 w → w.cell? ⟨t, 4, none⟩ = some (.string sys[k].run.name) ∧ w.cell? ⟨t, 5, none⟩ = some (.int .i64 sys[k].run.pa) ∧ w.cell? ⟨t, 6, none⟩ = some (.int .i64 sys[k].run.lo) ∧ w.cell? ⟨t, 7, none⟩ = some (.slice a5 m5 p5)) := fun w hw => by
        have := row8 ((hw.block t (lt_of_block n2)).trans n2)
        exact this.2.2.2.2
      generalize (setOk sys[k].wi && setOk sys[k].wo && setOk sys[k].re && setOk sys[k].wr) = q1 at *
      rw [E7.out] at E4 E5
      generalize rtOk sys[k].run = q2 at *
      generalize sys[k].run.name = nm at *
      generalize sys[k].run.pa = pa at *
      generalize sys[k].run.lo = lo at *
      generalize sys[k].run.code.length = cl at *
      clear hat hv hv2 b2 bw
      go_upto_region 7 with fail
      rw [← hw2, ← htt]
      obtain ⟨x0, x1, x2, x3, x4, x5, x6, x7⟩ := row8 n2
      clear hw2 htt n2 E7
      cases q1 with
      | false =>
        obtain rfl : te = false := by rw [TE2.out, E5.out rfl]; rfl
        go_wp2_with fail
        refine J1.out.mono ?_
        rintro e w3 ⟨rfl, hb3⟩
        go_wp2_with fail
        go_ret
        exact ⟨rfl, below_on HB.out (below_on HX.out hb3)⟩
      | true =>
        go_wp2_with fail
        refine J1.out.mono ?_
        rintro e w3 ⟨rfl, hb3⟩
        obtain ⟨z4, z5, z6, z7⟩ := R8.out w3 hb3
        have J3 := hide (J2.out w3 hb3)
        have HB3 := hide hb3
        clear hb3 J1 x0 x1 x2 x3 x4 x5 x6 x7
        cases q2 with
        | false =>
          obtain rfl : te = false := by rw [TE2.out, E5.out rfl]; rfl
          go_wp2_with fail
          refine J3.out.mono ?_
          rintro e w4 ⟨rfl, hb4⟩
          go_wp2_with fail
          go_ret
          exact ⟨rfl, below_on HB.out (below_on HX.out (below_on HB3.out hb4))⟩
        | true =>
          have h2k := E8.out rfl
          go_wp2_with fail
          refine J3.out.mono ?_
          rintro e w4 ⟨rfl, hb4⟩
          obtain ⟨-, -, -, z8⟩ := R8.out w4 (below_on HB3.out hb4)
          have HB4 := hide (below_on HX.out (below_on HB3.out hb4))
          clear hb4 J3 z4 z5 z6 z7
          go_wp2_with fail
          go_roundw
          case rel => exact ⟨k + 1, n + m5, by go_num, by go_num, by omega, by omega, by have := E6.out; have := hsum.out; have := E9.out; unfold Hid; omega, E4.out, HB4.out⟩
          case measure => simp [intOf]; omega
    · obtain rfl : k = ns := by omega
      have SA : Hid (sys.all sysOk = true ∧ n = sumS sys) := by
        have h1 := hall.out
        have h2 := hsum.out
        rw [HNS.out, List.take_length] at h1 h2
        exact ⟨h1, h2⟩
      have n3 := (hbw.out.block B (lt_of_block N1.out)).trans N1.out
      have y1 : wr.cell? ⟨B, 1, none⟩ = some (.slice fa nf cf) := by rw [cell_of_row wr _ _ _ 25 (0, 0) n3]; rfl
      have TE3 : Hid (te = (fns.all rtOk && decide (n + sumR fns ≤ 2000))) := by
        unfold Hid
        rw [TE2.out, SA.out.1, Bool.true_and, ← SA.out.2]
      have HBW := hide (below_on HB.out hbw.out)
      obtain ⟨wq, hwq⟩ : ∃ X, X = wr := ⟨_, rfl⟩
      subst hwq
      clear TE2 hbw hall hsum n3 c0 c1 SA hlt
      go_wp2_with fail
      go_loopw [44, 3] (fun v u wr => ∃ (j m : Nat), v = .int .i64 (j : Int) ∧ u = .int .i64 (m : Int) ∧ j ≤ nf ∧ m ≤ n + 2000 * j ∧ Hid (m = n + sumR (fns.take j)) ∧ Hid ((fns.take j).all rtOk = true) ∧ Hid (Below wq.heap.size wq wr)) (fun v _ _ => nf - (intOf v).toNat)
      case atStart => exact ⟨0, n, rfl, rfl, by omega, by omega, rfl, rfl, Below.refl _ _⟩
      case round =>
        obtain ⟨j, m, rfl, rfl, hj, hm, hsum, hall, hbw⟩ := hrel
        by_cases hlt : j < nf
        · have hlt' : j < fns.length := by rw [← HNF.out]; exact hlt
          have bw := below_on HBW.out hbw.out
          obtain ⟨g, o, rfl, -, -, -, vc, d0, d1, d2, d3, hil⟩ := (H2.out.later bw).nth hlt'
          obtain ⟨a5, p5, rfl, e1, e2⟩ := hil.at
          have g1 := World.block_lt_of_cell? wr _ d0
          obtain ⟨w2, hw2⟩ : ∃ X, X = wr.alloc (.cells #[.string fns[j].name, .int .i64 fns[j].pa, .int .i64 fns[j].lo, .slice a5 fns[j].code.length p5] 35) := ⟨_, rfl⟩
          obtain ⟨t, htt⟩ : ∃ t, t = wr.heap.size := ⟨_, rfl⟩
          have b2 : Below wr.heap.size wr w2 := hw2 ▸ below_alloc wr _
          have n2 : w2.heap[t]? = some (.cells #[.string fns[j].name, .int .i64 fns[j].pa, .int .i64 fns[j].lo, .slice a5 fns[j].code.length p5] 35 (0, 0)) := by rw [hw2, htt]; exact heap_alloc_new wr _
          have J2 := hide (isroutine_at fns[j].name fns[j].pa fns[j].lo fns[j].code rfl e1 e2 (hil.later b2) ((HT.out.later bw).later b2))
          have E4 := hide (all_snoc (p := rtOk) hlt' hall.out)
          have E5 := hide (fun h => all_no (p := rtOk) (l := fns) hlt' h)
          have E6 := hide (sumR_snoc hlt')
          have E8 : Hid (rtOk fns[j] = true → fns[j].code.length ≤ 2000) := fun h => rtOk_code h
          have HX := hide (below_on hbw.out b2)
          have N2 := hide n2
          have EQ : rtOk ⟨fns[j].name, fns[j].pa, fns[j].lo, fns[j].code⟩ = rtOk fns[j] := rfl
          rw [EQ] at J2
          generalize rtOk fns[j] = q2 at *
          generalize fns[j].name = nm at *
          generalize fns[j].pa = pa at *
          generalize fns[j].lo = lo at *
          generalize fns[j].code.length = cl at *
          clear hil b2 bw EQ
          go_upto_region 14 with fail
          rw [← hw2, ← htt]
          obtain ⟨x0, x1, x2, x3⟩ := row4 n2
          clear hw2 htt n2
          cases q2 with
          | false =>
            obtain rfl : te = false := by rw [TE3.out, E5.out rfl]; rfl
            go_wp2_with fail
            refine J2.out.mono ?_
            rintro e w4 ⟨rfl, hb4⟩
            go_wp2_with fail
            go_ret
            exact ⟨rfl, below_on HBW.out (below_on HX.out hb4)⟩
          | true =>
            have h2k := E8.out rfl
            go_wp2_with fail
            refine J2.out.mono ?_
            rintro e w4 ⟨rfl, hb4⟩
            obtain ⟨-, -, -, z8⟩ := row4 ((hb4.block t (lt_of_block N2.out)).trans N2.out)
            have HB4 := hide (below_on HX.out hb4)
            clear hb4 J2 x0 x1 x2 x3
            go_wp2_with fail
            go_roundw
            case rel => exact ⟨j + 1, m + cl, by go_num, by go_num, by omega, by omega, by have := E6.out; have := hsum.out; unfold Hid; omega, E4.out, HB4.out⟩
            case measure => simp [intOf]; omega
        · obtain rfl : j = nf := by omega
          have SB : fns.all rtOk = true ∧ m = n + sumR fns := by
            have h1 := hall.out
            have h2 := hsum.out
            rw [HNF.out, List.take_length] at h1 h2
            exact ⟨h1, h2⟩
          have T4 : Hid (te = decide (m ≤ 2000)) := by
            unfold Hid
            rw [TE3.out, SB.1, Bool.true_and, ← SB.2]
          clear SB hsum hall hm
          go_wp2_with fail
          go_ret
          refine ⟨?_, below_on HBW.out hbw.out⟩
          rw [T4.out]
          exact ret_bool (by rw [decide_eq_decide]; omega)
theorem maywrite_any {Q : Nat → Prop} {W : World} {vs vf : Value} (p : Pg) (h : Pgm Q W vs vf p) (ht : Tb W) : Calls Tryz.prog 41 #[.agg #[vs, vf]] W fun e w' => e = .returned (.bool (mayOk p)) ∧ Below W.heap.size W w' := by
  obtain ⟨h1, h2⟩ := h
  obtain ⟨a1, c1, rfl, e1, e2⟩ := h1.at
  obtain ⟨a2, c2, rfl, e3, e4⟩ := h2.at
  exact maywrite_at p.sys p.fns rfl rfl e1 e2 e3 e4 h1 h2 ht
end Go.Proofs.YtfkhhplcogedmaaGreatDoor

/-
  The bytes of a program, as a plain function; instrBytes, setBytes.
-/
namespace Go.Proofs.YtfkhhplcogedmaaGreatDoor
open Go.RowKit
set_option maxRecDepth 100000
abbrev uv (n : Nat) : List UInt8 := Lib.uvarint n
def insBy (i : Ins) : List UInt8 := uv i.op.toNat ++ (if numb (opk i.op) then uv (Lib.zigzag i.a) else [])
def setBy (l : List Int) : List UInt8 := uv l.length ++ l.flatMap fun k => uv k.toNat
def rtBy (r : Rt) : List UInt8 := uv r.name.size ++ r.name.data.toList ++ uv r.pa.toNat ++ uv r.lo.toNat ++ uv r.code.length ++ r.code.flatMap insBy
def sysBy (s : Sy) : List UInt8 := setBy s.wi ++ setBy s.wo ++ setBy s.re ++ setBy s.wr ++ rtBy s.run
def pgBy (p : Pg) : List UInt8 := uv p.sys.length ++ p.sys.flatMap sysBy ++ uv p.fns.length ++ p.fns.flatMap rtBy
/-- Bytes of the caller's own. -/
def ByOut (W : World) (l : List UInt8) (e : Ending) (w' : World) : Prop := ∃ v', e = .returned v' ∧ w'.ownsRow W.heap.size 5 1 v' l.length (Lib.byteCells l) ∧ Below W.heap.size W w'
theorem own_bs {w : World} {B : Nat} {v : Value} {l : List UInt8} (h : w.ownsRow B 5 1 v l.length (Lib.byteCells l)) : Bs w v l := by
  by_cases h0 : 0 < l.length
  · have hc := h
    obtain ⟨-, ⟨-, h'⟩ | ⟨g, cap, cur, rfl, hB, hg, h1, h2, -⟩⟩ := h
    · omega
    · refine ⟨some ⟨g, 0, none⟩, cap, rfl, h1, h2, fun j hj => ⟨g, 0, rfl, ?_⟩⟩
      have := hc.cellAt j (by omega)
      rw [Nat.zero_add]
      have e : (Lib.byteCells l)[j]? = some (.int .u8 (l[j]).toNat) := by simp [Lib.byteCells, hj]
      rw [e] at this
      simpa using this
  · obtain ⟨ao, c, rfl⟩ := own_len h
    have hcap := own_cap h
    exact ⟨ao, c, rfl, hcap.1, by unfold maxLen; omega, fun j hj => absurd hj (by omega)⟩
theorem uv_len {n : Nat} (h : n < 18446744073709551616) : (uv n).length ≤ 10 := Lib.uvarint_length64 h
theorem zig_lt {n : Int} (h : I6 n) : Lib.zigzag n < 18446744073709551616 := Lib.zigzag_lt h.1 h.2
theorem insBy_len {i : Ins} (h : 1 ≤ i.op ∧ i.op ≤ 39) (ha : I6 i.a) : (insBy i).length ≤ 20 := by
  have h1 := uv_len (n := i.op.toNat) (by omega)
  have h2 := uv_len (zig_lt ha)
  unfold insBy
  rw [List.length_append]
  split
  · omega
  · simp; omega
/-- Pack's three, as calls that hand out bytes of the caller's own. -/
theorem put_out {W : World} {v : Value} {l : List UInt8} (n : Nat) (h : Bs W v l) (hn : n < 18446744073709551616) (hl : l.length ≤ 1000000000) : Calls Tryz.prog 42 #[v, .int .u64 n] W (ByOut W (l ++ uv n)) := by
  refine (put_any v l n W h hn (by omega)).mono ?_
  rintro e w' ⟨v', rfl, h1, h2⟩
  exact ⟨v', rfl, by rw [List.length_append]; exact h1, h2⟩
theorem putint_out {W : World} {v : Value} {l : List UInt8} (n : Int) (h : Bs W v l) (hn : I6 n) (hl : l.length ≤ 1000000000) : Calls Tryz.prog 92 #[v, .int .i64 n] W (ByOut W (l ++ uv (Lib.zigzag n))) := by
  refine (putInt_any v l n W h hn.1 hn.2 (by omega)).mono ?_
  rintro e w' ⟨v', rfl, h1, h2⟩
  exact ⟨v', rfl, by rw [List.length_append]; exact h1, h2⟩
theorem puttext_out {W : World} {v : Value} {l : List UInt8} (s : ByteArray) (h : Bs W v l) (hl : l.length ≤ 1000000000) (hs : s.size ≤ 1000000000) : Calls Tryz.prog 72 #[v, .string s] W (ByOut W (l ++ uv s.size ++ s.data.toList)) := by
  refine (putText_any v l s W h (by omega)).mono ?_
  rintro e w' ⟨v', rfl, h1, h2⟩
  refine ⟨v', rfl, ?_, h2⟩
  rw [List.length_append, List.length_append, Array.length_toList]
  exact h1
theorem ByOut.on {W w1 : World} {l : List UInt8} {e : Ending} {w' : World} (h : ByOut w1 l e w') (hb : Below W.heap.size W w1) : ByOut W l e w' := by
  obtain ⟨v, h1, h2, h3⟩ := h
  exact ⟨v, h1, own_lower h2 hb.size, below_on hb h3⟩
set_option maxHeartbeats 1000000 in
theorem instrbytes_any (i : Ins) (hop : 1 ≤ i.op ∧ i.op ≤ 39) (ha : I6 i.a) (W : World) (ht : Tb W) : Calls Tryz.prog 73 #[insV i] W (ByOut W (insBy i)) := by
  obtain ⟨op, a⟩ := i
  dsimp only at ha hop
  obtain ⟨w0, hw0⟩ : ∃ X, X = W.alloc (.cells #[.int .i64 op, .int .i64 a] 28) := ⟨_, rfl⟩
  have B0 : Below W.heap.size W w0 := hw0 ▸ below_alloc W _
  have n1 : w0.heap[W.heap.size]? = some (.cells #[.int .i64 op, .int .i64 a] 28 (0, 0)) := by rw [hw0]; exact heap_alloc_new W _
  obtain ⟨B, hB⟩ : ∃ B, B = W.heap.size := ⟨_, rfl⟩
  rw [← hB] at n1
  have c0 : w0.cell? ⟨B, 0, none⟩ = some (.int .i64 op) := by rw [cell_of_row w0 _ _ _ 28 (0, 0) n1]; rfl
  obtain ⟨o, rfl⟩ : ∃ o : Nat, op = (o : Int) := ⟨op.toNat, by omega⟩
  have J0 := hide (put_out o (Bs.nil w0) (by omega) (by simp))
  obtain ⟨te, hte⟩ : ∃ t, t = insBy ⟨(o : Int), a⟩ := ⟨_, rfl⟩
  rw [← hte]
  have TE : Hid (te = uv o ++ (if numb (opk (o : Int)) then uv (Lib.zigzag a) else [])) := hte
  have HW := hide hw0
  have HB := hide B0
  have EB := hide hB
  have N1 := hide n1
  have HT := hide ht
  have HA := hide ha
  have hl := uv_len (n := o) (by omega)
  have J1 : Hid (∀ w, Below W.heap.size W w → Calls Tryz.prog 91 #[.int .i64 (o : Int)] w fun e w' => e = .returned (rowV (opk (o : Int))) ∧ Below w.heap.size w w') := fun w h => row_any _ w (ht.later h)
  have f1 := fldR1 (opk (o : Int))
  clear hte n1 B0 ht ha
  unfold insV
  dsimp only
  generalize opk (o : Int) = k at *
  go_enter Tryz.func73, Tryz.ntmps73
  go_upto_region 1 with fail
  rw [← hw0, ← hB]
  clear hw0 hB
  go_wp2_with fail
  refine J0.out.mono ?_
  rintro e w1 ⟨v1, rfl, ho1, hb1⟩
  have n2 := (hb1.block B (lt_of_block N1.out)).trans N1.out
  have y0 : w1.cell? ⟨B, 0, none⟩ = some (.int .i64 (o : Int)) := by rw [cell_of_row w1 _ _ _ 28 (0, 0) n2]; rfl
  have H1 := hide (below_on HB.out hb1)
  have O1 := hide ho1
  have N2 := hide n2
  clear ho1 hb1 n2 c0 J0
  go_wp2_with fail
  refine (J1.out _ H1.out).mono ?_
  rintro e w2 ⟨rfl, hb2⟩
  have n3 := (hb2.block B (lt_of_block N2.out)).trans N2.out
  have y1 : w2.cell? ⟨B, 1, none⟩ = some (.int .i64 a) := by rw [cell_of_row w2 _ _ _ 28 (0, 0) n3]; rfl
  have H2 := hide (below_on H1.out hb2)
  have O2 := hide (own_later O1.out hb2)
  clear hb2 n3 y0
  unfold rowV
  cases hq : numb k with
  | false =>
    rw [hq] at f1
    have T2 : Hid (te = [] ++ uv o) := by unfold Hid; rw [TE.out, hq]; simp
    go_wp2_with fail
    go_ret
    refine ⟨v1, rfl, ?_, H2.out⟩
    rw [T2.out]
    exact own_lower O2.out HB.out.size
  | true =>
    rw [hq] at f1
    have T2 : Hid (te = [] ++ uv o ++ uv (Lib.zigzag a)) := by unfold Hid; rw [TE.out, hq]; simp
    have J3 := hide (putint_out a (own_bs O2.out) HA.out (by simp; omega))
    go_wp2_with fail
    refine J3.out.mono ?_
    rintro e w3 ⟨v3, rfl, ho3, hb3⟩
    go_wp2_with fail
    go_ret
    refine ⟨v3, rfl, ?_, below_on H2.out hb3⟩
    rw [T2.out]
    exact own_lower ho3 H2.out.size
end Go.Proofs.YtfkhhplcogedmaaGreatDoor

/-
  setBytes, routineBytes.
-/
namespace Go.Proofs.YtfkhhplcogedmaaGreatDoor
open Go.RowKit
set_option maxRecDepth 100000
def kindsBy (l : List Int) : List UInt8 := l.flatMap fun k => uv k.toNat
theorem kindsBy_snoc {l : List Int} {k : Nat} (h : k < l.length) : kindsBy (l.take (k + 1)) = kindsBy (l.take k) ++ uv l[k].toNat := by
  unfold kindsBy
  rw [List.take_add_one, List.getElem?_eq_getElem h, List.flatMap_append]
  simp
def codeBy (l : List Ins) : List UInt8 := l.flatMap insBy
theorem codeBy_snoc {l : List Ins} {k : Nat} (h : k < l.length) : codeBy (l.take (k + 1)) = codeBy (l.take k) ++ insBy l[k] := by
  unfold codeBy
  rw [List.take_add_one, List.getElem?_eq_getElem h, List.flatMap_append]
  simp
/-- A set's numbers, each as they may be. -/
theorem setFrom_mem : ∀ {l : List Int} {last : Int}, 0 ≤ last → setFrom last l = true → (∀ k ∈ l, last < k ∧ 1 ≤ k ∧ k ≤ 12) ∧ last + l.length ≤ 12 + (if l = [] then last else 0)
  | [], last, h0, _ => by simp; omega
  | k :: l, last, h0, h => by
    rw [setFrom_cons, Bool.and_eq_true, decide_eq_true_eq] at h
    obtain ⟨⟨h1, h2⟩, h3⟩ := h
    obtain ⟨e1, e2⟩ := setFrom_mem (l := l) (last := k) (by omega) h3
    refine ⟨fun x hx => ?_, ?_⟩
    · rw [List.mem_cons] at hx
      rcases hx with rfl | hx
      · exact ⟨h1, by omega, h2⟩
      · have := e1 x hx
        omega
    · rw [if_neg (by simp)]
      simp only [List.length_cons]
      by_cases hl : l = []
      · subst hl; simp; omega
      · rw [if_neg hl] at e2
        omega
theorem setOk_mem {l : List Int} (h : setOk l = true) : (∀ k ∈ l, 1 ≤ k ∧ k ≤ 12) ∧ l.length ≤ 12 := by
  obtain ⟨h1, h2⟩ := setFrom_mem (by omega) h
  refine ⟨fun k hk => (h1 k hk).2, ?_⟩
  by_cases hl : l = []
  · subst hl; simp
  · rw [if_neg hl] at h2
    omega
theorem kindsBy_len : ∀ {l : List Int}, (∀ k ∈ l, 1 ≤ k ∧ k ≤ 12) → (kindsBy l).length ≤ 10 * l.length
  | [], _ => by simp [kindsBy]
  | k :: l, h => by
    have h1 := h k (by simp)
    have h2 := uv_len (n := k.toNat) (by omega)
    have h3 := kindsBy_len (l := l) (fun x hx => h x (by simp [hx]))
    unfold kindsBy at h3 ⊢
    rw [List.flatMap_cons, List.length_append, List.length_cons]
    omega
theorem codeBy_len : ∀ {l : List Ins}, (∀ i ∈ l, (1 ≤ i.op ∧ i.op ≤ 39) ∧ I6 i.a) → (codeBy l).length ≤ 20 * l.length
  | [], _ => by simp [codeBy]
  | i :: l, h => by
    have h1 := h i (by simp)
    have h2 := insBy_len h1.1 h1.2
    have h3 := codeBy_len (l := l) (fun x hx => h x (by simp [hx]))
    unfold codeBy at h3 ⊢
    rw [List.flatMap_cons, List.length_append, List.length_cons]
    omega
theorem setBy_len {l : List Int} (h : setOk l = true) : (setBy l).length ≤ 130 := by
  obtain ⟨h1, h2⟩ := setOk_mem h
  have h3 := kindsBy_len h1
  have h4 := uv_len (n := l.length) (by omega)
  have e : setBy l = uv l.length ++ kindsBy l := rfl
  rw [e, List.length_append]
  omega
set_option maxHeartbeats 2000000 in
theorem setbytes_at {Q : Nat → Prop} {W : World} {n c : Nat} {ao : Option Addr} (l : List Int) (hn : n = l.length) (hc1 : n ≤ c) (_hc2 : c ≤ 9223372036854775807) (h : Nl Q W (.slice ao n c) l) (hok : setOk l = true) : Calls Tryz.prog 44 #[.slice ao n c] W (ByOut W (setBy l)) := by
  obtain ⟨hm, hl12⟩ := setOk_mem hok
  have J0 := hide (put_out n (Bs.nil W) (by omega) (by simp))
  have TE : Hid (setBy l = [] ++ uv n ++ kindsBy l) := by unfold Hid; rw [hn]; rfl
  have HM := hide hm
  have HN := hide hn
  have H := hide h
  have hul := uv_len (n := n) (by omega)
  rw [← hn] at hl12
  clear hm hn h hok
  go_enter Tryz.func44, Tryz.ntmps44
  go_wp2_with fail
  refine J0.out.mono ?_
  rintro e w1 ⟨v1, rfl, ho1, hb1⟩
  have O1 := hide ho1
  have H1 := hide hb1
  clear ho1 hb1 J0
  go_wp2_with fail
  go_loopw [12, 3] (fun v u wr => ∃ k : Nat, v = .int .i64 (k : Int) ∧ k ≤ n ∧ Hid (wr.ownsRow W.heap.size 5 1 u ([] ++ uv n ++ kindsBy (l.take k)).length (Lib.byteCells ([] ++ uv n ++ kindsBy (l.take k)))) ∧ Hid (Below W.heap.size W wr)) (fun v _ _ => n - (intOf v).toNat)
  case atStart => exact ⟨0, rfl, by omega, by unfold Hid; simpa [kindsBy] using O1.out, H1.out⟩
  case round =>
    obtain ⟨k, rfl, hk, hown, hbw⟩ := hrel
    by_cases hlt : k < n
    · have hlt' : k < l.length := by rw [← HN.out]; exact hlt
      obtain ⟨g, o, rfl, -, d0, -⟩ := (H.out.later hbw.out).nth hlt'
      have hx := HM.out l[k] (List.getElem_mem hlt')
      have ES := hide (kindsBy_snoc hlt')
      have KL := kindsBy_len (l := l.take k) (fun x hx => HM.out x (List.mem_of_mem_take hx))
      rw [List.length_take] at KL
      have KL2 : ([] ++ uv n ++ kindsBy (l.take k)).length ≤ 1000 := by
        have : 10 * min k l.length ≤ 10 * 12 := Nat.mul_le_mul_left _ (by omega)
        simp only [List.length_append, List.length_nil]
        omega
      obtain ⟨x, hxx⟩ : ∃ x : Nat, l[k] = (x : Int) := ⟨l[k].toNat, by omega⟩
      rw [hxx] at d0 ES hx
      have J1 := hide (put_out x (own_bs hown.out) (by omega) (by omega))
      clear hxx KL
      go_wp2_with fail
      refine J1.out.mono ?_
      rintro e w2 ⟨v2, rfl, ho2, hb2⟩
      have O2 : Hid (w2.ownsRow W.heap.size 5 1 v2 ([] ++ uv n ++ kindsBy (l.take (k + 1))).length (Lib.byteCells ([] ++ uv n ++ kindsBy (l.take (k + 1))))) := by
        unfold Hid
        rw [ES.out, Int.toNat_natCast, ← List.append_assoc]
        exact own_lower ho2 hbw.out.size
      have HB2 := hide (below_on hbw.out hb2)
      clear ho2 hb2 J1
      go_wp2_with fail
      go_roundw
      case rel => exact ⟨k + 1, by go_num, by omega, O2.out, HB2.out⟩
      case measure => simp [intOf]; omega
    · obtain rfl : k = n := by omega
      have T2 : Hid (setBy l = [] ++ uv k ++ kindsBy (l.take k)) := by unfold Hid; rw [TE.out, HN.out, List.take_length]
      go_wp2_with fail
      go_ret
      rw [T2.out]
      exact ⟨_, rfl, hown.out, hbw.out⟩
theorem rtOk_all {r : Rt} (h : rtOk r = true) : (1 ≤ r.name.size ∧ r.name.size ≤ 16) ∧ (0 ≤ r.pa ∧ r.pa ≤ 4) ∧ (r.pa ≤ r.lo ∧ r.lo ≤ 32) ∧ r.code.length ≤ 2000 ∧ ∀ i ∈ r.code, 1 ≤ i.op ∧ i.op ≤ 39 := by
  unfold rtOk at h
  simp only [Bool.and_eq_true, decide_eq_true_eq] at h
  refine ⟨h.1.1.1.1, h.1.1.1.2, h.1.1.2, h.1.2, fun i hi => ?_⟩
  have := List.all_eq_true.1 h.2 i hi
  unfold isIns at this
  rw [Bool.and_eq_true, decide_eq_true_eq] at this
  exact this.1
theorem rtBy_len {r : Rt} (h : rtOk r = true) (h6 : ∀ i ∈ r.code, I6 i.a) : (rtBy r).length ≤ 41000 := by
  obtain ⟨h1, h2, h3, h4, h5⟩ := rtOk_all h
  have k1 := codeBy_len (l := r.code) (fun i hi => ⟨h5 i hi, h6 i hi⟩)
  have k2 := uv_len (n := r.name.size) (by omega)
  have k3 := uv_len (n := r.pa.toNat) (by omega)
  have k4 := uv_len (n := r.lo.toNat) (by omega)
  have k5 := uv_len (n := r.code.length) (by omega)
  have e : r.name.data.toList.length = r.name.size := by rw [Array.length_toList]; rfl
  have e2 : rtBy r = uv r.name.size ++ r.name.data.toList ++ uv r.pa.toNat ++ uv r.lo.toNat ++ uv r.code.length ++ codeBy r.code := rfl
  rw [e2]
  simp only [List.length_append]
  omega
theorem add_at (g j : Nat) : (⟨g, 0, none⟩ : Addr).add j = ⟨g, j, none⟩ := by
  unfold Addr.add
  simp
  intro h
  exact h.symm
theorem byteCells_cell {w : World} {B : Nat} {g c : Nat} {l : List UInt8} (h : w.ownsRow B 5 1 (.slice (some ⟨g, 0, none⟩) l.length c) l.length (Lib.byteCells l)) : ∀ j u, (Lib.byteCells l)[j]? = some u → w.cell? ((⟨g, 0, none⟩ : Addr).add j) = some u := by
  intro j u hj
  have hl := (List.getElem?_eq_some_iff.1 hj).1
  rw [Lib.byteCells_length] at hl
  have := h.cellAt j (by omega)
  rw [hj] at this
  rw [add_at g j]
  exact this
set_option maxHeartbeats 4000000 in
theorem routinebytes_at {Q : Nat → Prop} {W : World} {n c : Nat} {ao : Option Addr} (nm : ByteArray) (pa lo : Int) (code : List Ins) (hn : n = code.length) (hc1 : n ≤ c) (_hc2 : c ≤ 9223372036854775807) (h : Il Q W (.slice ao n c) code) (hok : rtOk ⟨nm, pa, lo, code⟩ = true) (ht : Tb W) : Calls Tryz.prog 45 #[.agg #[.string nm, .int .i64 pa, .int .i64 lo, .slice ao n c]] W (ByOut W (rtBy ⟨nm, pa, lo, code⟩)) := by
  obtain ⟨w0, hw0⟩ : ∃ X, X = W.alloc (.cells #[.string nm, .int .i64 pa, .int .i64 lo, .slice ao n c] 35) := ⟨_, rfl⟩
  have B0 : Below W.heap.size W w0 := hw0 ▸ below_alloc W _
  have n1 : w0.heap[W.heap.size]? = some (.cells #[.string nm, .int .i64 pa, .int .i64 lo, .slice ao n c] 35 (0, 0)) := by rw [hw0]; exact heap_alloc_new W _
  obtain ⟨B, hB⟩ : ∃ B, B = W.heap.size := ⟨_, rfl⟩
  rw [← hB] at n1
  obtain ⟨k1, k2, k3, k4, k5⟩ := rtOk_all hok
  dsimp only at k1 k2 k3 k4 k5
  have h6 := h.i6
  obtain ⟨p, rfl⟩ : ∃ p : Nat, pa = (p : Int) := ⟨pa.toNat, by omega⟩
  obtain ⟨q, rfl⟩ : ∃ q : Nat, lo = (q : Int) := ⟨lo.toNat, by omega⟩
  have J0 := hide (puttext_out nm (Bs.nil w0) (by simp) (by omega))
  have TE : Hid (rtBy ⟨nm, (p : Int), (q : Int), code⟩ = [] ++ uv nm.size ++ nm.data.toList ++ uv p ++ uv q ++ uv n ++ codeBy code) := by unfold Hid; rw [hn]; rfl
  have R4 : Hid (∀ w, Below w0.heap.size w0 w → w.cell? ⟨B, 0, none⟩ = some (.string nm) ∧ w.cell? ⟨B, 1, none⟩ = some (.int .i64 (p : Int)) ∧ w.cell? ⟨B, 2, none⟩ = some (.int .i64 (q : Int)) ∧ w.cell? ⟨B, 3, none⟩ = some (.slice ao n c)) := fun w hw => row4 ((hw.block B (lt_of_block n1)).trans n1)
  obtain ⟨c0, -, -, -⟩ := R4.out w0 (Below.refl _ _)
  have u1 := uv_len (n := nm.size) (by omega)
  have u2 := uv_len (n := p) (by omega)
  have u3 := uv_len (n := q) (by omega)
  have u4 := uv_len (n := n) (by omega)
  have nl : nm.data.toList.length = nm.size := by rw [Array.length_toList]; rfl
  have HB := hide B0
  have H := hide h
  have HT := hide ht
  have HN := hide hn
  have K5 := hide k5
  have H6 := hide h6
  have hl2 : n ≤ 2000 := by omega
  clear n1 B0 ht h hn hok k5 h6 k4
  obtain ⟨pre, hpre⟩ : ∃ x, x = [] ++ uv nm.size ++ nm.data.toList ++ uv p ++ uv q ++ uv n := ⟨_, rfl⟩
  have PL : Hid (pre.length ≤ 100) := by
    unfold Hid
    rw [hpre]
    simp only [List.length_append, List.length_nil, nl]
    omega
  rw [TE.out, ← hpre]
  have EP := hide hpre
  clear hpre
  go_enter Tryz.func45, Tryz.ntmps45
  go_upto_region 1 with fail
  rw [← hw0, ← hB]
  clear hw0 hB
  go_wp2_with fail
  refine J0.out.mono ?_
  rintro e w1 ⟨v1, rfl, ho1, hb1⟩
  obtain ⟨-, y1, -, -⟩ := R4.out w1 hb1
  have J1 := hide (put_out p (own_bs ho1) (by omega) (by simp only [List.length_append, List.length_nil, nl]; omega))
  have H1 := hide hb1
  clear ho1 hb1 J0 c0
  go_wp2_with fail
  refine J1.out.mono ?_
  rintro e w2 ⟨v2, rfl, ho2, hb2⟩
  have H2 := hide (below_on H1.out hb2)
  obtain ⟨-, -, y2, -⟩ := R4.out w2 H2.out
  have J2 := hide (put_out q (own_bs ho2) (by omega) (by simp only [List.length_append, List.length_nil, nl]; omega))
  clear ho2 hb2 J1 y1
  go_wp2_with fail
  refine J2.out.mono ?_
  rintro e w3 ⟨v3, rfl, ho3, hb3⟩
  have H3 := hide (below_on H2.out hb3)
  obtain ⟨-, -, -, y3⟩ := R4.out w3 H3.out
  have J3 := hide (put_out n (own_bs ho3) (by omega) (by simp only [List.length_append, List.length_nil, nl]; omega))
  clear ho3 hb3 J2 y2
  go_wp2_with fail
  refine J3.out.mono ?_
  rintro e w4 ⟨v4, rfl, ho4, hb4⟩
  have H4 := hide (below_on H3.out hb4)
  obtain ⟨-, -, -, y4⟩ := R4.out w4 H4.out
  have O4 := hide (own_lower ho4 (below_on HB.out H3.out).size)
  have HW4 := hide (below_on HB.out H4.out)
  clear ho4 hb4 J3 y3
  rw [← EP.out] at O4
  go_wp2_with fail
  go_loopw [28, 3] (fun v u wr => ∃ k : Nat, v = .int .i64 (k : Int) ∧ k ≤ n ∧ Hid (wr.ownsRow W.heap.size 5 1 u (pre ++ codeBy (code.take k)).length (Lib.byteCells (pre ++ codeBy (code.take k)))) ∧ Hid (Below W.heap.size W wr)) (fun v _ _ => n - (intOf v).toNat)
  case atStart => exact ⟨0, rfl, by omega, by unfold Hid; simpa [codeBy] using O4.out, HW4.out⟩
  case round =>
    obtain ⟨k, rfl, hk, hown, hbw⟩ := hrel
    by_cases hlt : k < n
    · have hlt' : k < code.length := by rw [← HN.out]; exact hlt
      obtain ⟨g, o, rfl, -, d0, d1, -, ia⟩ := (H.out.later hbw.out).nth hlt'
      have g1 := World.block_lt_of_cell? wr _ d0
      obtain ⟨w6, hw6⟩ : ∃ X, X = wr.alloc (.cells #[.int .i64 code[k].op, .int .i64 code[k].a] 28) := ⟨_, rfl⟩
      have b6 : Below wr.heap.size wr w6 := hw6 ▸ below_alloc wr _
      have J4 := hide (instrbytes_any code[k] (K5.out _ (List.getElem_mem hlt')) ia w6 ((HT.out.later hbw.out).later b6))
      have IL := insBy_len (K5.out _ (List.getElem_mem hlt')) ia
      have E4 := hide (codeBy_snoc hlt')
      have HX := hide (below_on hbw.out b6)
      have O6 := hide (own_later hown.out b6)
      have CL : Hid ((pre ++ codeBy (code.take k)).length ≤ 50000) := by
        unfold Hid
        have q2 := codeBy_len (l := code.take k) (fun i hi => ⟨K5.out i (List.mem_of_mem_take hi), H6.out i (List.mem_of_mem_take hi)⟩)
        rw [List.length_take] at q2
        have q3 : 20 * min k code.length ≤ 20 * 2000 := Nat.mul_le_mul_left _ (by omega)
        have := PL.out
        rw [List.length_append]
        omega
      unfold insV at J4
      clear b6 ia
      generalize code[k] = x at *
      go_upto_region 8 with fail
      rw [← hw6]
      have y0 : w6.cell? ⟨wr.heap.size, 0, none⟩ = some (.int .i64 x.op) := by rw [hw6, cell_of_row _ _ _ _ 28 (0, 0) (heap_alloc_new wr _)]; rfl
      have y1 : w6.cell? ⟨wr.heap.size, 1, none⟩ = some (.int .i64 x.a) := by rw [hw6, cell_of_row _ _ _ _ 28 (0, 0) (heap_alloc_new wr _)]; rfl
      clear hw6
      go_wp2_with fail
      refine J4.out.mono ?_
      rintro e w7 ⟨v7, rfl, ho7, hb7⟩
      have hpos : 0 < (insBy x).length := by
        unfold insBy
        have : 0 < (uv x.op.toNat).length := Lib.uvarint_pos x.op.toNat
        rw [List.length_append]; omega
      obtain ⟨g7, c7, rfl, hc7, hc8⟩ := own_form ho7 hpos
      have O7 := own_later O6.out hb7
      obtain ⟨ib, hi, hz0, hz1, hz2⟩ := info_parts infoB
      have BC := byteCells_cell ho7
      have HB7 := hide (below_on HX.out hb7)
      have hsz := HB7.out.size
      have hcl := CL.out
      clear hb7 J4 ho7
      go_wp2_with (at_builtin; refine wpList_append_own _ rfl _ _ 68 rfl W.heap.size 5 ib (.int .u8 0) 1 1 Tryz.underlying68 hi hz0 hz1 hz2 rfl (by decide) _ _ _ rfl O7 ⟨g7, 0, none⟩ (insBy x).length c7 (Lib.byteCells (insBy x)) rfl ?c0 BC ?c2 ?c3 ?c4 ?c5 ?_)
      case c0 => rw [Lib.byteCells_length]; omega
      case c2 => exact byteCells_one _
      case c3 => unfold maxLen; omega
      case c4 => omega
      case c5 => omega
      intro v8 w8 ho8 hg8 _
      have el : pre.length + (codeBy (code.take k)).length + (insBy x).length = (pre ++ codeBy (code.take (k + 1))).length := by rw [E4.out]; simp only [List.length_append]; omega
      rw [← Lib.byteCells_append, List.append_assoc, ← E4.out, el] at ho8
      have O8 := hide ho8
      have HB8 : Hid (Below W.heap.size W w8) := HB7.out.grown hg8 (by omega) (fun k hk => (O7.lt k hk).1)
      clear ho8 hg8 O7 BC
      go_wp2_with fail
      go_roundw
      case rel => exact ⟨k + 1, by go_num, by omega, O8.out, HB8.out⟩
      case measure => simp [intOf]; omega
    · obtain rfl : k = n := by omega
      have T2 : Hid (pre ++ codeBy code = pre ++ codeBy (code.take k)) := by unfold Hid; rw [HN.out, List.take_length]
      go_wp2_with fail
      go_ret
      rw [T2.out]
      exact ⟨_, rfl, hown.out, hbw.out⟩
end Go.Proofs.YtfkhhplcogedmaaGreatDoor
