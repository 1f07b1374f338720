/-
  Verify: whether a program may be written, by the document (as proved for code).
-/
import Derived.Test.YtfkhhplcogedmaaGreatDoorRfB
import Derived.Test.YtfkhhplcogedmaaGreatDoorMgH
import Derived.Test.YtfkhhplcogedmaaGreatDoorMgQ
namespace Go.Proofs.YtfkhhplcogedmaaGreatDoor
open Go.RowKit
set_option maxRecDepth 100000
theorem prow2 {w : World} {B : Nat} {x1 x2 : Value} (h : w.heap[B]? = some (.cells #[x1, x2] 25 (0, 0))) : w.cell? ⟨B, 0, none⟩ = some x1 ∧ w.cell? ⟨B, 1, none⟩ = some x2 := by
  refine ⟨?_, ?_⟩ <;> rw [cell_of_row w _ _ _ 25 (0, 0) h] <;> rfl
theorem dhasa_any (op : Int) (w : World) : Calls Tryz.prog 102 #[.int .i64 op] w fun e w' => e = .returned (.bool (numb (opk op))) ∧ Below w.heap.size w w' := by
  have i1 := hide (disop_any op)
  by_cases h : 1 ≤ op ∧ op ≤ 39
  · rw [opk_in h]
    have t1 : decide (1 ≤ op ∧ op ≤ 39) = true := by simp [h]
    rw [t1] at i1
    go_enter Tryz.func102, Tryz.ntmps102
    go_wp2_with fail
    refine (i1.out _).mono ?_
    rintro e w' ⟨rfl, rfl⟩
    go_wp2_with fail
    refine (table_any w').mono ?_
    rintro e w2 ⟨rfl, hb, ht⟩
    obtain ⟨-, c1, -, -⟩ := ht op.toNat (by omega)
    go_wp2_with fail
    go_ret
    exact ⟨rfl, hb⟩
  · rw [opk_out h]
    have t1 : decide (1 ≤ op ∧ op ≤ 39) = false := by simp; omega
    rw [t1] at i1
    go_enter Tryz.func102, Tryz.ntmps102
    go_wp2_with fail
    refine (i1.out _).mono ?_
    rintro e w' ⟨rfl, rfl⟩
    go_wp2_with fail
    go_ret
    exact ⟨rfl, Below.refl _ _⟩
set_option maxHeartbeats 2000000 in
theorem dinstrs_any {Q : Nat → Prop} {W : World} {v : Value} {l : List Ins} (h : Il Q W v l) : Calls Tryz.prog 85 #[v] W fun e w' => e = .returned (.bool (l.all isIns)) ∧ Below W.heap.size W w' := by
  have H := hide h
  obtain ⟨ao, c, rfl, hc1, hc2⟩ := h.at
  obtain ⟨n, hn⟩ : ∃ n, n = l.length := ⟨_, rfl⟩
  rw [← hn] at H hc1 ⊢
  have HN := hide hn
  obtain ⟨te, hte⟩ : ∃ t, t = l.all isIns := ⟨_, rfl⟩
  rw [← hte]
  have TE := hide hte
  clear h hn hte
  go_enter Tryz.func85, Tryz.ntmps85
  go_wp2_with fail
  go_loopw [3] (fun u wr => ∃ k : Nat, u = .int .i64 (k : Int) ∧ k ≤ n ∧ Hid (Below W.heap.size W wr) ∧ Hid ((l.take k).all isIns = true)) (fun u _ => n - (intOf u).toNat)
  case atStart => exact ⟨0, rfl, by omega, Below.refl _ _, rfl⟩
  case round =>
    obtain ⟨k, rfl, hk, hb, ha⟩ := hrel
    by_cases hlt : k < n
    · have hlt' : k < l.length := by rw [← HN.out]; exact hlt
      have E4 : Hid ((l.take (k + 1)).all isIns = isIns l[k]) := by
        unfold Hid
        rw [List.take_add_one, List.getElem?_eq_getElem hlt', List.all_append, ha.out]
        simp
      have E5 : Hid (isIns l[k] = false → l.all isIns = false) := fun h => by
        rw [List.all_eq_false]
        exact ⟨l[k], List.getElem_mem _, by rw [h]; simp⟩
      obtain ⟨g, o, rfl, -, d0, d1, -, -⟩ := (H.out.later hb.out).nth hlt'
      have J0 := hide (H.out.later hb.out)
      have NT : Hid (∀ w', Below wr.heap.size wr w' → w'.cell? ⟨g, o + k * 2, none⟩ = some (.int .i64 l[k].op) ∧ w'.cell? ⟨g, o + k * 2 + 1, none⟩ = some (.int .i64 l[k].a)) := fun w' hb' => ⟨(hb'.cell (World.block_lt_of_cell? wr _ d0)).trans d0, (hb'.cell (World.block_lt_of_cell? wr _ d1)).trans d1⟩
      have ID : Hid (isIns l[k] = (decide (1 ≤ l[k].op ∧ l[k].op ≤ 39) && (l[k].a == 0 || numb (opk l[k].op)))) := rfl
      have i1 := hide (disop_any l[k].op wr)
      have i2 := hide (dhasa_any l[k].op wr)
      generalize hq : isIns l[k] = q at *
      generalize l[k] = x at *
      obtain ⟨xo, xa⟩ := x
      dsimp only at d0 d1 ID i1 i2 NT
      clear J0 hq
      generalize decide (1 ≤ xo ∧ xo ≤ 39) = t1 at *
      generalize numb (opk xo) = t2 at *
      go_wp2_with fail
      refine i1.out.mono ?_
      rintro e w1 ⟨rfl, rfl⟩
      go_wp2_with fail
      refine i2.out.mono ?_
      rintro e w2 ⟨rfl, hb2⟩
      obtain ⟨e0, e1⟩ := NT.out w2 hb2
      have HX := hide (below_on hb.out hb2)
      clear d0 d1 hb2 i1 i2 NT
      cases t1 with
      | false =>
        obtain rfl : q = false := by rw [ID.out]; rfl
        obtain rfl : te = false := by rw [TE.out]; exact E5.out rfl
        go_wp2_with fail
        go_ret
        exact ⟨rfl, HX.out⟩
      | true =>
        cases t2 with
        | true =>
          obtain rfl : q = true := by rw [ID.out]; simp
          go_wp2_with fail
          exact ⟨⟨k + 1, by go_num, by omega, HX.out, E4.out⟩, by simp [intOf]; omega⟩
        | false =>
          by_cases hx : xa = 0
          · obtain rfl : q = true := by rw [ID.out]; simp [hx]
            subst hx
            go_wp2_with fail
            exact ⟨⟨k + 1, by go_num, by omega, HX.out, E4.out⟩, by simp [intOf]; omega⟩
          · obtain rfl : q = false := by rw [ID.out]; simp [hx]
            obtain rfl : te = false := by rw [TE.out]; exact E5.out rfl
            have hx' : (xa != 0) = true := by simpa using hx
            go_wp2_with fail
            go_ret
            exact ⟨rfl, HX.out⟩
    · obtain rfl : k = n := by omega
      obtain rfl : te = true := by
        rw [TE.out]
        have := ha.out
        rw [HN.out, List.take_length] at this
        exact this
      go_wp2_with fail
      go_ret
      exact ⟨rfl, hb.out⟩
/-- May a routine be written, but for its length? -/
def rtD (r : Rt) : Bool := decide (1 ≤ r.name.size ∧ r.name.size ≤ 16 ∧ 0 ≤ r.pa ∧ r.pa ≤ 4 ∧ r.pa ≤ r.lo ∧ r.lo ≤ 32) && r.code.all isIns
theorem rtOk_rtD (r : Rt) : rtOk r = (rtD r && decide (r.code.length ≤ 2000)) := by
  rw [Bool.eq_iff_iff]
  unfold rtOk rtD
  simp only [Bool.and_eq_true, decide_eq_true_eq]
  constructor
  · rintro ⟨⟨⟨⟨⟨a, b⟩, c, d⟩, e, f⟩, g⟩, h⟩
    exact ⟨⟨⟨a, b, c, d, e, f⟩, h⟩, g⟩
  · rintro ⟨⟨⟨a, b, c, d, e, f⟩, h⟩, g⟩
    exact ⟨⟨⟨⟨⟨a, b⟩, c, d⟩, e, f⟩, g⟩, h⟩
set_option maxHeartbeats 2000000 in
theorem droutine_at {Q : Nat → Prop} {W : World} {n c : Nat} {ao : Option Addr} (nm : ByteArray) (pa lo : Int) (code : List Ins) (h : Il Q W (.slice ao n c) code) (hs : nm.size ≤ 9223372036854775807) : Calls Tryz.prog 58 #[.agg #[.string nm, .int .i64 pa, .int .i64 lo, .slice ao n c]] W fun e w' => e = .returned (.bool (rtD ⟨nm, pa, lo, code⟩)) ∧ Below W.heap.size W w' := by
  obtain ⟨w0, hw0⟩ : ∃ X, X = W.alloc (.cells #[.string nm, .int .i64 pa, .int .i64 lo, .slice ao n c] 35) := ⟨_, rfl⟩
  have B0 : Below W.heap.size W w0 := hw0 ▸ below_alloc W _
  have n1 : w0.heap[W.heap.size]? = some (.cells #[.string nm, .int .i64 pa, .int .i64 lo, .slice ao n c] 35 (0, 0)) := by rw [hw0]; exact heap_alloc_new W _
  obtain ⟨B, hB⟩ : ∃ B, B = W.heap.size := ⟨_, rfl⟩
  rw [← hB] at n1
  have AT : Hid (∀ w', Below w0.heap.size w0 w' → w'.cell? ⟨B, 0, none⟩ = some (.string nm) ∧ w'.cell? ⟨B, 1, none⟩ = some (.int .i64 pa) ∧ w'.cell? ⟨B, 2, none⟩ = some (.int .i64 lo) ∧ w'.cell? ⟨B, 3, none⟩ = some (.slice ao n c)) := fun w' hb => row4 ((hb.block B (lt_of_block n1)).trans n1)
  have J := hide (dinstrs_any (h.later B0))
  obtain ⟨te, hte⟩ : ∃ t, t = rtD ⟨nm, pa, lo, code⟩ := ⟨_, rfl⟩
  rw [← hte]
  have TE := hide hte
  have HB := hide B0
  unfold rtD at TE
  dsimp only at TE
  generalize code.all isIns = q at *
  clear hte n1 B0 h
  go_enter Tryz.func58, Tryz.ntmps58
  go_upto_region 1 with fail
  rw [← hw0, ← hB]
  clear hw0 hB
  obtain ⟨c0, c1, c2, c3⟩ := AT.out w0 (Below.refl _ _)
  go_wp2_with fail
  refine J.out.mono ?_
  rintro e w2 ⟨rfl, hb2⟩
  clear c0 c1 c2 c3
  obtain ⟨c0, c1, c2, c3⟩ := AT.out w2 hb2
  have HX := hide (below_on HB.out hb2)
  clear J AT HB hb2
  cases q with
  | false =>
    obtain rfl : te = false := by rw [TE.out]; simp
    go_wp2_with fail
    go_ret
    exact ⟨rfl, HX.out⟩
  | true =>
    rw [Bool.and_true] at TE
    rcases (show ¬ (1 : Int) ≤ nm.size ∨ ((1 : Int) ≤ nm.size ∧ ¬ (nm.size : Int) ≤ 16) ∨ ((1 : Int) ≤ nm.size ∧ (nm.size : Int) ≤ 16 ∧ ¬ 0 ≤ pa) ∨ ((1 : Int) ≤ nm.size ∧ (nm.size : Int) ≤ 16 ∧ 0 ≤ pa ∧ ¬ pa ≤ 4) ∨ ((1 : Int) ≤ nm.size ∧ (nm.size : Int) ≤ 16 ∧ 0 ≤ pa ∧ pa ≤ 4 ∧ ¬ pa ≤ lo) ∨ ((1 : Int) ≤ nm.size ∧ (nm.size : Int) ≤ 16 ∧ 0 ≤ pa ∧ pa ≤ 4 ∧ pa ≤ lo) by omega) with a1 | ⟨a1, a2⟩ | ⟨a1, a2, a3⟩ | ⟨a1, a2, a3, a4⟩ | ⟨a1, a2, a3, a4, a5⟩ | ⟨a1, a2, a3, a4, a5⟩
    · obtain rfl : te = false := by rw [TE.out]; exact decide_eq_false (by omega)
      go_wp2_with fail
      go_ret
      exact ⟨rfl, HX.out⟩
    · obtain rfl : te = false := by rw [TE.out]; exact decide_eq_false (by omega)
      go_wp2_with fail
      go_ret
      exact ⟨rfl, HX.out⟩
    · obtain rfl : te = false := by rw [TE.out]; exact decide_eq_false (by omega)
      go_wp2_with fail
      go_ret
      exact ⟨rfl, HX.out⟩
    · obtain rfl : te = false := by rw [TE.out]; exact decide_eq_false (by omega)
      go_wp2_with fail
      go_ret
      exact ⟨rfl, HX.out⟩
    · obtain rfl : te = false := by rw [TE.out]; exact decide_eq_false (by omega)
      go_wp2_with fail
      go_ret
      exact ⟨rfl, HX.out⟩
    · obtain rfl : te = decide (lo ≤ 32) := by rw [TE.out, decide_eq_decide]; omega
      go_wp2_with fail
      go_ret
      exact ⟨rfl, HX.out⟩
theorem droutine_any {Q : Nat → Prop} {W : World} {vc : Value} (r : Rt) (h : Il Q W vc r.code) (hs : r.name.size ≤ 9223372036854775807) : Calls Tryz.prog 58 #[rtV r vc] W fun e w' => e = .returned (.bool (rtD r)) ∧ Below W.heap.size W w' := by
  obtain ⟨ao, c, rfl, -⟩ := h.at
  exact droutine_at r.name r.pa r.lo r.code h hs
set_option maxHeartbeats 2000000 in
theorem dset_at {Q : Nat → Prop} {W : World} {n c : Nat} {ao : Option Addr} (l : List Int) (hn : n = l.length) (h : Nl Q W (.slice ao n c) l) : Calls Tryz.prog 57 #[.slice ao n c] W fun e w' => e = .returned (.bool (setOk l)) ∧ w' = W := by
  obtain ⟨te, hte⟩ : ∃ t, t = setOk l := ⟨_, rfl⟩
  rw [← hte]
  have TE : Hid (te = setFrom 0 (l.drop 0)) := hte
  have H := hide h
  have HN := hide hn
  have hc1 : n ≤ c ∧ c ≤ 9223372036854775807 := by
    obtain ⟨a9, c', e, h1, h2, -⟩ := h
    injection e with _ e2 e3
    unfold maxLen at h2
    omega
  obtain ⟨hc1, hc2⟩ := hc1
  clear h hn hte
  go_enter Tryz.func57, Tryz.ntmps57
  go_wp2_with fail
  go_loop [4, 3] (fun v u => ∃ (k : Nat) (last : Int), v = .int .i64 (k : Int) ∧ u = .int .i64 last ∧ k ≤ n ∧ Hid (te = setFrom last (l.drop k))) (fun v _ => n - (intOf v).toNat)
  case atStart => exact ⟨0, 0, rfl, rfl, by omega, TE.out⟩
  case round =>
    obtain ⟨k, last, rfl, rfl, hk, ht⟩ := hrel
    by_cases hlt : k < n
    · have hkl : k < l.length := by rw [← HN.out]; exact hlt
      obtain ⟨g, o, rfl, -, d0, -⟩ := H.out.nth hkl
      have e1 := ht.out
      rw [List.drop_eq_getElem_cons hkl, setFrom_cons] at e1
      generalize l[k] = z at d0 e1
      have i1 : (k : Int) < (n : Int) := by omega
      clear hkl ht
      by_cases hz : last < z ∧ z ≤ 12
      · have e2 : Hid (te = setFrom z (l.drop (k + 1))) := by unfold Hid; rw [e1, decide_eq_true hz, Bool.true_and]
        have j1 : ¬ z ≤ last := by omega
        have j2 : ¬ (12 : Int) < z := by omega
        clear e1 hz
        go_wp2_with fail
        exact ⟨⟨k + 1, z, by go_num, rfl, by omega, e2.out⟩, by simp [intOf]; omega⟩
      · obtain rfl : te = false := by rw [e1, decide_eq_false hz]; rfl
        by_cases hz1 : z ≤ last
        · clear hz e1
          go_wp2_with fail
          go_ret
          exact ⟨rfl, rfl⟩
        · have hz2 : (12 : Int) < z := by omega
          clear hz e1
          go_wp2_with fail
          go_ret
          exact ⟨rfl, rfl⟩
    · obtain rfl : n = k := by omega
      obtain rfl : te = true := by
        have := ht.out
        rw [HN.out, List.drop_length] at this
        exact this
      clear ht
      go_wp2_with fail
      go_ret
      exact ⟨rfl, rfl⟩
theorem nl_lenD {Q : Nat → Prop} {W : World} {n c : Nat} {ao : Option Addr} {l : List Int} (h : Nl Q W (.slice ao n c) l) : n = l.length := by
  obtain ⟨a9, c9, e, -⟩ := h
  injection e
def sysD (s : Sy) : Bool := setOk s.wi && setOk s.wo && setOk s.re && setOk s.wr && rtD s.run
theorem sum_mem {α : Type} (f : α → Nat) : ∀ {l : List α} {x : α}, x ∈ l → f x ≤ (l.map f).sum
  | y :: l, x, h => by
    rw [List.map_cons, List.sum_cons]
    rcases List.mem_cons.1 h with rfl | h
    · omega
    · have := sum_mem f h
      omega
theorem mayOk_D (sys : List Sy) (fns : List Rt) : mayOk ⟨sys, fns⟩ = (decide (sys.length ≤ 16 ∧ fns.length ≤ 16) && sys.all sysD && fns.all rtD && decide (sumS sys + sumR fns ≤ 2000)) := by
  show (decide (sys.length ≤ 16 ∧ fns.length ≤ 16) && sys.all sysOk && fns.all rtOk && decide (sumS sys + sumR fns ≤ 2000)) = _
  by_cases h : sumS sys + sumR fns ≤ 2000
  · have e1 : sys.all sysOk = sys.all sysD := by
      rw [Bool.eq_iff_iff, List.all_eq_true, List.all_eq_true]
      refine forall_congr' fun s => forall_congr' fun hs => ?_
      have hl : s.run.code.length ≤ 2000 := by
        have := sum_mem (fun s : Sy => s.run.code.length) hs
        unfold sumS at h
        omega
      unfold sysOk sysD
      rw [rtOk_rtD, decide_eq_true hl, Bool.and_true]
    have e2 : fns.all rtOk = fns.all rtD := by
      rw [Bool.eq_iff_iff, List.all_eq_true, List.all_eq_true]
      refine forall_congr' fun s => forall_congr' fun hs => ?_
      have hl : s.code.length ≤ 2000 := by
        have := sum_mem (fun s : Rt => s.code.length) hs
        unfold sumR at h
        omega
      rw [rtOk_rtD, decide_eq_true hl, Bool.and_true]
    rw [e1, e2]
  · rw [decide_eq_false h, Bool.and_false, Bool.and_false]
set_option maxHeartbeats 8000000 in
theorem dmay_at {Q : Nat → Prop} {W : World} {ns cs nf cf : Nat} {sa fa : Option Addr} (sys : List Sy) (fns : List Rt) (hns : ns = sys.length) (hnf : nf = fns.length) (_hc2 : cs ≤ 9223372036854775807) (_hc4 : cf ≤ 9223372036854775807)
    (h1 : Sys Q W (.slice sa ns cs) sys) (h2 : Rts Q W (.slice fa nf cf) fns) (z1 : ∀ s ∈ sys, s.run.name.size ≤ 9223372036854775807 ∧ s.run.code.length ≤ 35184372088832) (z2 : ∀ r ∈ fns, r.name.size ≤ 9223372036854775807 ∧ r.code.length ≤ 35184372088832) : Calls Tryz.prog 32 #[.agg #[.slice sa ns cs, .slice fa nf cf]] W fun e w' => e = .returned (.bool (mayOk ⟨sys, fns⟩)) ∧ Below W.heap.size W w' := by
  obtain ⟨w0, hw0⟩ : ∃ X, X = W.alloc (.cells #[.slice sa ns cs, .slice fa nf cf] 25) := ⟨_, rfl⟩
  have B0 : Below W.heap.size W w0 := hw0 ▸ below_alloc W _
  have n1 : w0.heap[W.heap.size]? = some (.cells #[.slice sa ns cs, .slice fa nf cf] 25 (0, 0)) := by rw [hw0]; exact heap_alloc_new W _
  obtain ⟨B, hB⟩ : ∃ B, B = W.heap.size := ⟨_, rfl⟩
  rw [← hB] at n1
  have c0 : w0.cell? ⟨B, 0, none⟩ = some (.slice sa ns cs) := by rw [cell_of_row w0 _ _ _ 25 (0, 0) n1]; rfl
  have c1 : w0.cell? ⟨B, 1, none⟩ = some (.slice fa nf cf) := by rw [cell_of_row w0 _ _ _ 25 (0, 0) n1]; rfl
  obtain ⟨te, hte⟩ : ∃ t, t = mayOk ⟨sys, fns⟩ := ⟨_, rfl⟩
  rw [← hte]
  have TE : Hid (te = (decide (ns ≤ 16 ∧ nf ≤ 16) && sys.all sysD && fns.all rtD && decide (sumS sys + sumR fns ≤ 2000))) := by
    unfold Hid
    rw [hte, hns, hnf]
    exact mayOk_D sys fns
  have hc1 : ns ≤ cs := by
    obtain ⟨a9, c9, e, h, -⟩ := h1
    injection e with _ e2 e3
    omega
  have hc3 : nf ≤ cf := by
    obtain ⟨a9, c9, e, h, -⟩ := h2
    injection e with _ e2 e3
    omega
  have AT : Hid (∀ w', Below w0.heap.size w0 w' → w'.cell? ⟨B, 0, none⟩ = some (.slice sa ns cs) ∧ w'.cell? ⟨B, 1, none⟩ = some (.slice fa nf cf)) := fun w' hb => prow2 ((hb.block B (lt_of_block n1)).trans n1)
  have HB := hide B0
  have H1 := hide h1
  have H2 := hide h2
  have HNS := hide hns
  have HNF := hide hnf
  have Z1 := hide z1
  have Z2 := hide z2
  clear hte n1 B0 h1 h2 hns hnf z1 z2
  go_enter Tryz.func32, Tryz.ntmps32
  go_upto_region 1 with fail
  rw [← hw0, ← hB]
  clear hw0 hB
  by_cases hs16 : 16 < ns
  · obtain rfl : te = false := by rw [TE.out, decide_eq_false (by omega)]; rfl
    go_wp2_with fail
    go_ret
    exact ⟨rfl, HB.out⟩
  by_cases hf16 : 16 < nf
  · obtain rfl : te = false := by rw [TE.out, decide_eq_false (by omega)]; rfl
    go_wp2_with fail
    go_ret
    exact ⟨rfl, HB.out⟩
  have TE2 : Hid (te = (sys.all sysD && fns.all rtD && decide (sumS sys + sumR fns ≤ 2000))) := by
    unfold Hid
    rw [TE.out, decide_eq_true (by omega), Bool.true_and]
  clear TE
  go_wp2_with fail
  clear c0 c1
  go_loopw [4, 3] (fun v u wr => ∃ (k n : Nat), v = .int .i64 (k : Int) ∧ u = .int .i64 (n : Int) ∧ k ≤ ns ∧ n ≤ 35184372088832 * k ∧ Hid (n = sumS (sys.take k)) ∧ Hid ((sys.take k).all sysD = true) ∧ Hid (Below w0.heap.size w0 wr)) (fun v _ _ => ns - (intOf v).toNat)
  case atStart => exact ⟨0, 0, rfl, rfl, by omega, by omega, rfl, rfl, Below.refl _ _⟩
  case round =>
    obtain ⟨k, n, rfl, rfl, hk, hn, hsum, hall, hbw⟩ := hrel
    obtain ⟨c0, c1⟩ := AT.out wr hbw.out
    by_cases hlt : k < ns
    · have hlt' : k < sys.length := by rw [← HNS.out]; exact hlt
      have bw := below_on HB.out hbw.out
      obtain ⟨g, o, rfl, -, hat⟩ := (H1.out.later bw).nth hlt'
      obtain ⟨a1, a2, a3, a4, a5, m1, m2, m3, m4, m5, p1, p2, p3, p4, p5, hv, d0, d1, d2, d3, d4, d5, d6, d7⟩ := hat.vs
      have g1 := World.block_lt_of_cell? wr _ d0
      obtain ⟨w2, hw2⟩ : ∃ X, X = wr.alloc (.cells #[.slice a1 m1 p1, .slice a2 m2 p2, .slice a3 m3 p3, .slice a4 m4 p4, .string sys[k].run.name, .int .i64 sys[k].run.pa, .int .i64 sys[k].run.lo, .slice a5 m5 p5] 38) := ⟨_, rfl⟩
      obtain ⟨t, htt⟩ : ∃ t, t = wr.heap.size := ⟨_, rfl⟩
      have b2 : Below wr.heap.size wr w2 := hw2 ▸ below_alloc wr _
      have n2 : w2.heap[t]? = some (.cells #[.slice a1 m1 p1, .slice a2 m2 p2, .slice a3 m3 p3, .slice a4 m4 p4, .string sys[k].run.name, .int .i64 sys[k].run.pa, .int .i64 sys[k].run.lo, .slice a5 m5 p5] 38 (0, 0)) := by rw [hw2, htt]; exact heap_alloc_new wr _
      have hv2 := hv.later b2
      have k1 := nl_lenD hv2.w
      have k2 := nl_lenD hv2.wo
      have k3 := nl_lenD hv2.re
      have k4 := nl_lenD hv2.wr
      have JS1 := hide (dset_at _ k1 hv2.w)
      have JS2 := hide (dset_at _ k2 hv2.wo)
      have JS3 := hide (dset_at _ k3 hv2.re)
      have JS4 := hide (dset_at _ k4 hv2.wr)
      have J2 := hide (droutine_at sys[k].run.name sys[k].run.pa sys[k].run.lo sys[k].run.code hv2.co (Z1.out _ (List.getElem_mem hlt')).1)
      have E4 := hide (all_snoc (p := sysD) hlt' hall.out)
      have E5 := hide (fun h => all_no (p := sysD) (l := sys) hlt' h)
      have E6 := hide (sumS_snoc hlt')
      have E7 : Hid (sysD sys[k] = (setOk sys[k].wi && setOk sys[k].wo && setOk sys[k].re && setOk sys[k].wr && rtD sys[k].run)) := rfl
      have E8 : m5 ≤ 35184372088832 := by have := (Z1.out _ (List.getElem_mem hlt')).2; have := hv.ln; omega
      have E9 := hide hv.ln
      have HX := hide (below_on hbw.out b2)
      have N2 := hide n2
      have EQ : rtD ⟨sys[k].run.name, sys[k].run.pa, sys[k].run.lo, sys[k].run.code⟩ = rtD sys[k].run := rfl
      rw [EQ] at J2
      generalize setOk sys[k].wi = s1 at *
      generalize setOk sys[k].wo = s2 at *
      generalize setOk sys[k].re = s3 at *
      generalize setOk sys[k].wr = s4 at *
      rw [E7.out] at E4 E5
      generalize rtD sys[k].run = q2 at *
      generalize sys[k].run.name = nm at *
      generalize sys[k].run.pa = pa at *
      generalize sys[k].run.lo = lo at *
      generalize sys[k].run.code.length = cl at *
      clear hat hv hv2 b2 bw E7 EQ k1 k2 k3 k4
      go_upto_region 8 with fail
      rw [← hw2, ← htt]
      clear hw2 htt n2 c0 c1 d0 d1 d2 d3 d4 d5 d6 d7
      obtain ⟨x0, x1, x2, x3, x4, x5, x6, x7⟩ := row8 N2.out
      go_cut [6] (fun v wx => v = .bool (s1 && s2 && s3 && s4) ∧ w2 = wx)
      case first =>
        clear J2 E4 E5 E6 x4 x5 x6 x7
        go_wp2_with fail
        refine JS1.out.mono ?_
        rintro e w3 ⟨rfl, rfl⟩
        cases s1 with
        | false =>
          go_wp2_with fail
          go_meet
          exact ⟨rfl, rfl⟩
        | true =>
          go_wp2_with fail
          refine JS2.out.mono ?_
          rintro e w3 ⟨rfl, rfl⟩
          cases s2 with
          | false =>
            go_wp2_with fail
            go_meet
            exact ⟨rfl, rfl⟩
          | true =>
            go_wp2_with fail
            refine JS3.out.mono ?_
            rintro e w3 ⟨rfl, rfl⟩
            cases s3 with
            | false =>
              go_wp2_with fail
              go_meet
              exact ⟨rfl, rfl⟩
            | true =>
              go_wp2_with fail
              refine JS4.out.mono ?_
              rintro e w3 ⟨rfl, rfl⟩
              cases s4 with
              | false =>
                go_wp2_with fail
                go_meet
                exact ⟨rfl, rfl⟩
              | true =>
                go_wp2_with fail
                go_meet
                exact ⟨rfl, rfl⟩
      obtain ⟨rfl, rfl⟩ := hcut
      clear JS1 JS2 JS3 JS4 x0 x1 x2 x3
      generalize (s1 && s2 && s3 && s4) = q1 at *
      go_wp2_with fail
      refine J2.out.mono ?_
      rintro e w4 ⟨rfl, hb4⟩
      obtain ⟨-, -, -, -, -, -, -, z8⟩ := row8 ((hb4.block t (lt_of_block N2.out)).trans N2.out)
      have HB4 := hide (below_on HX.out hb4)
      clear J2 hb4 x4 x5 x6 x7 N2 HX
      cases q1 with
      | false =>
        obtain rfl : te = false := by rw [TE2.out, E5.out rfl]; rfl
        go_wp2_with fail
        go_ret
        exact ⟨rfl, below_on HB.out HB4.out⟩
      | true =>
        cases q2 with
        | false =>
          obtain rfl : te = false := by rw [TE2.out, E5.out rfl]; rfl
          go_wp2_with fail
          go_ret
          exact ⟨rfl, below_on HB.out HB4.out⟩
        | true =>
          have hov : n ≤ 35184372088832 * 16 := by omega
          go_wp2_with fail
          go_roundw
          case rel => exact ⟨k + 1, n + m5, by go_num, by go_num, by omega, by omega, by have := E6.out; have := hsum.out; have := E9.out; unfold Hid; omega, E4.out, HB4.out⟩
          case measure => simp [intOf]; omega
    · obtain rfl : ns = k := by omega
      have SA : Hid (sys.all sysD = true ∧ n = sumS sys) := by
        have h1 := hall.out
        have h2 := hsum.out
        rw [HNS.out, List.take_length] at h1 h2
        exact ⟨h1, h2⟩
      have TE3 : Hid (te = (fns.all rtD && decide (n + sumR fns ≤ 2000))) := by
        unfold Hid
        rw [TE2.out, SA.out.1, Bool.true_and, ← SA.out.2]
      have hov : n ≤ 35184372088832 * 16 := by omega
      have HBW := hide hbw.out
      clear TE2 hbw hall hsum SA hlt hn
      go_wp2_with fail
      clear c0 c1
      go_loopw [8, 3] (fun v u wr => ∃ (j m : Nat), v = .int .i64 (j : Int) ∧ u = .int .i64 (m : Int) ∧ j ≤ nf ∧ m ≤ n + 35184372088832 * j ∧ Hid (m = n + sumR (fns.take j)) ∧ Hid ((fns.take j).all rtD = true) ∧ Hid (Below w0.heap.size w0 wr)) (fun v _ _ => nf - (intOf v).toNat)
      case atStart => exact ⟨0, n, rfl, rfl, by omega, by omega, rfl, rfl, HBW.out⟩
      case round =>
        obtain ⟨j, m, rfl, rfl, hj, hm, hsum, hall, hbw⟩ := hrel
        obtain ⟨c0, c1⟩ := AT.out wr hbw.out
        by_cases hlt : j < nf
        · have hlt' : j < fns.length := by rw [← HNF.out]; exact hlt
          have bw := below_on HB.out hbw.out
          have RN : Hid (∀ w', Below W.heap.size W w' → ∃ g o vc, fa = some ⟨g, o, none⟩ ∧ w'.cell? ⟨g, o + j * 4, none⟩ = some (.string fns[j].name) ∧ w'.cell? ⟨g, o + j * 4 + 1, none⟩ = some (.int .i64 fns[j].pa) ∧ w'.cell? ⟨g, o + j * 4 + 2, none⟩ = some (.int .i64 fns[j].lo) ∧ w'.cell? ⟨g, o + j * 4 + 3, none⟩ = some vc ∧ Il Q w' vc fns[j].code) := fun w' hb => by
            obtain ⟨g, o, h, -, -, -, vc, d⟩ := (H2.out.later hb).nth hlt'
            exact ⟨g, o, vc, h, d⟩
          obtain ⟨g, o, rfl, -, -, -, vc, d0, d1, d2, d3, hil⟩ := (H2.out.later bw).nth hlt'
          obtain ⟨a5, p5, rfl, e1, e2⟩ := hil.at
          have J2 := hide (droutine_at fns[j].name fns[j].pa fns[j].lo fns[j].code hil (Z2.out _ (List.getElem_mem hlt')).1)
          have E4 := hide (all_snoc (p := rtD) hlt' hall.out)
          have E5 := hide (fun h => all_no (p := rtD) (l := fns) hlt' h)
          have E6 := hide (sumR_snoc hlt')
          have E8 := (Z2.out _ (List.getElem_mem hlt')).2
          have CL : Hid (∀ w', Below wr.heap.size wr w' → w'.cell? ⟨g, o + j * 4 + 3, none⟩ = some (.slice a5 fns[j].code.length p5)) := fun w' hb => (hb.cell (World.block_lt_of_cell? wr _ d3)).trans d3
          have HBX := hide hbw.out
          have EQ : rtD ⟨fns[j].name, fns[j].pa, fns[j].lo, fns[j].code⟩ = rtD fns[j] := rfl
          rw [EQ] at J2
          clear RN
          generalize rtD fns[j] = q2 at *
          generalize fns[j].name = nm at *
          generalize fns[j].pa = pa at *
          generalize fns[j].lo = lo at *
          generalize fns[j].code.length = cl at *
          clear hil bw EQ hbw
          go_wp2_with fail
          refine J2.out.mono ?_
          rintro e w4 ⟨rfl, hb4⟩
          obtain ⟨c0', c1'⟩ := AT.out w4 (below_on HBX.out hb4)
          have z8 := CL.out w4 hb4
          have HB4 := hide (below_on HBX.out hb4)
          clear hb4 J2 c0 c1 d0 d1 d2 d3 CL HBX
          cases q2 with
          | false =>
            obtain rfl : te = false := by rw [TE3.out, E5.out rfl]; rfl
            go_wp2_with fail
            go_ret
            exact ⟨rfl, below_on HB.out HB4.out⟩
          | true =>
            have hov2 : m ≤ 35184372088832 * 32 := by omega
            go_wp2_with fail
            go_roundw
            case rel => exact ⟨j + 1, m + cl, by go_num, by go_num, by omega, by omega, by have := E6.out; have := hsum.out; unfold Hid; omega, E4.out, HB4.out⟩
            case measure => simp [intOf]; omega
        · obtain rfl : nf = j := by omega
          have SB : fns.all rtD = true ∧ m = n + sumR fns := by
            have h1 := hall.out
            have h2 := hsum.out
            rw [HNF.out, List.take_length] at h1 h2
            exact ⟨h1, h2⟩
          have T4 : Hid (te = decide (m ≤ 2000)) := by
            unfold Hid
            rw [TE3.out, SB.1, Bool.true_and, ← SB.2]
          have HB4 := hide hbw.out
          clear SB hsum hall hm hbw
          go_wp2_with fail
          go_ret
          refine ⟨?_, below_on HB.out HB4.out⟩
          rw [T4.out]
          exact ret_bool (by rw [decide_eq_decide]; omega)
end Go.Proofs.YtfkhhplcogedmaaGreatDoor
