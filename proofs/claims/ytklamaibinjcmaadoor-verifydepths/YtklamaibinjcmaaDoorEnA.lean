/-
  Sets, systems, programs in memory; sets, areSets.
-/
import Derived.Test.YtklamaibinjcmaaDoorMgC
import Derived.Test.YtklamaibinjcmaaDoorCoX
namespace Go.Proofs.YtklamaibinjcmaaDoor
open Go.RowKit
set_option maxRecDepth 100000
/-- Numbers as they are read. -/
def Nl (Q : Nat → Prop) (W : World) (v : Value) (l : List Int) : Prop :=
  ∃ ao c, v = .slice ao l.length c ∧ l.length ≤ c ∧ c ≤ maxLen ∧ (0 < l.length → ∃ g o, ao = some ⟨g, o, none⟩ ∧ Q g ∧ ∀ i (h : i < l.length), I6 l[i] ∧ W.cell? ⟨g, o + i, none⟩ = some (.int .i64 l[i]))
/-- A system at its place. -/
def SyAt (Q : Nat → Prop) (W : World) (g o : Nat) (s : Sy) : Prop := I6 s.run.pa ∧ I6 s.run.lo ∧ ∃ v1 v2 v3 v4 vc, W.cell? ⟨g, o, none⟩ = some v1 ∧ W.cell? ⟨g, o + 1, none⟩ = some v2 ∧ W.cell? ⟨g, o + 2, none⟩ = some v3 ∧ W.cell? ⟨g, o + 3, none⟩ = some v4 ∧ W.cell? ⟨g, o + 4, none⟩ = some (.string s.run.name) ∧ W.cell? ⟨g, o + 5, none⟩ = some (.int .i64 s.run.pa) ∧ W.cell? ⟨g, o + 6, none⟩ = some (.int .i64 s.run.lo) ∧ W.cell? ⟨g, o + 7, none⟩ = some vc ∧ Nl Q W v1 s.wi ∧ Nl Q W v2 s.wo ∧ Nl Q W v3 s.re ∧ Nl Q W v4 s.wr ∧ Il Q W vc s.run.code
def Sys (Q : Nat → Prop) (W : World) (v : Value) (l : List Sy) : Prop :=
  ∃ ao c, v = .slice ao l.length c ∧ l.length ≤ c ∧ c ≤ maxLen ∧ (0 < l.length → ∃ g o, ao = some ⟨g, o, none⟩ ∧ Q g ∧ ∀ i (h : i < l.length), SyAt Q W g (o + i * 8) l[i])
def Pgm (Q : Nat → Prop) (W : World) (vs vf : Value) (p : Pg) : Prop := Sys Q W vs p.sys ∧ Rts Q W vf p.fns
section
variable {W W' : World} {S Q : Nat → Prop} {v : Value}
theorem Nl.mv {l : List Int} (h : Nl Q W v l) (hm : Mv W W' S) (hs : ∀ j, Q j → ¬ S j) : Nl Q W' v l := by
  obtain ⟨ao, c, h1, h2, h3, h4⟩ := h
  refine ⟨ao, c, h1, h2, h3, fun h0 => ?_⟩
  obtain ⟨g, o, h5, h6, h7⟩ := h4 h0
  refine ⟨g, o, h5, h6, fun i hi => ?_⟩
  obtain ⟨a, b⟩ := h7 i hi
  exact ⟨a, hm.cell b (hs g h6)⟩
theorem Nl.mono {Q' : Nat → Prop} {l : List Int} (h : Nl Q W v l) (hq : ∀ j, Q j → Q' j) : Nl Q' W v l := by
  obtain ⟨ao, c, h1, h2, h3, h4⟩ := h
  refine ⟨ao, c, h1, h2, h3, fun h0 => ?_⟩
  obtain ⟨g, o, h5, h6, h7⟩ := h4 h0
  exact ⟨g, o, h5, hq g h6, h7⟩
theorem Nl.later {l : List Int} (h : Nl Q W v l) (hb : Below W.heap.size W W') : Nl Q W' v l := h.mv (Mv.of_below hb (fun _ => False)) (fun _ _ e => e)
theorem Nl.at {l : List Int} (h : Nl Q W v l) : ∃ ao c, v = .slice ao l.length c ∧ l.length ≤ c ∧ c ≤ 9223372036854775807 := by
  obtain ⟨ao, c, h1, h2, h3, -⟩ := h
  exact ⟨ao, c, h1, h2, by unfold maxLen at h3; omega⟩
theorem Nl.nth {n c : Nat} {ao : Option Addr} {l : List Int} (h : Nl Q W (.slice ao n c) l) {k : Nat} (hk : k < l.length) : ∃ g o, ao = some ⟨g, o, none⟩ ∧ Q g ∧ W.cell? ⟨g, o + k, none⟩ = some (.int .i64 l[k]) ∧ I6 l[k] := by
  obtain ⟨ao', c', e, h2, h3, h4⟩ := h
  injection e with e1 e2 e3
  subst e1 e3
  obtain ⟨g, o, rfl, hq, h5⟩ := h4 (by omega)
  obtain ⟨a, b⟩ := h5 k hk
  exact ⟨g, o, rfl, hq, b, a⟩
theorem SyAt.mv {g o : Nat} {s : Sy} (h : SyAt Q W g o s) (hm : Mv W W' S) (hs : ∀ j, Q j → ¬ S j) (hg : Q g) : SyAt Q W' g o s := by
  obtain ⟨i1, i2, v1, v2, v3, v4, vc, h1, h2, h3, h4, h5, h6, h7, h8, n1, n2, n3, n4, n5⟩ := h
  have c := fun {a : Addr} {x : Value} (e : W.cell? a = some x) (ha : a.block = g) => hm.cell e (by rw [ha]; exact hs g hg)
  exact ⟨i1, i2, v1, v2, v3, v4, vc, c h1 rfl, c h2 rfl, c h3 rfl, c h4 rfl, c h5 rfl, c h6 rfl, c h7 rfl, c h8 rfl, n1.mv hm hs, n2.mv hm hs, n3.mv hm hs, n4.mv hm hs, n5.mv hm hs⟩
theorem Sys.mv {l : List Sy} (h : Sys Q W v l) (hm : Mv W W' S) (hs : ∀ j, Q j → ¬ S j) : Sys Q W' v l := by
  obtain ⟨ao, c, h1, h2, h3, h4⟩ := h
  refine ⟨ao, c, h1, h2, h3, fun h0 => ?_⟩
  obtain ⟨g, o, h5, h6, h7⟩ := h4 h0
  exact ⟨g, o, h5, h6, fun i hi => (h7 i hi).mv hm hs h6⟩
theorem Sys.later {l : List Sy} (h : Sys Q W v l) (hb : Below W.heap.size W W') : Sys Q W' v l := h.mv (Mv.of_below hb (fun _ => False)) (fun _ _ e => e)
theorem Sys.at {l : List Sy} (h : Sys Q W v l) : ∃ ao c, v = .slice ao l.length c ∧ l.length ≤ c ∧ c ≤ 9223372036854775807 := by
  obtain ⟨ao, c, h1, h2, h3, -⟩ := h
  exact ⟨ao, c, h1, h2, by unfold maxLen at h3; omega⟩
theorem Sys.nth {n c : Nat} {ao : Option Addr} {l : List Sy} (h : Sys Q W (.slice ao n c) l) {k : Nat} (hk : k < l.length) : ∃ g o, ao = some ⟨g, o, none⟩ ∧ Q g ∧ SyAt Q W g (o + k * 8) l[k] := by
  obtain ⟨ao', c', e, h2, h3, h4⟩ := h
  injection e with e1 e2 e3
  subst e1 e3
  obtain ⟨g, o, rfl, hq, h5⟩ := h4 (by omega)
  exact ⟨g, o, rfl, hq, h5 k hk⟩
theorem Rts.at {l : List Rt} (h : Rts Q W v l) : ∃ ao c, v = .slice ao l.length c ∧ l.length ≤ c ∧ c ≤ 9223372036854775807 := by
  obtain ⟨ao, c, h1, h2, h3, -⟩ := h
  exact ⟨ao, c, h1, h2, by unfold maxLen at h3; omega⟩
theorem Rts.nth {n c : Nat} {ao : Option Addr} {l : List Rt} (h : Rts Q W (.slice ao n c) l) {k : Nat} (hk : k < l.length) : ∃ g o, ao = some ⟨g, o, none⟩ ∧ Q g ∧ I6 l[k].pa ∧ I6 l[k].lo ∧ ∃ vc, W.cell? ⟨g, o + k * 4, none⟩ = some (.string l[k].name) ∧ W.cell? ⟨g, o + k * 4 + 1, none⟩ = some (.int .i64 l[k].pa) ∧ W.cell? ⟨g, o + k * 4 + 2, none⟩ = some (.int .i64 l[k].lo) ∧ W.cell? ⟨g, o + k * 4 + 3, none⟩ = some vc ∧ Il Q W vc l[k].code := by
  obtain ⟨ao', c', e, h2, h3, h4⟩ := h
  injection e with e1 e2 e3
  subst e1 e3
  obtain ⟨g, o, rfl, hq, h5⟩ := h4 (by omega)
  exact ⟨g, o, rfl, hq, h5 k hk⟩
end
def syV (s : Sy) (v1 v2 v3 v4 vc : Value) : Value := .agg #[v1, v2, v3, v4, .string s.run.name, .int .i64 s.run.pa, .int .i64 s.run.lo, vc]
theorem undSet : (Tryd.prog.underlying 117).map (fun d => match d with | .struct _ | .array _ _ => true | _ => false) = some true := by kernel_rfl
theorem res_set {fn : Func} {p : Tmp} (hr : fn.results = #[.cell p 117]) {tmps : Array Value} {W : World} {g : Nat} {x y z t : Value} (hp : tmps.getD p undef = .pointer (some ⟨g, 0, none⟩)) (hg : W.heap[g]? = some (.cells #[x, y, z, t] 117 (0, 0))) : (results fn tmps).run Tryd.prog W = .ok (.agg #[x, y, z, t]) W := by
  obtain ⟨d, hu, hd⟩ := Option.map_eq_some_iff.1 undSet
  exact results_cell_row hr tmps W g 117 _ (0, 0) d hp hg hu (by cases d <;> first | rfl | cases hd) (by kernel_rfl)
theorem ix_set (a1 a2 a3 a4 : Option Addr) (n1 n2 n3 n4 c1 c2 c3 c4 : Nat) (w : World) :
    (Instr.index 117 (.agg #[.slice a1 n1 c1, .slice a2 n2 c2, .slice a3 n3 c3, .slice a4 n4 c4]) (.int .i64 0)).run Tryd.prog w = .ok (.slice a1 n1 c1) w ∧
    (Instr.index 117 (.agg #[.slice a1 n1 c1, .slice a2 n2 c2, .slice a3 n3 c3, .slice a4 n4 c4]) (.int .i64 1)).run Tryd.prog w = .ok (.slice a2 n2 c2) w ∧
    (Instr.index 117 (.agg #[.slice a1 n1 c1, .slice a2 n2 c2, .slice a3 n3 c3, .slice a4 n4 c4]) (.int .i64 2)).run Tryd.prog w = .ok (.slice a3 n3 c3) w ∧
    (Instr.index 117 (.agg #[.slice a1 n1 c1, .slice a2 n2 c2, .slice a3 n3 c3, .slice a4 n4 c4]) (.int .i64 3)).run Tryd.prog w = .ok (.slice a4 n4 c4) w := ⟨by kernel_rfl, by kernel_rfl, by kernel_rfl, by kernel_rfl⟩
set_option maxHeartbeats 1000000 in
theorem sets_any (a1 a2 a3 a4 : Option Addr) (n1 n2 n3 n4 c1 c2 c3 c4 : Nat) (nm pa lo vc : Value) (W : World) : Calls Tryd.prog 49 #[.agg #[.slice a1 n1 c1, .slice a2 n2 c2, .slice a3 n3 c3, .slice a4 n4 c4, nm, pa, lo, vc]] W fun e w' => e = .returned (.agg #[.slice a1 n1 c1, .slice a2 n2 c2, .slice a3 n3 c3, .slice a4 n4 c4]) ∧ Below W.heap.size W w' := by
  go_enter Tryd.func49, Tryd.ntmps49
  go_wp2_with fail
  have hn := heap_alloc_new (W.alloc (.cells #[.slice a1 n1 c1, .slice a2 n2 c2, .slice a3 n3 c3, .slice a4 n4 c4, nm, pa, lo, vc] 60)) (.cells #[.slice a1 n1 c1, .slice a2 n2 c2, .slice a3 n3 c3, .slice a4 n4 c4] 117)
  rw [show (W.alloc (.cells #[.slice a1 n1 c1, .slice a2 n2 c2, .slice a3 n3 c3, .slice a4 n4 c4, nm, pa, lo, vc] 60)).heap.size = W.heap.size + 1 from Array.size_push ..] at hn
  exact bodyPost_ret (res_set rfl rfl hn) rfl ⟨rfl, below_on (below_alloc W _) (below_alloc _ _)⟩
theorem setFrom_cons (last k : Int) (l : List Int) : setFrom last (k :: l) = (decide (last < k ∧ k ≤ 12) && setFrom k l) := rfl
set_option maxHeartbeats 4000000 in
theorem aresets_at {Q : Nat → Prop} {W : World} {a1 a2 a3 a4 : Option Addr} {n1 n2 n3 n4 c1 c2 c3 c4 : Nat} (nm pa lo vc : Value) (l1 l2 l3 l4 : List Int)
    (h1 : Nl Q W (.slice a1 n1 c1) l1) (h2 : Nl Q W (.slice a2 n2 c2) l2) (h3 : Nl Q W (.slice a3 n3 c3) l3) (h4 : Nl Q W (.slice a4 n4 c4) l4) :
    Calls Tryd.prog 71 #[.agg #[.slice a1 n1 c1, .slice a2 n2 c2, .slice a3 n3 c3, .slice a4 n4 c4, nm, pa, lo, vc]] W fun e w' => e = .returned (.bool (setOk l1 && setOk l2 && setOk l3 && setOk l4)) ∧ Below W.heap.size W w' := by
  obtain ⟨w0, hw0⟩ : ∃ X, X = W.alloc (.cells #[.slice a1 n1 c1, .slice a2 n2 c2, .slice a3 n3 c3, .slice a4 n4 c4, nm, pa, lo, vc] 60) := ⟨_, rfl⟩
  have B0 : Below W.heap.size W w0 := hw0 ▸ below_alloc W _
  have n1' : w0.heap[W.heap.size]? = some (.cells #[.slice a1 n1 c1, .slice a2 n2 c2, .slice a3 n3 c3, .slice a4 n4 c4, nm, pa, lo, vc] 60 (0, 0)) := by rw [hw0]; exact heap_alloc_new W _
  obtain ⟨B, hB⟩ : ∃ B, B = W.heap.size := ⟨_, rfl⟩
  rw [← hB] at n1'
  have e8 : w0.cell? ⟨B, 0, none⟩ = some (.slice a1 n1 c1) ∧ w0.cell? ⟨B, 1, none⟩ = some (.slice a2 n2 c2) ∧ w0.cell? ⟨B, 2, none⟩ = some (.slice a3 n3 c3) ∧ w0.cell? ⟨B, 3, none⟩ = some (.slice a4 n4 c4) ∧ w0.cell? ⟨B, 4, none⟩ = some nm ∧ w0.cell? ⟨B, 5, none⟩ = some pa ∧ w0.cell? ⟨B, 6, none⟩ = some lo ∧ w0.cell? ⟨B, 7, none⟩ = some vc := by
    refine ⟨?_, ?_, ?_, ?_, ?_, ?_, ?_, ?_⟩ <;> rw [cell_of_row w0 _ _ _ 60 (0, 0) n1'] <;> rfl
  obtain ⟨d0, d1, d2, d3, d4, d5, d6, d7⟩ := e8
  have J := hide (sets_any a1 a2 a3 a4 n1 n2 n3 n4 c1 c2 c3 c4 nm pa lo vc w0)
  have HB := hide B0
  obtain ⟨te, hte⟩ : ∃ t, t = (setOk l1 && setOk l2 && setOk l3 && setOk l4) := ⟨_, rfl⟩
  rw [← hte]
  have SEL : Hid (∀ (w : World), Below W.heap.size W w → ∀ k : Nat, k < 4 → ∃ ax nx cx lx, (∀ w, (Instr.index 117 (.agg #[.slice a1 n1 c1, .slice a2 n2 c2, .slice a3 n3 c3, .slice a4 n4 c4]) (.int .i64 (k : Int))).run Tryd.prog w = .ok (.slice ax nx cx) w) ∧ Nl Q w (.slice ax nx cx) lx ∧ [l1, l2, l3, l4][k]? = some lx) := by
    intro w hw k hk
    obtain rfl | rfl | rfl | rfl : k = 0 ∨ k = 1 ∨ k = 2 ∨ k = 3 := by omega
    · exact ⟨_, _, _, _, fun w => (ix_set a1 a2 a3 a4 n1 n2 n3 n4 c1 c2 c3 c4 w).1, h1.later hw, rfl⟩
    · exact ⟨_, _, _, _, fun w => (ix_set a1 a2 a3 a4 n1 n2 n3 n4 c1 c2 c3 c4 w).2.1, h2.later hw, rfl⟩
    · exact ⟨_, _, _, _, fun w => (ix_set a1 a2 a3 a4 n1 n2 n3 n4 c1 c2 c3 c4 w).2.2.1, h3.later hw, rfl⟩
    · exact ⟨_, _, _, _, fun w => (ix_set a1 a2 a3 a4 n1 n2 n3 n4 c1 c2 c3 c4 w).2.2.2, h4.later hw, rfl⟩
  have LEN : Hid ([l1, l2, l3, l4].length = 4) := rfl
  have TE : Hid (te = [l1, l2, l3, l4].all setOk) := by unfold Hid; rw [hte]; simp [Bool.and_assoc]
  generalize [l1, l2, l3, l4] = ls at *
  have LL : Hid (∀ k lx, ls[k]? = some lx → setOk lx = false → te = false) := fun k lx h1 h2 => by
    rw [TE.out, List.all_eq_false]
    exact ⟨lx, List.mem_of_getElem? h1, by simp [h2]⟩
  have LK : Hid (∀ k lx, ls[k]? = some lx → setOk lx = true → (ls.take k).all setOk = true → (ls.take (k + 1)).all setOk = true) := fun k lx h1 h2 h3 => by
    rw [List.take_add_one, h1, List.all_append, h3]
    simp [h2]
  clear hte h1 h2 h3 h4 B0 n1'
  go_enter Tryd.func71, Tryd.ntmps71
  go_upto_region 1 with fail
  rw [← hw0, ← hB]
  clear hw0 hB
  go_wp2_with fail
  refine J.out.mono ?_
  rintro e w1 ⟨rfl, hb1⟩
  have H1 := hide (below_on HB.out hb1)
  clear hb1 J d0 d1 d2 d3 d4 d5 d6 d7
  go_wp2_with fail
  go_loop [10] (fun v => ∃ k : Nat, v = .int .i64 (k : Int) ∧ k ≤ 4 ∧ Hid ((ls.take k).all setOk = true)) (fun v => 4 - (intOf v).toNat)
  case atStart => exact ⟨0, rfl, by omega, rfl⟩
  case round =>
    obtain ⟨k, rfl, hk, ha⟩ := hrel
    by_cases hlt : k < 4
    · obtain ⟨ax, nx, cx, lx, ix, hnl, hls⟩ := SEL.out w1 H1.out k hlt
      obtain ⟨ax', cx', e, hn1, hn2⟩ := hnl.at
      injection e with e1 e2 e3
      subst e1 e3
      have HN := hide hnl
      have HLS := hide hls
      have EN := hide e2
      rw [← e2] at hn1
      clear hnl hls e2
      go_wp2_with fail
      go_loop [15, 5] (fun v u => ∃ (j : Nat) (last : Int), v = .int .i64 (j : Int) ∧ u = .int .i64 last ∧ j ≤ nx ∧ Hid (setOk lx = setFrom last (lx.drop j))) (fun v _ => nx - (intOf v).toNat)
      case atStart => exact ⟨0, 0, rfl, rfl, by omega, rfl⟩
      case round =>
        obtain ⟨j, last, rfl, rfl, hj, hs⟩ := hrel
        by_cases hjt : j < nx
        · have hjt' : j < lx.length := by rw [← EN.out]; exact hjt
          obtain ⟨g, o, rfl, -, d0, -⟩ := HN.out.nth hjt'
          have hd : lx.drop j = lx[j] :: lx.drop (j + 1) := List.drop_eq_getElem_cons hjt'
          have hs2 := hs.out
          rw [hd, setFrom_cons] at hs2
          have HS2 := hide hs2
          clear hs2 hs hd
          generalize lx[j] = x at *
          by_cases hx1 : x ≤ last
          · obtain rfl : te = false := LL.out k lx HLS.out (by rw [HS2.out, decide_eq_false (by omega)]; rfl)
            go_wp2_with fail
            go_ret
            exact ⟨rfl, H1.out⟩
          · by_cases hx2 : 12 < x
            · obtain rfl : te = false := LL.out k lx HLS.out (by rw [HS2.out, decide_eq_false (by omega)]; rfl)
              go_wp2_with fail
              go_ret
              exact ⟨rfl, H1.out⟩
            · have HS3 : Hid (setOk lx = setFrom x (lx.drop (j + 1))) := by unfold Hid; rw [HS2.out, decide_eq_true (by omega), Bool.true_and]
              go_wp2_with fail
              exact ⟨⟨j + 1, x, by go_num, rfl, by omega, HS3.out⟩, by simp [intOf]; omega⟩
        · have HS3 : Hid (setOk lx = true) := by
            unfold Hid
            rw [hs.out, List.drop_eq_nil_of_le (by rw [← EN.out]; omega)]; rfl
          go_wp2_with fail
          exact ⟨⟨k + 1, by go_num, by omega, LK.out k lx HLS.out HS3.out ha.out⟩, by simp [intOf]; omega⟩
    · obtain rfl : k = 4 := by omega
      obtain rfl : te = true := by
        rw [TE.out]
        have := ha.out
        rw [List.take_of_length_le (by rw [LEN.out]; omega)] at this
        exact this
      go_wp2_with fail
      go_ret
      exact ⟨rfl, H1.out⟩
end Go.Proofs.YtklamaibinjcmaaDoor
