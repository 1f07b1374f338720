/-
  Verify: the law's routine.
-/
import Derived.Test.YtklamaibinjcmaaDoorVgE
import Derived.Laws.ResultCell
namespace Go.Proofs.YtklamaibinjcmaaDoor
open Go.RowKit
set_option maxRecDepth 100000
theorem undRt : (Tryd.prog.underlying 28).map (fun d => match d with | .struct _ | .array _ _ => true | _ => false) = some true := by kernel_rfl
theorem res_rt {fn : Func} {p u : Tmp} (hr : fn.results = #[.cell p 28, .tmp u]) {tmps : Array Value} {W : World} {g : Nat} {x y z t b : Value} (hp : tmps.getD p undef = .pointer (some ⟨g, 0, none⟩)) (hu : tmps.getD u undef = b) (hg : W.heap[g]? = some (.cells #[x, y, z, t] 28 (0, 0))) : (results fn tmps).run Tryd.prog W = .ok (.tuple #[.agg #[x, y, z, t], b]) W := by
  obtain ⟨d, hd1, hd⟩ := Option.map_eq_some_iff.1 undRt
  rw [results_cell_tmp hr, hp, hu]
  have h2 := run_loadVar_row (P := Tryd.prog) W g 28 28 #[x, y, z, t] (0, 0) d hg hd1 (by cases d <;> first | rfl | cases hd) (by kernel_rfl)
  simp [asAddr, h2, Result.andThen]
theorem alloc_rt (w : World) : (Instr.alloc 28 true (.tuple #[])).run Tryd.prog w = .ok (.pointer (some ⟨w.heap.size, 0, none⟩)) (w.alloc (.cells #[.string ⟨#[]⟩, .int .i64 0, .int .i64 0, .slice none 0 0] 28)) := by kernel_rfl
set_option maxHeartbeats 4000000 in
theorem lroutine_any {Q : Nat → Prop} {W : World} {vs vf : Value} {p : Pg} (hp : Pgm Q W vs vf p) (k : Nat) (hk : k < (rosOf p).length) (h16 : p.sys.length ≤ 16 ∧ p.fns.length ≤ 16) : Calls Tryd.prog 17 #[.agg #[vs, vf], .int .i64 (k : Int)] W fun e w' => (∃ vc, e = .returned (.tuple #[rtV (rosOf p)[k].rt vc, .bool (rosOf p)[k].sy]) ∧ Il Q W vc (rosOf p)[k].rt.code) ∧ Below W.heap.size W w' := by
  have HP := hide hp
  have HL := rosOf_len p
  obtain ⟨sa, sc, rfl, s1, s2⟩ := hp.1.at
  obtain ⟨fa, fc, rfl, f1, f2⟩ := hp.2.at
  obtain ⟨W1, hW1⟩ : ∃ X, X = W.alloc (.cells #[.slice sa p.sys.length sc, .slice fa p.fns.length fc] 25) := ⟨_, rfl⟩
  have b1 : Below W.heap.size W W1 := hW1 ▸ below_alloc W _
  obtain ⟨g2, hg2⟩ : ∃ y, y = W.heap.size := ⟨_, rfl⟩
  have k2 : W1.heap[g2]? = some (.cells #[.slice sa p.sys.length sc, .slice fa p.fns.length fc] 25 (0, 0)) := by rw [hW1, hg2]; exact heap_alloc_new W _
  obtain ⟨W2, hW2⟩ : ∃ X, X = W1.alloc (.cells #[.string ⟨#[]⟩, .int .i64 0, .int .i64 0, .slice none 0 0] 28) := ⟨_, rfl⟩
  have b2 : Below W1.heap.size W1 W2 := hW2 ▸ below_alloc W1 _
  obtain ⟨g4, hg4⟩ : ∃ y, y = W1.heap.size := ⟨_, rfl⟩
  have k4 : W2.heap[g4]? = some (.cells #[.string ⟨#[]⟩, .int .i64 0, .int .i64 0, .slice none 0 0] 28 (0, 0)) := by rw [hW2, hg4]; exact heap_alloc_new W1 _
  have q2 := (b2.block g2 (lt_of_block k2)).trans k2
  have y0 : W2.cell? ⟨g2, 0, none⟩ = some (.slice sa p.sys.length sc) := by rw [cell_of_row W2 _ _ _ 25 (0, 0) q2]; rfl
  have y1 : W2.cell? ⟨g2, 1, none⟩ = some (.slice fa p.fns.length fc) := by rw [cell_of_row W2 _ _ _ 25 (0, 0) q2]; rfl
  obtain ⟨x0, x1, x2, x3⟩ := row4 k4
  have zf : ∀ q, W2.frozen? ⟨g4, q, none⟩ = false := fun q => frozen_of_row W2 g4 q _ 28 k4
  have K4 := hide k4
  have B2 := hide (below_on b1 b2)
  have hg4W : Hid (W.heap.size ≤ g4) := by have := b1.size; unfold Hid; omega
  have hal := alloc_rt
  have sg : Hid (W.heap.size + 1 = g4) := by unfold Hid; rw [hg4, hW1]; simp
  have FIN : Hid (∀ x y z t, (((((W2.setCell ⟨g4, 0, none⟩ x).setCell ⟨g4, 1, none⟩ y).setCell ⟨g4, 2, none⟩ z).setCell ⟨g4, 3, none⟩ t).heap[g4]? = some (.cells #[x, y, z, t] 28 (0, 0))) ∧ Below W.heap.size W ((((W2.setCell ⟨g4, 0, none⟩ x).setCell ⟨g4, 1, none⟩ y).setCell ⟨g4, 2, none⟩ z).setCell ⟨g4, 3, none⟩ t)) := fun x y z t => by
    have h1 := heap_setCell_same W2 g4 0 _ 28 x K4.out
    have h2 := heap_setCell_same _ g4 1 _ 28 y h1
    have h3 := heap_setCell_same _ g4 2 _ 28 z h2
    have h4 := heap_setCell_same _ g4 3 _ 28 t h3
    refine ⟨h4, ?_⟩
    have m := ((((Mv.refl W2 (fun k => k = g4)).set (g := g4) rfl 0 x).set (g := g4) rfl 1 y).set (g := g4) rfl 2 z).set (g := g4) rfl 3 t
    exact B2.out.trans (m.below B2.out.size (fun k e => by have := hg4W.out; omega))
  go_enter Tryd.func17, Tryd.ntmps17
  go_upto_region 1 with fail
  rw [← hW1, ← hW2, sg.out, ← hg2]
  clear hW1 hW2 hg2 hg4 sg b1 b2 k2 k4 q2 hal
  have hM := Mv.of_below B2.out (fun _ => False)
  by_cases c : k < p.sys.length
  · have t1 : (k : Int) < (p.sys.length : Int) := by omega
    obtain ⟨g, o, rfl, -, hat⟩ := HP.out.1.nth c
    obtain ⟨a1, a2, a3, a4, a5, n1, n2, n3, n4, n5, e1, e2, e3, e4, e5, HV, u1, u2, u3, u4, u5, u6, u7, u8⟩ := hat.vs
    have v5 := hM.cell u5 id
    have v6 := hM.cell u6 id
    have v7 := hM.cell u7 id
    have v8 := hM.cell u8 id
    have hr := ros_sys c hk
    have HR : Hid ((rosOf p)[k].rt = p.sys[k].run ∧ (rosOf p)[k].sy = true) := by unfold Hid; rw [hr]; exact ⟨rfl, rfl⟩
    have HCO := hide HV.co
    generalize p.sys[k] = sk at *
    obtain ⟨swi, swo, sre, swr, snm, spa, slo, scode⟩ := sk
    dsimp only at v5 v6 v7 HR HCO
    clear hat HV u1 u2 u3 u4 u5 u6 u7 u8 hr hM hp
    go_wp2_with fail
    obtain ⟨k9, b9⟩ := FIN.out (.string snm) (.int .i64 spa) (.int .i64 slo) (.slice a5 n5 e5)
    refine bodyPost_ret (res_rt rfl rfl rfl k9) rfl ⟨⟨.slice a5 n5 e5, ?_, ?_⟩, b9⟩
    · rw [HR.out.1, HR.out.2]
      rfl
    · rw [HR.out.1]
      exact HCO.out
  · have t1 : ¬ (k : Int) < (p.sys.length : Int) := by omega
    obtain ⟨n, rfl⟩ : ∃ n, k = p.sys.length + n := ⟨k - p.sys.length, by omega⟩
    have hn : n < p.fns.length := by omega
    obtain ⟨g, o, rfl, -, -, -, vc, u1, u2, u3, u4, u5⟩ := HP.out.2.nth hn
    have v1 := hM.cell u1 id
    have v2 := hM.cell u2 id
    have v3 := hM.cell u3 id
    have v4 := hM.cell u4 id
    obtain ⟨ac, cc, rfl, -, -⟩ := u5.at
    have hr := ros_fn hn hk
    have HR : Hid ((rosOf p)[p.sys.length + n].rt = p.fns[n] ∧ (rosOf p)[p.sys.length + n].sy = false) := by unfold Hid; rw [hr]; exact ⟨rfl, rfl⟩
    have HCO := hide u5
    have t2 : IntKind.i64.wrap (((p.sys.length + n : Nat) : Int) - (p.sys.length : Int)) = (n : Int) := by rw [IntKind.wrap_i64]; omega
    have t3 : ((p.sys.length + n : Nat) : Int) - (p.sys.length : Int) = (n : Int) := by omega
    have t4 : (n : Int) < (p.fns.length : Int) := by omega
    clear u1 u2 u3 u4 u5 hr hM hp
    go_wp2_with fail
    obtain ⟨k9, b9⟩ := FIN.out (.string p.fns[n].name) (.int .i64 p.fns[n].pa) (.int .i64 p.fns[n].lo) (.slice ac p.fns[n].code.length cc)
    refine bodyPost_ret (res_rt rfl rfl rfl k9) rfl ⟨⟨.slice ac p.fns[n].code.length cc, ?_, ?_⟩, b9⟩
    · rw [HR.out.1, HR.out.2]
      rfl
    · rw [HR.out.1]
      exact HCO.out
end Go.Proofs.YtklamaibinjcmaaDoor
