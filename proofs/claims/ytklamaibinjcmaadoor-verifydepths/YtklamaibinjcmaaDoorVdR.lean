/-
  VerifyDepths, for every input: the row and its tied card.
-/
import Derived.Test.YtklamaibinjcmaaDoorVrB
import Derived.Test.YtklamaibinjcmaaDoorVgN
import Derived.Test.YtklamaibinjcmaaDoorMgO
import Derived.Test.YtklamaibinjcmaaDoorMgN
namespace Go.Proofs.YtklamaibinjcmaaDoor.verifyDepths
open Go.ChangeShapes Go.WideShapes Go.ChangeAt Go.WideMaps Go.WideElems Go.RowKit
theorem plain : (Rows.verifyDepthsRow.laid.all fun x => x.2.handleName?.isNone) = true := by kernel_rfl
theorem k4 : Rows.verifyDepthsRow.laid.filter (fun x => x.1 == "hindcast/code.rows") = [("hindcast/code.rows", Rows.laid_hindcast_code_rows)] := by kernel_rfl
/-- The door's own heap meets the condition. -/
theorem door_met (os : Os) (args : Array Value) : laidMetH Tryd.prog Rows.verifyDepthsRow.laid ((World.doorLaid Tryd.prog 400 os).forCall (fun _ _ => 0) ⟨#[], args, []⟩).memory :=
  laidMetH_of_parts3 (fuel := 8) (laidMet_of_run' 8 (by kernel_rfl) (by kernel_rfl)) (by kernel_rfl) (by kernel_rfl)
theorem one {α : Type} {a b : α} (h : [a] = [b]) : a = b := by simpa using h

set_option maxRecDepth 100000 in
set_option maxHeartbeats 400000 in
theorem lifted (os : Os) (started : os.Started) (H : Type) (enc : TypeId × Value → H) :
    ReturnsInHanded {} Tryd.checked os 3 .any (fun w args => (Rows.verifyDepthsSpec.pre enc Tryd.prog Tryd.f3 [] false w args ∧ laidMetH Tryd.prog Rows.verifyDepthsRow.laid w) ∧ sizedMet enc Tryd.prog Tryd.f3 (OpenSpec.ofChange Rows.verifyDepthsSpec) false w args)
      (Rows.verifyDepthsSpec.post enc Tryd.prog Tryd.f3 false true false false) := by
  refine returnsInHanded_of_change_and (C := Tryd.checked) (X := fun w _ => laidMetH Tryd.prog Rows.verifyDepthsRow.laid w) (fun _ _ _ hh h => h.of_heap hh) own started (by kernel_rfl) Tryd.func3
    (ChangeSpec.witness_shaped (enc := enc) (C := Tryd.checked) (os := os) (X := fun w _ => laidMetH Tryd.prog Rows.verifyDepthsRow.laid w) false (World.doorLaid Tryd.prog 400 os) #[.agg #[.slice none 0 0, .slice none 0 0], .agg #[.string ByteArray.empty, .int .i64 0, .int .i64 0, .slice none 0 0], .agg #[.string ByteArray.empty, .int .i64 0, .int .i64 0, .slice none 0 0]] 8 rfl (World.shaped_of_RefB (by kernel_rfl) (by kernel_rfl)) (by kernel_rfl) (by kernel_rfl) (by kernel_rfl) (door_met os _)) ?_
  intro W base args ds gs before hval0 hW hcnd hsz0 hL hlast
  have hval : ∀ (j : Nat) t v, Tryd.f3.params[j]? = some t → args[j]? = some v → Value.okWide Tryd.prog W .any base t v := hval0
  have hW' := hW
  obtain ⟨p, q, hA0, hV, rfl, hfz, hnd⟩ := hW
  have hA : DataW.TrodAll enc Tryd.prog W 0 (fun _ => true) true Tryd.f3.params.toList args.toList ds p := hA0
  rw [Tryd.params3] at hA hval
  obtain ⟨v0, vs0, d0, ds0, p0, q0, hargs, rfl, rfl, h0, r0⟩ := trodAll_cons hA
  obtain ⟨v1, vs1, d1, ds1, p1, q1, rfl, rfl, rfl, h1, r1⟩ := trodAll_cons r0
  obtain ⟨v2, vs2, d2, ds2, p2, q2, rfl, rfl, rfl, h2, r2⟩ := trodAll_cons r1
  obtain ⟨rfl, rfl, rfl⟩ := trodAll_nil r2
  obtain rfl : args = #[v0, v1, v2] := by cases args; simp_all
  obtain ⟨rfl, rfl⟩ := trodVars_none hV
  have h0' := h0
  have h1' := h1
  have h2' := h2
  have lt0 : ∀ x ∈ p0, x.block < W.heap.size := by obtain ⟨m, hm⟩ := h0; exact DataW.trod_lt m _ _ _ hm
  have lt1 : ∀ x ∈ p1, x.block < W.heap.size := by obtain ⟨m, hm⟩ := h1; exact DataW.trod_lt m _ _ _ hm
  have lt2 : ∀ x ∈ p2, x.block < W.heap.size := by obtain ⟨m, hm⟩ := h2; exact DataW.trod_lt m _ _ _ hm
  obtain ⟨u0, u1, y0, y1, m0, rfl, rfl, rfl, g0, g1⟩ := Joins.open_agg2 Tryd.underlying25 (by kernel_rfl) (by kernel_rfl) (hval 0 25 v0 rfl rfl) h0
  obtain ⟨a0, a1, a2, a3, x0, x1, x2, x3, m1, rfl, rfl, rfl, b0, b1, b2, b3⟩ := Joins.open_agg4 Tryd.underlying28 (by kernel_rfl) (by kernel_rfl) (hval 1 28 v1 rfl rfl) h1
  obtain ⟨c0, c1, c2, c3, z0, z1, z2, z3, m2, rfl, rfl, rfl, e0, e1, e2, e3⟩ := Joins.open_agg4 Tryd.underlying28 (by kernel_rfl) (by kernel_rfl) (hval 2 28 v2 rfl rfl) h2
  have hall := List.all_eq_true.1 hsz0
  have wp : ∀ n ∈ (DataW.agg [y0.1, y1.1] : DataW H).weights Tryd.prog 25, n ≤ reachBytes := fun n hn => by
    have := hall n (DataW.weights_mem_each (j := 0) (t := 25) (d := .agg [y0.1, y1.1]) (by rw [Tryd.params3]; rfl) rfl n hn)
    simpa using this
  have wr : ∀ n ∈ (DataW.agg [x0.1, x1.1, x2.1, x3.1] : DataW H).weights Tryd.prog 28, n ≤ reachBytes := fun n hn => by
    have := hall n (DataW.weights_mem_each (j := 1) (t := 28) (d := .agg [x0.1, x1.1, x2.1, x3.1]) (by rw [Tryd.params3]; rfl) rfl n hn)
    simpa using this
  have ws : Wts 22 y0 := fun n hn => wp n (by
    unfold DataW.weights
    have e := (show Tryd.checked.prog.underlying 25 = Tryd.prog.underlying 25 from rfl).trans Tryd.underlying25
    first | rw [e] | rw [Tryd.underlying25]
    exact DataW.weights_mem_each (j := 0) (t := 22) (d := y0.1) rfl rfl n hn)
  have wf : Wts 23 y1 := fun n hn => wp n (by
    unfold DataW.weights
    have e := (show Tryd.checked.prog.underlying 25 = Tryd.prog.underlying 25 from rfl).trans Tryd.underlying25
    first | rw [e] | rw [Tryd.underlying25]
    exact DataW.weights_mem_each (j := 1) (t := 23) (d := y1.1) rfl rfl n hn)
  have wc : Wts 26 x3 := fun n hn => wr n (by
    unfold DataW.weights
    have e := (show Tryd.checked.prog.underlying 28 = Tryd.prog.underlying 28 from rfl).trans Tryd.underlying28
    first | rw [e] | rw [Tryd.underlying28]
    exact DataW.weights_mem_each (j := 3) (t := 26) (d := x3.1) rfl rfl n hn)
  obtain ⟨z, sys, hz, hS⟩ := syss_cells g0
  obtain rfl := one hz
  obtain ⟨z, fns, hz, hF, -, -⟩ := rts_cells g1 wf
  obtain rfl := one hz
  obtain ⟨z, cr, hz, hr, -⟩ := code_cells b3
  obtain rfl := one hz
  obtain ⟨z, ce, hz, he, -⟩ := code_cells e3
  obtain rfl := one hz
  obtain ⟨n1, k1, -, -⟩ := DataW.trod_string Tryd.underlying9 b0
  obtain rfl := one k1
  obtain ⟨i1, k2, -, -⟩ := DataW.trod_int Tryd.underlying3 b1
  obtain rfl := one k2
  obtain ⟨i2, k3, -, -⟩ := DataW.trod_int Tryd.underlying3 b2
  obtain rfl := one k3
  obtain ⟨n2, k4', -, -⟩ := DataW.trod_string Tryd.underlying9 e0
  obtain rfl := one k4'
  obtain ⟨i3, k5, -, -⟩ := DataW.trod_int Tryd.underlying3 e1
  obtain rfl := one k5
  obtain ⟨i4, k6, -, -⟩ := DataW.trod_int Tryd.underlying3 e2
  obtain rfl := one k6
  obtain ⟨sz1, sz2⟩ := syss_size g0 ws hS
  obtain ⟨sz3, sz4⟩ := rts_size g1 wf hF
  have sz5 := code_size b3 wc hr
  have hw : Tb W := tab_of_laid k4 (by rw [MakeChecks.laidMetH_plain _ _ _ plain] at hL; exact hL)
  clear hA0 hval0 hlast hcnd hsz0 hall wp wr ws wf wc
  refine (depthslaw_any n1 n2 i1 i2 i3 i4 hS hF hr he hw sz1 sz3 sz2 sz4 sz5).mono fun e W' ⟨he', bel⟩ => ?_
  subst he'
  exact ⟨_, rfl, _, _, _, [], _, [], hW', trodAll_mk1 (shut_bool Tryd.underlying4 _), (trodAll_cons_mk (Below.trod laidOutD (by kernel_rfl) (of_decide_eq_true (by kernel_rfl)) h0' bel lt0) (trodAll_cons_mk (Below.trod laidOutD (by kernel_rfl) (of_decide_eq_true (by kernel_rfl)) h1' bel lt1) (trodAll_cons_mk (Below.trod laidOutD (by kernel_rfl) (of_decide_eq_true (by kernel_rfl)) h2' bel lt2) trodAll_mk0))), rfl, bel.frame _, fun h => by cases h⟩

theorem over : Rows.VerifyDepthsSaid :=
  OpenClaim.holds_of_wide 3 Tryd.f3 rfl rfl rfl rfl rfl rfl rfl ⟨rfl, rfl, rfl, rfl, rfl⟩ rfl rfl rfl rfl rfl (by kernel_rfl) Tryd.func3 (by kernel_rfl)
    (of_decide_eq_true (by kernel_rfl)) (by unfold Func.isWrapper; first | (rw [if_pos (by decide +kernel)]; kernel_rfl) | (rw [if_neg (by decide +kernel)]; exact ⟨rfl, rfl⟩))
    (fun os started H enc _ => lifted os started H enc)
end Go.Proofs.YtklamaibinjcmaaDoor.verifyDepths
namespace Go.Proofs.YtklamaibinjcmaaDoor
open Go
theorem verifyDepths_holds : Rows.VerifyDepthsCardSaid :=
  Claim7.holds_tied_plain_at .later [] [.data] true (true, "193f8da748061c5a6eb5cdc4743fad597f206881c8bebab28504204985a8cb7c") true
    verifyDepths.over (fun _ h => by cases h) (by kernel_rfl) (fun _ h => by cases h) verifyDepths_row_tie rfl ⟨rfl, rfl⟩ (by kernel_rfl) rfl
    (fun f fn hf hfn => by
      obtain rfl : f = 3 := Option.some.inj ((show Tryd.prog.funcNamed "hindcast/hindcastlaw15.VerifyDepths" = some 3 by kernel_rfl).symm.trans hf) |>.symm
      obtain rfl : fn = Tryd.f3 := (Option.some.inj (Tryd.func3.symm.trans hfn)).symm
      exact ⟨by kernel_rfl, fun j t ht => by
        rw [Tryd.params3] at ht
        match j, ht with
        | 0, ht => obtain rfl : (25 : TypeId) = t := by simpa using ht
                   exact (show Tryd.prog.wantsStandIn 25 = false by kernel_rfl)
        | 1, ht => obtain rfl : (28 : TypeId) = t := by simpa using ht
                   exact (show Tryd.prog.wantsStandIn 28 = false by kernel_rfl)
        | 2, ht => obtain rfl : (28 : TypeId) = t := by simpa using ht
                   exact (show Tryd.prog.wantsStandIn 28 = false by kernel_rfl)
        | k + 3, ht => simp at ht⟩)
    (by kernel_rfl)
#print axioms verifyDepths_holds
end Go.Proofs.YtklamaibinjcmaaDoor
