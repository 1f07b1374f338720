/-
  VerifyNames, for every input: the row and its tied card.
-/
import Derived.Test.YtklamaibinjcmaaDoorVrA
import Derived.Test.YtklamaibinjcmaaDoorVrB
import Derived.Test.YtklamaibinjcmaaDoorVgN
import Derived.Test.YtklamaibinjcmaaDoorVnH
namespace Go.Proofs.YtklamaibinjcmaaDoor.verifyNames
open Go.ChangeShapes Go.WideShapes Go.ChangeAt Go.WideMaps Go.WideElems Go.RowKit
theorem plain : (Rows.verifyNamesRow.laid.all fun x => x.2.handleName?.isNone) = true := by kernel_rfl
theorem k4 : Rows.verifyNamesRow.laid.filter (fun x => x.1 == "hindcast/code.rows") = [("hindcast/code.rows", Rows.laid_hindcast_code_rows)] := by kernel_rfl
/-- The door's own heap meets the condition. -/
theorem door_met (os : Os) (args : Array Value) : laidMetH Tryd.prog Rows.verifyNamesRow.laid ((World.doorLaid Tryd.prog 400 os).forCall (fun _ _ => 0) ⟨#[], args, []⟩).memory :=
  laidMetH_of_parts3 (fuel := 8) (laidMet_of_run' 8 (by kernel_rfl) (by kernel_rfl)) (by kernel_rfl) (by kernel_rfl)
theorem one {α : Type} {a b : α} (h : [a] = [b]) : a = b := by simpa using h

set_option maxRecDepth 100000 in
set_option maxHeartbeats 400000 in
theorem lifted (os : Os) (started : os.Started) (H : Type) (enc : TypeId × Value → H) :
    ReturnsInHanded {} Tryd.checked os 5 .any (fun w args => (Rows.verifyNamesSpec.pre enc Tryd.prog Tryd.f5 [] false w args ∧ laidMetH Tryd.prog Rows.verifyNamesRow.laid w) ∧ sizedMet enc Tryd.prog Tryd.f5 (OpenSpec.ofChange Rows.verifyNamesSpec) false w args)
      (Rows.verifyNamesSpec.post enc Tryd.prog Tryd.f5 false true false false) := by
  refine returnsInHanded_of_change_and (C := Tryd.checked) (X := fun w _ => laidMetH Tryd.prog Rows.verifyNamesRow.laid w) (fun _ _ _ hh h => h.of_heap hh) own started (by kernel_rfl) Tryd.func5
    (ChangeSpec.witness_shaped (enc := enc) (C := Tryd.checked) (os := os) (X := fun w _ => laidMetH Tryd.prog Rows.verifyNamesRow.laid w) false (World.doorLaid Tryd.prog 400 os) #[.agg #[.slice none 0 0, .slice none 0 0], .slice none 0 0, .string ByteArray.empty] 8 rfl (World.shaped_of_RefB (by kernel_rfl) (by kernel_rfl)) (by kernel_rfl) (by kernel_rfl) (by kernel_rfl) (door_met os _)) ?_
  intro W base args ds gs before hval0 hW hcnd hsz0 hL hlast
  have hval : ∀ (j : Nat) t v, Tryd.f5.params[j]? = some t → args[j]? = some v → Value.okWide Tryd.prog W .any base t v := hval0
  have hW' := hW
  obtain ⟨p, q, hA0, hV, rfl, hfz, hnd⟩ := hW
  have hA : DataW.TrodAll enc Tryd.prog W 0 (fun _ => true) true Tryd.f5.params.toList args.toList ds p := hA0
  rw [Tryd.params5] at hA hval
  obtain ⟨v0, vs0, d0, ds0, p0, q0, hargs, rfl, rfl, h0, r0⟩ := trodAll_cons hA
  obtain ⟨v1, vs1, d1, ds1, p1, q1, rfl, rfl, rfl, h1, r1⟩ := trodAll_cons r0
  obtain ⟨v2, vs2, d2, ds2, p2, q2, rfl, rfl, rfl, h2, r2⟩ := trodAll_cons r1
  obtain ⟨rfl, rfl, rfl⟩ := trodAll_nil r2
  obtain rfl : args = #[v0, v1, v2] := by cases args; simp_all
  obtain ⟨rfl, rfl⟩ := trodVars_none hV
  have h0' := h0
  have h1' := h1
  have lt0 : ∀ x ∈ p0, x.block < W.heap.size := by obtain ⟨m, hm⟩ := h0; exact DataW.trod_lt m _ _ _ hm
  have lt1 : ∀ x ∈ p1, x.block < W.heap.size := by obtain ⟨m, hm⟩ := h1; exact DataW.trod_lt m _ _ _ hm
  have lt2 : ∀ x ∈ p2, x.block < W.heap.size := by obtain ⟨m, hm⟩ := h2; exact DataW.trod_lt m _ _ _ hm
  have h2' := h2
  obtain ⟨m2, hm2⟩ := id h2
  obtain ⟨nm, hc1, -, hc3⟩ := DataW.trod_string Tryd.underlying9 hm2
  obtain ⟨nm', rfl⟩ := okWide_string Tryd.underlying9 (hval 2 9 v2 rfl rfl)
  obtain rfl : nm' = nm := by simpa [Value.cells] using hc1
  obtain ⟨k0, lenk, capk, rfl⟩ := okWide_slice Tryd.underlying49 (hval 1 49 v1 rfl rfl)
  obtain ⟨m1, hm1⟩ := id h1
  obtain ⟨vk, ks, hvk, hk⟩ := kinds_cells hm1
  obtain rfl : Value.slice k0 lenk capk = vk := by simpa [Value.cells] using hvk
  obtain ⟨u0, u1, y0, y1, m0, rfl, rfl, rfl, g0, g1⟩ := Joins.open_agg2 Tryd.underlying25 (by kernel_rfl) (by kernel_rfl) (hval 0 25 v0 rfl rfl) h0
  obtain ⟨z0, ls, e0, hs0⟩ := syss_cells g0
  obtain rfl := one e0
  have hwt0 : ∀ n ∈ y1.1.weights Tryd.prog 23, n ≤ reachBytes := fun n hn => by
    have := List.all_eq_true.1 hsz0 n (DataW.weights_mem_each (j := 0) (t := 25) (d := .agg [y0.1, y1.1]) (by rw [Tryd.params5]; rfl) rfl n (by
      unfold DataW.weights
      have e := (show Tryd.checked.prog.underlying 25 = Tryd.prog.underlying 25 from rfl).trans Tryd.underlying25
      rw [e]
      exact DataW.weights_mem_each (j := 1) (t := 23) (d := y1.1) rfl rfl n hn))
    simpa using this
  obtain ⟨z1, fs, e1, hr1, -, -⟩ := rts_cells g1 hwt0
  obtain rfl := one e1
  have hw : Tb W := tab_of_laid k4 (by rw [MakeChecks.laidMetH_plain _ _ _ plain] at hL; exact hL)
  clear hA0 hval0 hlast hcnd hsz0
  refine (names_any (p := ⟨ls, fs⟩) (ks := ks) shown_any ⟨hs0, hr1⟩ hk hw nm' (by simpa [maxLen] using hc3)).mono fun e W' ⟨he, bel⟩ => ?_
  subst he
  exact ⟨_, rfl, _, _, _, [], _, [], hW', trodAll_mk1 (shut_bool Tryd.underlying4 _), (trodAll_cons_mk (Below.trod laidOutD (by kernel_rfl) (of_decide_eq_true (by kernel_rfl)) h0' bel lt0) (trodAll_cons_mk (Below.trod laidOutD (by kernel_rfl) (of_decide_eq_true (by kernel_rfl)) h1' bel lt1) (trodAll_cons_mk (Below.trod laidOutD (by kernel_rfl) (of_decide_eq_true (by kernel_rfl)) h2' bel lt2) trodAll_mk0))), rfl, bel.frame _, fun h => by cases h⟩

theorem over : Rows.VerifyNamesSaid :=
  OpenClaim.holds_of_wide 5 Tryd.f5 rfl rfl rfl rfl rfl rfl rfl ⟨rfl, rfl, rfl, rfl, rfl⟩ rfl rfl rfl rfl rfl (by kernel_rfl) Tryd.func5 (by kernel_rfl)
    (of_decide_eq_true (by kernel_rfl)) (by unfold Func.isWrapper; first | (rw [if_pos (by decide +kernel)]; kernel_rfl) | (rw [if_neg (by decide +kernel)]; exact ⟨rfl, rfl⟩))
    (fun os started H enc _ => lifted os started H enc)
end Go.Proofs.YtklamaibinjcmaaDoor.verifyNames
namespace Go.Proofs.YtklamaibinjcmaaDoor
open Go
theorem verifyNames_holds : Rows.VerifyNamesCardSaid :=
  Claim7.holds_tied_plain_at .later [] [.data] true (true, "193f8da748061c5a6eb5cdc4743fad597f206881c8bebab28504204985a8cb7c") true
    verifyNames.over (fun _ h => by cases h) (by kernel_rfl) (fun _ h => by cases h) verifyNames_row_tie rfl ⟨rfl, rfl⟩ (by kernel_rfl) rfl
    (fun f fn hf hfn => by
      obtain rfl : f = 5 := Option.some.inj ((show Tryd.prog.funcNamed "hindcast/hindcastlaw15.VerifyNames" = some 5 by kernel_rfl).symm.trans hf) |>.symm
      obtain rfl : fn = Tryd.f5 := (Option.some.inj (Tryd.func5.symm.trans hfn)).symm
      exact ⟨by kernel_rfl, fun j t ht => by
        rw [Tryd.params5] at ht
        match j, ht with
        | 0, ht => obtain rfl : (25 : TypeId) = t := by simpa using ht
                   exact (show Tryd.prog.wantsStandIn 25 = false by kernel_rfl)
        | 1, ht => obtain rfl : (49 : TypeId) = t := by simpa using ht
                   exact (show Tryd.prog.wantsStandIn 49 = false by kernel_rfl)
        | 2, ht => obtain rfl : (9 : TypeId) = t := by simpa using ht
                   exact (show Tryd.prog.wantsStandIn 9 = false by kernel_rfl)
        | k + 3, ht => simp at ht⟩)
    (by kernel_rfl)
#print axioms verifyNames_holds
end Go.Proofs.YtklamaibinjcmaaDoor
