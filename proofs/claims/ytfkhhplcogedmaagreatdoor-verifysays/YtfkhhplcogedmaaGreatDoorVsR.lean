/-
  VerifySays, for every input: the row and its tied card.
-/
import Derived.Test.YtfkhhplcogedmaaGreatDoorVrB
import Derived.Test.YtfkhhplcogedmaaGreatDoorMgQ
import Derived.Test.YtfkhhplcogedmaaGreatDoorVsU
import Derived.Test.YtfkhhplcogedmaaGreatDoorVsL
import Derived.Test.YtfkhhplcogedmaaGreatDoorMgW
namespace Go.Proofs.YtfkhhplcogedmaaGreatDoor.verifySays
open Go.ChangeShapes Go.WideShapes Go.ChangeAt Go.WideMaps Go.WideElems Go.RowKit
theorem plain : (Rows.verifySaysRow.laid.all fun x => x.2.handleName?.isNone) = true := by kernel_rfl
theorem k4 : Rows.verifySaysRow.laid.filter (fun x => x.1 == "hindcast/code.rows") = [("hindcast/code.rows", Rows.laid_hindcast_code_rows)] := by kernel_rfl
/-- The door's own heap meets the condition. -/
theorem door_met (os : Os) (args : Array Value) : laidMetH Tryz.prog Rows.verifySaysRow.laid ((World.doorLaid Tryz.prog 400 os).forCall (fun _ _ => 0) ⟨#[], args, []⟩).memory :=
  laidMetH_of_parts3 (fuel := 8) (laidMet_of_run' 8 (by kernel_rfl) (by kernel_rfl)) (by kernel_rfl) (by kernel_rfl)
theorem one {α : Type} {a b : α} (h : [a] = [b]) : a = b := by simpa using h

set_option maxRecDepth 100000 in
set_option maxHeartbeats 400000 in
theorem lifted (os : Os) (started : os.Started) (H : Type) (enc : TypeId × Value → H) :
    ReturnsInHanded {} Tryz.checked os 3 .any (fun w args => (Rows.verifySaysSpec.pre enc Tryz.prog Tryz.f3 [] false w args ∧ laidMetH Tryz.prog Rows.verifySaysRow.laid w) ∧ sizedMet enc Tryz.prog Tryz.f3 (OpenSpec.ofChange Rows.verifySaysSpec) false w args)
      (Rows.verifySaysSpec.post enc Tryz.prog Tryz.f3 false true false false) := by
  refine returnsInHanded_of_change_and (C := Tryz.checked) (X := fun w _ => laidMetH Tryz.prog Rows.verifySaysRow.laid w) (fun _ _ _ hh h => h.of_heap hh) own started (by kernel_rfl) Tryz.func3
    (ChangeSpec.witness_shaped (enc := enc) (C := Tryz.checked) (os := os) (X := fun w _ => laidMetH Tryz.prog Rows.verifySaysRow.laid w) false (World.doorLaid Tryz.prog 400 os) #[.agg #[.slice none 0 0, .slice none 0 0], .slice none 0 0, .int .i64 0, .int .i64 0, .agg #[.int .i64 0, .int .i64 0]] 8 rfl (World.shaped_of_RefB (by kernel_rfl) (by kernel_rfl)) (by kernel_rfl) (by kernel_rfl) (by kernel_rfl) (door_met os _)) ?_
  intro W base args ds gs before hval0 hW hcnd hsz0 hL hlast
  have hval : ∀ (j : Nat) t v, Tryz.f3.params[j]? = some t → args[j]? = some v → Value.okWide Tryz.prog W .any base t v := hval0
  have hW' := hW
  obtain ⟨p, q, hA0, hV, rfl, hfz, hnd⟩ := hW
  have hA : DataW.TrodAll enc Tryz.prog W 0 (fun _ => true) true Tryz.f3.params.toList args.toList ds p := hA0
  rw [Tryz.params3] at hA hval
  obtain ⟨v0, vs0, d0, ds0, p0, q0, hargs, rfl, rfl, h0, r0⟩ := trodAll_cons hA
  obtain ⟨v1, vs1, d1, ds1, p1, q1, rfl, rfl, rfl, h1, r1⟩ := trodAll_cons r0
  obtain ⟨v2, vs2, d2, ds2, p2, q2, rfl, rfl, rfl, h2, r2⟩ := trodAll_cons r1
  obtain ⟨v3, vs3, d3, ds3, p3, q3, rfl, rfl, rfl, h3, r3⟩ := trodAll_cons r2
  obtain ⟨v4, vs4, d4, ds4, p4, q4, rfl, rfl, rfl, h4, r4⟩ := trodAll_cons r3
  obtain ⟨rfl, rfl, rfl⟩ := trodAll_nil r4
  obtain rfl : args = #[v0, v1, v2, v3, v4] := by cases args; simp_all
  obtain ⟨rfl, rfl⟩ := trodVars_none hV
  have h0' := h0
  have h1' := h1
  have h2' := h2
  have h3' := h3
  have h4' := h4
  have lt0 : ∀ x ∈ p0, x.block < W.heap.size := by obtain ⟨m, hm⟩ := h0; exact DataW.trod_lt m _ _ _ hm
  have lt1 : ∀ x ∈ p1, x.block < W.heap.size := by obtain ⟨m, hm⟩ := h1; exact DataW.trod_lt m _ _ _ hm
  have lt2 : ∀ x ∈ p2, x.block < W.heap.size := by obtain ⟨m, hm⟩ := h2; exact DataW.trod_lt m _ _ _ hm
  have lt3 : ∀ x ∈ p3, x.block < W.heap.size := by obtain ⟨m, hm⟩ := h3; exact DataW.trod_lt m _ _ _ hm
  have lt4 : ∀ x ∈ p4, x.block < W.heap.size := by obtain ⟨m, hm⟩ := h4; exact DataW.trod_lt m _ _ _ hm
  obtain ⟨u0, u1, y0, y1, m0, rfl, rfl, rfl, g0, g1⟩ := Joins.open_agg2 Tryz.underlying25 (by kernel_rfl) (by kernel_rfl) (hval 0 25 v0 rfl rfl) h0
  obtain ⟨k0, lenk, capk, rfl⟩ := okWide_slice Tryz.underlying26 (hval 1 26 v1 rfl rfl)
  obtain ⟨m1, hm1⟩ := id h1
  obtain ⟨vk, ks, hvk, hk⟩ := kinds_cells hm1
  obtain rfl : Value.slice k0 lenk capk = vk := by simpa [Value.cells] using hvk
  obtain ⟨m2, hm2⟩ := id h2
  obtain ⟨c, hc1, -, hc3⟩ := DataW.trod_int Tryz.underlying3 hm2
  obtain ⟨c', rfl⟩ := okWide_int Tryz.underlying3 (hval 2 3 v2 rfl rfl)
  obtain rfl : c' = c := by simpa [Value.cells] using hc1
  obtain ⟨m3, hm3⟩ := id h3
  obtain ⟨b, hb1, -, hb3⟩ := DataW.trod_int Tryz.underlying3 hm3
  obtain ⟨b', rfl⟩ := okWide_int Tryz.underlying3 (hval 3 3 v3 rfl rfl)
  obtain rfl : b' = b := by simpa [Value.cells] using hb1
  obtain ⟨x0, x1, z0, z1, m4, rfl, rfl, rfl, e0, e1⟩ := Joins.open_agg2 Tryz.underlying28 (by kernel_rfl) (by kernel_rfl) (hval 4 28 v4 rfl rfl) h4
  obtain ⟨i1, hi1, -, hi3⟩ := DataW.trod_int Tryz.underlying3 e0
  obtain rfl := one hi1
  obtain ⟨i2, hi4, -, hi6⟩ := DataW.trod_int Tryz.underlying2 e1
  obtain rfl := one hi4
  have hall := List.all_eq_true.1 hsz0
  have wp : ∀ n ∈ (DataW.agg [y0.1, y1.1] : DataW H).weights Tryz.prog 25, n ≤ reachBytes := fun n hn => by
    have := hall n (DataW.weights_mem_each (j := 0) (t := 25) (d := .agg [y0.1, y1.1]) (by rw [Tryz.params3]; rfl) rfl n hn)
    simpa using this
  have ws : Wts 22 y0 := fun n hn => wp n (by
    unfold DataW.weights
    have e := (show Tryz.checked.prog.underlying 25 = Tryz.prog.underlying 25 from rfl).trans Tryz.underlying25
    first | rw [e] | rw [Tryz.underlying25]
    exact DataW.weights_mem_each (j := 0) (t := 22) (d := y0.1) rfl rfl n hn)
  have wf : Wts 23 y1 := fun n hn => wp n (by
    unfold DataW.weights
    have e := (show Tryz.checked.prog.underlying 25 = Tryz.prog.underlying 25 from rfl).trans Tryz.underlying25
    first | rw [e] | rw [Tryz.underlying25]
    exact DataW.weights_mem_each (j := 1) (t := 23) (d := y1.1) rfl rfl n hn)
  have wk : Wts 26 (d1, p1) := fun n hn => by
    have := hall n (DataW.weights_mem_each (j := 1) (t := 26) (d := d1) (by rw [Tryz.params3]; rfl) rfl n hn)
    simpa using this
  obtain ⟨z, sys, hz, hS⟩ := syss_cells g0
  obtain rfl := one hz
  obtain ⟨z, fns, hz, hF, -, -⟩ := rts_cells g1 wf
  obtain rfl := one hz
  obtain ⟨sz1, sz2⟩ := syss_size g0 ws hS
  obtain ⟨sz3, sz4⟩ := rts_size g1 wf hF
  have sn1 := syss_names g0 ws hS
  have sn2 := rts_names g1 wf hF
  have szk := kinds_size (by simpa [Value.cells] using hm1) wk hk
  have hw : Tb W := tab_of_laid k4 (by rw [MakeChecks.laidMetH_plain _ _ _ plain] at hL; exact hL)
  have JD : Hid (JDp sys fns) := fun V sys' fns' Q' sa fa cs cf vk' ks' s1 s2 hc1 hc2 hc3 hc4 hS hF hk hz =>
    (dverify_any s1.1.symm s2.1.symm hc1 hc2 hc3 hc4 hS hF hk hz (fun s hs => by
      obtain ⟨i, hi, rfl⟩ := List.getElem_of_mem hs
      have hi' : i < sys.length := by rw [← s1.1]; exact hi
      obtain ⟨q1, q2⟩ := s1.2 i hi hi'
      rw [q1, q2]
      have := (sz2 _ (List.getElem_mem hi')).2.2.2.2
      exact ⟨sn1 _ (List.getElem_mem hi'), by omega⟩) (fun s hs => by
      obtain ⟨i, hi, rfl⟩ := List.getElem_of_mem hs
      have hi' : i < fns.length := by rw [← s2.1]; exact hi
      obtain ⟨q1, q2⟩ := s2.2 i hi hi'
      rw [q1, q2]
      have := sz4 _ (List.getElem_mem hi')
      exact ⟨sn2 _ (List.getElem_mem hi'), by omega⟩)).mono fun e w' ⟨⟨o, h1, h2⟩, h3⟩ => ⟨o, h1, h2, h3⟩
  clear hA0 hval0 hlast hcnd hsz0 hall wp ws wf wk
  refine (sayslaw_any c' b' i1 i2 hS hF hk hw szk ⟨i6_wf hi3, i6_wf hi6⟩ ⟨i6_wf hc3, i6_wf hb3⟩ sz1 sz3 sz2 sz4 JD).mono fun e W' ⟨he', bel⟩ => ?_
  subst he'
  exact ⟨_, rfl, _, _, _, [], _, [], hW', trodAll_mk1 (shut_bool Tryz.underlying4 _), (trodAll_cons_mk (Below.trod laidOutD (by kernel_rfl) (of_decide_eq_true (by kernel_rfl)) h0' bel lt0) (trodAll_cons_mk (Below.trod laidOutD (by kernel_rfl) (of_decide_eq_true (by kernel_rfl)) h1' bel lt1) (trodAll_cons_mk (Below.trod laidOutD (by kernel_rfl) (of_decide_eq_true (by kernel_rfl)) h2' bel lt2) (trodAll_cons_mk (Below.trod laidOutD (by kernel_rfl) (of_decide_eq_true (by kernel_rfl)) h3' bel lt3) (trodAll_cons_mk (Below.trod laidOutD (by kernel_rfl) (of_decide_eq_true (by kernel_rfl)) h4' bel lt4) trodAll_mk0))))), rfl, bel.frame _, fun h => by cases h⟩

theorem over : Rows.VerifySaysSaid :=
  OpenClaim.holds_of_wide 3 Tryz.f3 rfl rfl rfl rfl rfl rfl rfl ⟨rfl, rfl, rfl, rfl, rfl⟩ rfl rfl rfl rfl rfl (by kernel_rfl) Tryz.func3 (by kernel_rfl)
    (of_decide_eq_true (by kernel_rfl)) (by unfold Func.isWrapper; first | (rw [if_pos (by decide +kernel)]; kernel_rfl) | (rw [if_neg (by decide +kernel)]; exact ⟨rfl, rfl⟩))
    (fun os started H enc _ => lifted os started H enc)
end Go.Proofs.YtfkhhplcogedmaaGreatDoor.verifySays
namespace Go.Proofs.YtfkhhplcogedmaaGreatDoor
open Go
theorem verifySays_holds : Rows.VerifySaysCardSaid :=
  Claim7.holds_tied_plain_at .later [] [.data] true (true, "7bb211526c007b982bccf1fc6be30b048ee5d94eafa1b6ec1ae4a7dea5389f90") true
    verifySays.over (fun _ h => by cases h) (by kernel_rfl) (fun _ h => by cases h) verifySays_row_tie rfl ⟨rfl, rfl⟩ (by kernel_rfl) rfl
    (fun f fn hf hfn => by
      obtain rfl : f = 3 := Option.some.inj ((show Tryz.prog.funcNamed "hindcast/hindcastlaw15.VerifySays" = some 3 by kernel_rfl).symm.trans hf) |>.symm
      obtain rfl : fn = Tryz.f3 := (Option.some.inj (Tryz.func3.symm.trans hfn)).symm
      exact ⟨by kernel_rfl, fun j t ht => by
        rw [Tryz.params3] at ht
        match j, ht with
        | 0, ht => obtain rfl : (25 : TypeId) = t := by simpa using ht
                   exact (show Tryz.prog.wantsStandIn 25 = false by kernel_rfl)
        | 1, ht => obtain rfl : (26 : TypeId) = t := by simpa using ht
                   exact (show Tryz.prog.wantsStandIn 26 = false by kernel_rfl)
        | 2, ht => obtain rfl : (3 : TypeId) = t := by simpa using ht
                   exact (show Tryz.prog.wantsStandIn 3 = false by kernel_rfl)
        | 3, ht => obtain rfl : (3 : TypeId) = t := by simpa using ht
                   exact (show Tryz.prog.wantsStandIn 3 = false by kernel_rfl)
        | 4, ht => obtain rfl : (28 : TypeId) = t := by simpa using ht
                   exact (show Tryz.prog.wantsStandIn 28 = false by kernel_rfl)
        | k + 5, ht => simp at ht⟩)
    (by kernel_rfl)
#print axioms verifySays_holds
end Go.Proofs.YtfkhhplcogedmaaGreatDoor
