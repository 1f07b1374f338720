/-
  CodeBack, for every input: the row and its tied card.
-/
import Derived.Test.YtpolajoephjdhaaDoorRwK
import Derived.Test.YtpolajoephjdhaaDoorRwM
import Derived.Test.YtpolajoephjdhaaDoorBkK
namespace Go.Proofs.YtpolajoephjdhaaDoor.codeBack
open Go.ChangeShapes Go.WideShapes Go.ChangeAt Go.WideMaps Go.WideElems Go.RowKit
open Go.ChangeMaps (open_string shut_string)
theorem plain : (Rows.codeBackRow.laid.all fun x => x.2.handleName?.isNone) = true := by kernel_rfl
theorem k1 : Rows.codeBackRow.laid.filter (fun x => x.1 == "strconv.ErrRange") = [("strconv.ErrRange", Rows.laid_strconv_ErrRange)] := by kernel_rfl
theorem k2 : Rows.codeBackRow.laid.filter (fun x => x.1 == "strconv.ErrSyntax") = [("strconv.ErrSyntax", Rows.laid_strconv_ErrSyntax)] := by kernel_rfl
theorem k3 : Rows.codeBackRow.laid.filter (fun x => x.1 == "internal/strconv.uint64pow10") = [("internal/strconv.uint64pow10", Lib.tabData .u64 Lib.pow10Tab)] := by kernel_rfl
theorem k4 : Rows.codeBackRow.laid.filter (fun x => x.1 == "hindcast/code.rows") = [("hindcast/code.rows", Rows.laid_hindcast_code_rows)] := by kernel_rfl
/-- The door's own heap meets the condition. -/
theorem door_met (os : Os) (args : Array Value) : laidMetH Tryd.prog Rows.codeBackRow.laid ((World.doorLaid Tryd.prog 400 os).forCall (fun _ _ => 0) ⟨#[], args, []⟩).memory :=
  laidMetH_of_parts3 (fuel := 8) (laidMet_of_run' 8 (by kernel_rfl) (by kernel_rfl)) (by kernel_rfl) (by kernel_rfl)
theorem four {α : Type} {cs : Array α} {a b c d : α} (h : cs.size = 4) (h0 : cs.toList[0]? = some a) (h1 : cs.toList[1]? = some b) (h2 : cs.toList[2]? = some c) (h3 : cs.toList[3]? = some d) : cs = #[a, b, c, d] := by
  obtain ⟨c0, c1, c2, c3, rfl⟩ := Joins.array4 h
  simp at h0 h1 h2 h3
  rw [h0, h1, h2, h3]
theorem one {α : Type} {a b : α} (h : [a] = [b]) : a = b := by simpa using h

set_option maxRecDepth 100000 in
set_option maxHeartbeats 400000 in
theorem lifted (os : Os) (started : os.Started) (H : Type) (enc : TypeId × Value → H) :
    ReturnsInHanded {} Tryd.checked os 4 .any (fun w args => (Rows.codeBackSpec.pre enc Tryd.prog Tryd.f4 [] false w args ∧ laidMetH Tryd.prog Rows.codeBackRow.laid w) ∧ sizedMet enc Tryd.prog Tryd.f4 (OpenSpec.ofChange Rows.codeBackSpec) false w args)
      (Rows.codeBackSpec.post enc Tryd.prog Tryd.f4 false true false false) := by
  refine returnsInHanded_of_change_and (C := Tryd.checked) (X := fun w _ => laidMetH Tryd.prog Rows.codeBackRow.laid w) (fun _ _ _ hh h => h.of_heap hh) own started (by kernel_rfl) Tryd.func4
    (ChangeSpec.witness_shaped (enc := enc) (C := Tryd.checked) (os := os) (X := fun w _ => laidMetH Tryd.prog Rows.codeBackRow.laid w) false (World.doorLaid Tryd.prog 400 os) #[.agg #[.slice none 0 0, .slice none 0 0], .agg #[.string ByteArray.empty, .int .i64 0, .int .i64 0, .slice none 0 0], .slice none 0 0, .string ByteArray.empty] 8 rfl (World.shaped_of_RefB (by kernel_rfl) (by kernel_rfl)) (by kernel_rfl) (by kernel_rfl) (by kernel_rfl) (door_met os _)) ?_
  intro W base args ds gs before hval0 hW hcnd hsz0 hL hlast
  have hval : ∀ (j : Nat) t v, Tryd.f4.params[j]? = some t → args[j]? = some v → Value.okWide Tryd.prog W .any base t v := hval0
  have hW' := hW
  obtain ⟨p, q, hA0, hV, rfl, hfz, hnd⟩ := hW
  have hA : DataW.TrodAll enc Tryd.prog W 0 (fun _ => true) true Tryd.f4.params.toList args.toList ds p := hA0
  rw [Tryd.params4] at hA hval
  obtain ⟨v0, vs0, d0, ds0, p0, q0, hargs, rfl, rfl, h0, r0⟩ := trodAll_cons hA
  obtain ⟨v1, vs1, d1, ds1, p1, q1, rfl, rfl, rfl, h1, r1⟩ := trodAll_cons r0
  obtain ⟨v2, vs2, d2, ds2, p2, q2, rfl, rfl, rfl, h2, r2⟩ := trodAll_cons r1
  obtain ⟨v3, vs3, d3, ds3, p3, q3, rfl, rfl, rfl, h3, r3⟩ := trodAll_cons r2
  obtain ⟨rfl, rfl, rfl⟩ := trodAll_nil r3
  obtain rfl : args = #[v0, v1, v2, v3] := by cases args; simp_all
  obtain ⟨rfl, rfl⟩ := trodVars_none hV
  have h0' := h0
  have h1' := h1
  have h2' := h2
  have hwt2 : ∀ n ∈ d2.weights Tryd.prog 37, n ≤ reachBytes := fun n hn => by
    have := List.all_eq_true.1 hsz0 n (DataW.weights_mem_each (j := 2) (t := 37) (d := d2) (by rw [Tryd.params4]; rfl) rfl n hn)
    simpa using this
  have hwt3 : ∀ n ∈ d3.weights Tryd.prog 9, n ≤ reachBytes := fun n hn => by
    have := List.all_eq_true.1 hsz0 n (DataW.weights_mem_each (j := 3) (t := 9) (d := d3) (by rw [Tryd.params4]; rfl) rfl n hn)
    simpa using this
  have lt0 : ∀ x ∈ p0, x.block < W.heap.size := by obtain ⟨m, hm⟩ := h0; exact DataW.trod_lt m _ _ _ hm
  have lt1 : ∀ x ∈ p1, x.block < W.heap.size := by obtain ⟨m, hm⟩ := h1; exact DataW.trod_lt m _ _ _ hm
  have lt2 : ∀ x ∈ p2, x.block < W.heap.size := by obtain ⟨m, hm⟩ := h2; exact DataW.trod_lt m _ _ _ hm
  obtain ⟨s, rfl, rfl, rfl, hmax⟩ := open_string Tryd.underlying9 (hval 3 9 v3 rfl rfl) h3
  have hsl : s.size ≤ 140737488351232 := by
    have h9 := hwt3 s.data.toList.length (by unfold DataW.weights; exact List.mem_singleton.2 rfl)
    unfold reachBytes at h9
    rw [Array.length_toList] at h9
    exact Nat.le_trans h9 (by omega)
  obtain ⟨a0, len0, cap0, rfl⟩ := okWide_slice Tryd.underlying37 (hval 2 37 v2 rfl rfl)
  obtain ⟨m2, hm2⟩ := id h2
  obtain ⟨vb, b, hvb, hb, -, hbl⟩ := bytes_cells hm2 hwt2
  obtain rfl : Value.slice a0 len0 cap0 = vb := by simpa [Value.cells] using hvb
  obtain ⟨cs, rfl, hcs⟩ := okWide_struct Tryd.underlying30 (hval 1 30 v1 rfl rfl)
  obtain ⟨m1, hm1⟩ := id h1
  obtain ⟨r, vc, i1, i2, c0, c1, c2, c3, hil, -, -⟩ := rt_cells hm1
  obtain rfl : cs = #[.string r.name, .int .i64 r.pa, .int .i64 r.lo, vc] := four (hcs.trans (by kernel_rfl)) (by simpa [Value.cells] using c0) (by simpa [Value.cells] using c1) (by simpa [Value.cells] using c2) (by simpa [Value.cells] using c3)
  obtain ⟨u0, u1, y0, y1, m0, rfl, rfl, rfl, g0, g1⟩ := Joins.open_agg2 Tryd.underlying36 (by kernel_rfl) (by kernel_rfl) (hval 0 36 v0 rfl rfl) h0
  obtain ⟨z0, ls, e0, hs0⟩ := syss_cells g0
  obtain rfl := one e0
  have hwt0 : ∀ n ∈ y1.1.weights Tryd.prog 24, n ≤ reachBytes := fun n hn => by
    have := List.all_eq_true.1 hsz0 n (DataW.weights_mem_each (j := 0) (t := 36) (d := .agg [y0.1, y1.1]) (by rw [Tryd.params4]; rfl) rfl n (by
      unfold DataW.weights
      have e := (show Tryd.checked.prog.underlying 36 = Tryd.prog.underlying 36 from rfl).trans Tryd.underlying36
      rw [e]
      exact DataW.weights_mem_each (j := 1) (t := 24) (d := y1.1) rfl rfl n hn))
    simpa using this
  obtain ⟨z1, fs, e1, hr1, -, -⟩ := rts_cells g1 hwt0
  obtain rfl := one e1
  have hw := kd_of_laid plain k1 k2 k3 k4 hL
  clear hA0 hval0 hlast hcnd hsz0
  refine (back_any (p := ⟨ls, fs⟩) (s := s) ⟨hs0, hr1⟩ hil i1 i2 hb (by omega) (by omega) hw).mono fun e W' ⟨he, bel⟩ => ?_
  subst he
  exact ⟨_, rfl, _, _, _, [], _, [], hW', trodAll_mk1 (shut_bool Tryd.underlying4 _), (trodAll_cons_mk (Below.trod laidOutD (by kernel_rfl) (of_decide_eq_true (by kernel_rfl)) h0' bel lt0) (trodAll_cons_mk (Below.trod laidOutD (by kernel_rfl) (of_decide_eq_true (by kernel_rfl)) h1' bel lt1) (trodAll_cons_mk (Below.trod laidOutD (by kernel_rfl) (of_decide_eq_true (by kernel_rfl)) h2' bel lt2) (trodAll_cons_mk (shut_string Tryd.underlying9 hmax) trodAll_mk0)))), rfl, bel.frame _, fun h => by cases h⟩

theorem over : Rows.CodeBackSaid :=
  OpenClaim.holds_of_wide 4 Tryd.f4 rfl rfl rfl rfl rfl rfl rfl ⟨rfl, rfl, rfl, rfl, rfl⟩ rfl rfl rfl rfl rfl (by kernel_rfl) Tryd.func4 (by kernel_rfl)
    (of_decide_eq_true (by kernel_rfl)) (by unfold Func.isWrapper; first | (rw [if_pos (by decide +kernel)]; kernel_rfl) | (rw [if_neg (by decide +kernel)]; exact ⟨rfl, rfl⟩))
    (fun os started H enc _ => lifted os started H enc)
end Go.Proofs.YtpolajoephjdhaaDoor.codeBack
namespace Go.Proofs.YtpolajoephjdhaaDoor
open Go
theorem codeBack_holds : Rows.CodeBackCardSaid :=
  Claim7.holds_tied_plain_at .later [] [.data, .data, .data, .sentinel, .sentinel, .data] true (true, "8c5a227663f0c373da37a9383fdf55e8fe35d5c2e1dfe023172d65e33b48f309") true
    codeBack.over (fun _ h => by cases h) (by kernel_rfl) (fun _ h => by cases h) codeBack_row_tie rfl ⟨rfl, rfl⟩ (by kernel_rfl) rfl
    (fun f fn hf hfn => by
      obtain rfl : f = 4 := Option.some.inj ((show Tryd.prog.funcNamed "hindcast/hindcastlaw13.CodeBack" = some 4 by kernel_rfl).symm.trans hf) |>.symm
      obtain rfl : fn = Tryd.f4 := (Option.some.inj (Tryd.func4.symm.trans hfn)).symm
      exact ⟨by kernel_rfl, fun j t ht => by
        rw [Tryd.params4] at ht
        match j, ht with
        | 0, ht => obtain rfl : (36 : TypeId) = t := by simpa using ht
                   exact (show Tryd.prog.wantsStandIn 36 = false by kernel_rfl)
        | 1, ht => obtain rfl : (30 : TypeId) = t := by simpa using ht
                   exact (show Tryd.prog.wantsStandIn 30 = false by kernel_rfl)
        | 2, ht => obtain rfl : (37 : TypeId) = t := by simpa using ht
                   exact (show Tryd.prog.wantsStandIn 37 = false by kernel_rfl)
        | 3, ht => obtain rfl : (9 : TypeId) = t := by simpa using ht
                   exact (show Tryd.prog.wantsStandIn 9 = false by kernel_rfl)
        | k + 4, ht => simp at ht⟩)
    (by kernel_rfl)
#print axioms codeBack_holds
end Go.Proofs.YtpolajoephjdhaaDoor
