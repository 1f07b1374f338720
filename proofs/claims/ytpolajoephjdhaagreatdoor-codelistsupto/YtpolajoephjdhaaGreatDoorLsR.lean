/-
  CodeLists, up to its bulk: the row and its tied card.
-/
import Derived.Test.YtpolajoephjdhaaGreatDoorRwM
import Derived.Test.YtpolajoephjdhaaGreatDoorWdM
import Derived.Test.YtpolajoephjdhaaGreatDoorLsS
import Derived.Deep.DeepHandedRow
import Derived.Deep.DeepWitnessRowRef
namespace Go.Proofs.YtpolajoephjdhaaGreatDoor
open Go.ChangeShapes Go.WideShapes Go.ChangeAt Go.RowKit
theorem bulk_one {H : Type} (d : DataW H) : 1 ≤ Rows.uptoBulk d := by
  cases d with
  | lit l => cases l <;> simp [Rows.uptoBulk]
  | _ => simp [Rows.uptoBulk]
theorem bulk_len {H : Type} : ∀ l : List (DataW H), l.length ≤ Rows.uptoBulkAll l
  | [] => by simp [Rows.uptoBulkAll]
  | x :: r => by
    have h1 := bulk_one x
    have h2 := bulk_len r
    simp only [Rows.uptoBulkAll, List.length_cons]
    omega
/-- A list of instructions that comes in, and how long it is. -/
theorem code_bulk {H : Type} {enc : TypeId × Value → H} {W : World} {m : Nat} {cs : List Value} {y : DataW H × List MemPlace} (h : DataW.trod enc Tryz.prog W 0 (fun _ => true) true m 43 cs = some y) : ∃ a len cap, cs = [.slice a len cap] ∧ len + 1 ≤ Rows.uptoBulk y.1 := by
  rcases DataW.trod_slice Tryz.underlying43 h with ⟨rfl, rfl⟩ | ⟨a, len, cap, elems, rest, n, _, rfl, hx, _, hl, hm, hlen, hel, _, _⟩
  · exact ⟨_, _, _, rfl, by simp [Rows.uptoBulk]⟩
  · refine ⟨_, _, _, rfl, ?_⟩
    rw [hx]
    have h1 := bulk_len (elems.map (·.1))
    rw [List.length_map] at h1
    simp only [Rows.uptoBulk]
    omega
theorem rt_bulk {H : Type} {enc : TypeId × Value → H} {W : World} {m : Nat} {cs : List Value} {y : DataW H × List MemPlace} (h : DataW.trod enc Tryz.prog W 0 (fun _ => true) true m 45 cs = some y) : ∃ a len cap, cs[3]? = some (.slice a len cap) ∧ len ≤ Rows.uptoBulk y.1 := by
  have cC : Tryz.prog.cellsOf 43 = 1 := by kernel_rfl
  obtain ⟨y0, y1, y2, y3, n, hy, -, f0, f1, f2, f3⟩ := Joins.trod_struct4 Tryz.underlying45 h
  obtain ⟨a, len, cap, c1, c2⟩ := code_bulk f3
  refine ⟨a, len, cap, ?_, ?_⟩
  · have hd : (cs.drop 3).take (Tryz.prog.cellsOf 43) = [.slice a len cap] := c1
    rw [cC] at hd
    have h2 := congrArg (fun l => l[0]?) hd
    simpa [List.getElem?_take, List.getElem?_drop] using h2
  · rw [hy]
    simp only [Rows.uptoBulk, Rows.uptoBulkAll]
    omega
end Go.Proofs.YtpolajoephjdhaaGreatDoor
namespace Go.Proofs.YtpolajoephjdhaaGreatDoor.codeLists
open Go.ChangeShapes Go.WideShapes Go.ChangeAt Go.WideMaps Go.WideElems Go.RowKit
open Go.ChangeMaps (open_string shut_string)
theorem plain : (Rows.codeListsUptoRow.laid.all fun x => x.2.handleName?.isNone) = true := by kernel_rfl
theorem k1 : Rows.codeListsUptoRow.laid.filter (fun x => x.1 == "strconv.ErrRange") = [("strconv.ErrRange", Rows.laid_strconv_ErrRange)] := by kernel_rfl
theorem k2 : Rows.codeListsUptoRow.laid.filter (fun x => x.1 == "strconv.ErrSyntax") = [("strconv.ErrSyntax", Rows.laid_strconv_ErrSyntax)] := by kernel_rfl
theorem k3 : Rows.codeListsUptoRow.laid.filter (fun x => x.1 == "internal/strconv.uint64pow10") = [("internal/strconv.uint64pow10", Lib.tabData .u64 Lib.pow10Tab)] := by kernel_rfl
theorem k4 : Rows.codeListsUptoRow.laid.filter (fun x => x.1 == "hindcast/code.rows") = [("hindcast/code.rows", Rows.laid_hindcast_code_rows)] := by kernel_rfl
/-- The door's own heap meets the condition. -/
theorem door_met (os : Os) (args : Array Value) : laidMetH Tryz.prog Rows.codeListsUptoRow.laid ((World.doorLaid Tryz.prog 400 os).forCall (fun _ _ => 0) ⟨#[], args, []⟩).memory :=
  laidMetH_of_parts3 (fuel := 8) (laidMet_of_run' 8 (by kernel_rfl) (by kernel_rfl)) (by kernel_rfl) (by kernel_rfl)
theorem four {α : Type} {cs : Array α} {a b c d : α} (h : cs.size = 4) (h0 : cs.toList[0]? = some a) (h1 : cs.toList[1]? = some b) (h2 : cs.toList[2]? = some c) (h3 : cs.toList[3]? = some d) : cs = #[a, b, c, d] := by
  obtain ⟨c0, c1, c2, c3, rfl⟩ := Joins.array4 h
  simp at h0 h1 h2 h3
  rw [h0, h1, h2, h3]
theorem reads (os : Os) {H : Type} (enc : TypeId × Value → H) : ∃ places, DataW.whole enc Tryz.prog ((World.doorLaid Tryz.prog 400 os).forCall (fun _ _ => 0) ⟨#[], #[.agg #[.string ByteArray.empty, .int .i64 0, .int .i64 0, .slice none 0 0], .string ByteArray.empty], []⟩).memory Tryz.f5.params.toList Rows.codeListsSpec.vars false (#[.agg #[.string ByteArray.empty, .int .i64 0, .int .i64 0, .slice none 0 0], .string ByteArray.empty] : Array Value).toList 8 = some ([.agg [.lit (.string []), .lit (.int .i64 0), .lit (.int .i64 0), .nil], .lit (.string [])], [], places) :=
  ⟨[], by kernel_rfl⟩

set_option maxRecDepth 100000 in
set_option maxHeartbeats 400000 in
theorem liftedUpto (os : Os) (started : os.Started) (H : Type) (enc : TypeId × Value → H) (F : Stop.Interp) :
    ReturnsInHanded {} Tryz.checked os 5 .any ((Rows.OpenSpec.upto Rows.codeListsSpec).preRow enc Tryz.prog Tryz.f5 Rows.codeListsUptoRow.domain false Rows.codeListsUptoRow.laid) (((Rows.OpenSpec.upto Rows.codeListsSpec).at F).post enc Tryz.prog Tryz.f5 false true false false) := by
  obtain ⟨places, hx⟩ := reads os enc
  refine returnsInHanded_of_row (C := Tryz.checked) (s := Rows.OpenSpec.upto Rows.codeListsSpec) own started (by kernel_rfl) Tryz.func5
    (witness_row_atRef (enc := enc) (C := Tryz.checked) false (World.doorLaid Tryz.prog 400 os) #[.agg #[.string ByteArray.empty, .int .i64 0, .int .i64 0, .slice none 0 0], .string ByteArray.empty] rfl (by kernel_rfl) (by kernel_rfl) (by kernel_rfl)
      (OpenSpec.preRow_of_cond 8 hx (by kernel_rfl) (fun k hk => by cases hk; kernel_rfl) (by kernel_rfl) (door_met os _))) ?_
  intro W base args ds gs before hval0 hW _ hcond _ hL _ _
  have hval : ∀ (j : Nat) t v, Tryz.f5.params[j]? = some t → args[j]? = some v → Value.okWide Tryz.prog W .any base t v := hval0
  have hW' := hW
  obtain ⟨p, q, hA0, hV, rfl, hfz, hnd⟩ := hW
  have hA : DataW.TrodAll enc Tryz.prog W 0 (fun _ => true) true Tryz.f5.params.toList args.toList ds p := hA0
  rw [Tryz.params5] at hA hval
  obtain ⟨v0, vs0, d0, ds0, p0, q0, hargs, rfl, rfl, h0, r0⟩ := trodAll_cons hA
  obtain ⟨v1, vs1, d1, ds1, p1, q1, rfl, rfl, rfl, h1, r1⟩ := trodAll_cons r0
  obtain ⟨rfl, rfl, rfl⟩ := trodAll_nil r1
  obtain rfl : args = #[v0, v1] := by cases args; simp_all
  obtain ⟨rfl, rfl⟩ := trodVars_none hV
  have hbk : Rows.uptoBulkAll [d0, d1] ≤ 1048576 := of_decide_eq_true (hcond _ rfl)
  simp only [Rows.uptoBulkAll] at hbk
  have h0' := h0
  have lt0 : ∀ x ∈ p0, x.block < W.heap.size := by obtain ⟨m, hm⟩ := h0; exact DataW.trod_lt m _ _ _ hm
  obtain ⟨s, rfl, rfl, rfl, hmax⟩ := open_string Tryz.underlying9 (hval 1 9 v1 rfl rfl) h1
  have hsl : s.size ≤ 1048576 := by
    have h9 : Rows.uptoBulk (DataW.lit (H := H) (.string s.data.toList)) = s.data.toList.length + 1 := by simp [Rows.uptoBulk]
    rw [h9, Array.length_toList] at hbk
    show s.data.size ≤ 1048576
    omega
  obtain ⟨cs, rfl, hcs⟩ := okWide_struct Tryz.underlying45 (hval 0 45 v0 rfl rfl)
  obtain ⟨m0, hm0⟩ := id h0
  obtain ⟨r, vc, i1, i2, c0, c1, c2, c3, hil, -, hnm⟩ := rt_cells hm0
  obtain ⟨a, len, cap, e3, hlen⟩ := rt_bulk hm0
  obtain rfl : Value.slice a len cap = vc := Option.some.inj (e3.symm.trans c3)
  obtain rfl : cs = #[.string r.name, .int .i64 r.pa, .int .i64 r.lo, .slice a len cap] := four (hcs.trans (by kernel_rfl)) (by simpa [Value.cells] using c0) (by simpa [Value.cells] using c1) (by simpa [Value.cells] using c2) (by simpa [Value.cells] using c3)
  obtain ⟨ao', c', ee, hc1, hc2⟩ := hil.at
  injection ee with e4 e5 e6
  subst e4 e6
  have hw := kd_of_laid plain k1 k2 k3 k4 hL
  clear hA0 hval0
  have hz : len ≤ 1048576 := by dsimp only at hlen; omega
  refine (lists_at (W := W) r.name r.pa r.lo r.code s e5 (by omega) hc2 hil (fun j e => e) i1 i2 hz hsl (by unfold maxLen at hnm; omega) hw).mono fun e W' ⟨he, bel⟩ => ?_
  subst he
  exact ⟨_, rfl, _, _, _, [], _, [], hW', trodAll_mk1 (shut_bool Tryz.underlying4 _), (trodAll_cons_mk (Below.trod laidOutD (by kernel_rfl) (of_decide_eq_true (by kernel_rfl)) h0' bel lt0) (trodAll_cons_mk (shut_string Tryz.underlying9 hmax) trodAll_mk0)), rfl, bel.frame _, fun h => by cases h⟩

theorem overUpto : Rows.CodeListsUptoSaid :=
  OpenClaim.holds_of_cond 5 Tryz.f5 rfl rfl rfl rfl rfl rfl rfl ⟨rfl, rfl, rfl, rfl, rfl⟩ rfl rfl rfl rfl rfl (by kernel_rfl) Tryz.func5 (by kernel_rfl)
    (of_decide_eq_true (by kernel_rfl)) (by unfold Func.isWrapper; first | (rw [if_pos (by decide +kernel)]; kernel_rfl) | (rw [if_neg (by decide +kernel)]; exact ⟨rfl, rfl⟩))
    (fun os started H enc _ F => by rw [OpenClaim.pre_eq_preRow]; exact liftedUpto os started H enc F)
end Go.Proofs.YtpolajoephjdhaaGreatDoor.codeLists
namespace Go.Proofs.YtpolajoephjdhaaGreatDoor
open Go
theorem codeListsUpto_holds : Rows.CodeListsUptoCardSaid :=
  Claim7.holds_tied_plain_at .later [] _ _ _ _
    codeLists.overUpto (fun _ h => by cases h) (by kernel_rfl) (fun _ h => by cases h) codeListsUpto_row_tie rfl ⟨rfl, rfl⟩ (by kernel_rfl) rfl
    (fun f fn hf hfn => by
      obtain rfl : f = 5 := Option.some.inj ((show Tryz.prog.funcNamed "hindcast/hindcastlaw13.CodeLists" = some 5 by kernel_rfl).symm.trans hf) |>.symm
      obtain rfl : fn = Tryz.f5 := (Option.some.inj (Tryz.func5.symm.trans hfn)).symm
      exact ⟨by kernel_rfl, fun j t ht => by
        rw [Tryz.params5] at ht
        match j, ht with
        | 0, ht => obtain rfl : (45 : TypeId) = t := by simpa using ht
                   exact (show Tryz.prog.wantsStandIn 45 = false by kernel_rfl)
        | 1, ht => obtain rfl : (9 : TypeId) = t := by simpa using ht
                   exact (show Tryz.prog.wantsStandIn 9 = false by kernel_rfl)
        | k + 2, ht => simp at ht⟩)
    (by kernel_rfl)
#print axioms codeListsUpto_holds
end Go.Proofs.YtpolajoephjdhaaGreatDoor
