/-
  DiceRolls, for every input: the row.
-/
import Derived.Test.YtihlhidpiehehaaRows
import Derived.Test.YtihlhidpiehehaaRls
import Derived.Test.YtihlhidpiehehaaMixesRow
import Derived.Lib.SmallJoins
namespace Go.Proofs.Ytihlhidpiehehaa
open Go.ChangeShapes Go.WideShapes Go.ChangeAt Go.RowKit
set_option maxRecDepth 100000
theorem cup_argR {H : Type} {enc : TypeId × Value → H} {W : World} {r : Reach} {b0 : Nat} {v : Value} {d : DataW H} {p : List MemPlace} (hv : Value.okWide Try.prog W r b0 27 v) (h : DataW.Trod enc Try.prog W 0 (fun _ => true) true 27 v d p) :
    ∃ c0 c1 c2 c3 : Int, v = .agg #[.int .i64 c0, .int .i64 c1, .int .i64 c2, .int .i64 c3] := by
  obtain ⟨v0, v1, v2, v3, y0, y1, y2, y3, n, rfl, -, -, h0, h1, h2, h3⟩ := Go.Joins.open_agg4 Try.underlying27 (by kernel_rfl) (by kernel_rfl) hv h
  obtain ⟨c0, e0, -⟩ := DataW.trod_int Try.underlying2 h0
  obtain ⟨c1, e1, -⟩ := DataW.trod_int Try.underlying3 h1
  obtain ⟨c2, e2, -⟩ := DataW.trod_int Try.underlying3 h2
  obtain ⟨c3, e3, -⟩ := DataW.trod_int Try.underlying3 h3
  simp only [List.cons.injEq, and_true] at e0 e1 e2 e3
  subst e0 e1 e2 e3
  exact ⟨c0, c1, c2, c3, rfl⟩
theorem int_at {H : Type} {enc : TypeId × Value → H} {W : World} {m j t : Nat} (ht : Try.prog.underlying t = some (.int .i64)) (hc1 : Try.prog.cellsOf t = 1) {cs : List Value} {y : DataW H × List MemPlace} (h : DataW.trod enc Try.prog W 0 (fun _ => true) true m t ((cs.drop j).take (Try.prog.cellsOf t)) = some y) : ∃ n : Int, cs[j]? = some (.int .i64 n) ∧ I6 n := by
  rw [hc1] at h
  obtain ⟨n, hn, _, hw⟩ := DataW.trod_int ht h
  refine ⟨n, ?_, ?_⟩
  · have h2 := congrArg (fun l => l[0]?) hn
    simpa [List.getElem?_take, List.getElem?_drop] using h2
  · simp [Lit.wf, IntKind.min, IntKind.max, IntKind.signed, IntKind.bits] at hw
    exact hw
theorem roll_cells {H : Type} {enc : TypeId × Value → H} {W : World} {fuel : Nat} {cs : List Value} {x : DataW H × List MemPlace} (hf : DataW.trod enc Try.prog W 0 (fun _ => true) true fuel 39 cs = some x) :
    ∃ d0 d1 d2 d3 d4 : Int, (cs[0]? = some (.int .i64 d0) ∧ cs[1]? = some (.int .i64 d1) ∧ cs[2]? = some (.int .i64 d2) ∧ cs[3]? = some (.int .i64 d3) ∧ cs[4]? = some (.int .i64 d4)) ∧ I6 d0 ∧ I6 d1 ∧ I6 d2 ∧ I6 d3 ∧ I6 d4 := by
  obtain ⟨xs, m, _, hx, _, hxl, hfs⟩ := DataW.trod_struct Try.underlying39 hf
  have hxl5 : xs.length = 5 := hxl
  have g0 := hfs 0 _ rfl
  have g1 := hfs 1 _ rfl
  have g2 := hfs 2 _ rfl
  have g3 := hfs 3 _ rfl
  have g4 := hfs 4 _ rfl
  rw [List.getElem?_eq_getElem (by omega)] at g0 g1 g2 g3 g4
  obtain ⟨a, k0, h0⟩ := int_at Try.underlying3 (by kernel_rfl) g0
  obtain ⟨b, k1, h1⟩ := int_at Try.underlying3 (by kernel_rfl) g1
  obtain ⟨c, k2, h2⟩ := int_at Try.underlying3 (by kernel_rfl) g2
  obtain ⟨d, k3, h3⟩ := int_at Try.underlying2 (by kernel_rfl) g3
  obtain ⟨e, k4, h4⟩ := int_at Try.underlying2 (by kernel_rfl) g4
  exact ⟨a, b, c, d, e, ⟨k0, k1, k2, k3, k4⟩, h0, h1, h2, h3, h4⟩
theorem rolls_arg {H : Type} {enc : TypeId × Value → H} {W : World} {a0 : Option Addr} {len0 cap0 : Nat} {d0 : DataW H} {p0 : List MemPlace} (h0 : DataW.Trod enc Try.prog W 0 (fun _ => true) true 28 (.slice a0 len0 cap0) d0 p0) : Ro W (.slice a0 len0 cap0) len0 := by
  obtain ⟨fuel, hf⟩ := h0
  rcases DataW.trod_slice Try.underlying28 hf with ⟨hcs, _⟩ | ⟨a, len, cap, elems, rest, n, _, hcs, hx, _, hl, hm, hlen, hel, _, _⟩
  · simp [Value.cells] at hcs
    obtain ⟨rfl, rfl, rfl⟩ := hcs
    exact ⟨none, 0, rfl, Nat.le_refl _, Nat.zero_le _, fun i hi => absurd hi (by omega)⟩
  · simp [Value.cells] at hcs
    obtain ⟨rfl, rfl, rfl⟩ := hcs
    have hc5 : Try.prog.cellsOf 39 = 5 := by kernel_rfl
    have spot0 : 0 < len0 → ∃ b off, a = ⟨b, off, none⟩ := fun hp => by
      have h1 := hel 0 hp
      rw [List.getElem?_eq_getElem (by omega), hc5, Option.bind_eq_some_iff] at h1
      obtain ⟨cs', hcs', ht'⟩ := h1
      obtain ⟨d0, d1, d2, d3, d4, ⟨k0, -⟩, -⟩ := roll_cells ht'
      obtain ⟨_, _, hcell⟩ := World.cells?_some hcs'
      have q0 := (hcell 0 (by omega)).trans k0
      obtain ⟨b, off, spot⟩ := a
      have hspot : spot = none := by simpa [Addr.add] using World.cell?_spot q0
      subst hspot
      exact ⟨b, off, rfl⟩
    refine ⟨some a, cap0, rfl, hl, hm, fun i hi => ?_⟩
    have h1 := hel i hi
    rw [List.getElem?_eq_getElem (by omega), hc5, Option.bind_eq_some_iff] at h1
    obtain ⟨cs', hcs', ht'⟩ := h1
    obtain ⟨d0, d1, d2, d3, d4, ⟨k0, k1, k2, k3, k4⟩, hok⟩ := roll_cells ht'
    obtain ⟨_, _, hcell⟩ := World.cells?_some hcs'
    have q0 := (hcell 0 (by omega)).trans k0
    have q1 := (hcell 1 (by omega)).trans k1
    have q2 := (hcell 2 (by omega)).trans k2
    have q3 := (hcell 3 (by omega)).trans k3
    have q4 := (hcell 4 (by omega)).trans k4
    obtain ⟨blk, off, rfl⟩ := spot0 (by omega)
    rw [Go.WideShapes.add_plain, Go.WideShapes.add_plain] at q0 q1 q2 q3 q4
    exact ⟨blk, off, d0, d1, d2, d3, d4, rfl, ⟨q0, q1, q2, q3, q4⟩, hok⟩
end Go.Proofs.Ytihlhidpiehehaa
namespace Go.Proofs.Ytihlhidpiehehaa.diceRolls
open Go.ChangeShapes Go.WideShapes Go.ChangeAt Go.RowKit
set_option maxRecDepth 100000 in
theorem lifted (os : Os) (started : os.Started) (H : Type) (enc : TypeId × Value → H) :
    ReturnsInHanded {} Try.checked os 4 .any (Rows.diceRollsSpec.pre6 enc Try.prog Try.f4 Rows.diceRollsRow.domain false) (Rows.diceRollsSpec.post enc Try.prog Try.f4 false true false false) := by
  refine returnsInHanded_of_change_sized (C := Try.checked) own started (by kernel_rfl) Try.func4
    (ChangeSpec.witness6 (enc := enc) (C := Try.checked) false ⟨#[], #[.agg #[.int .i64 0, .int .i64 0, .int .i64 0, .int .i64 0], .agg #[.int .i64 0, .int .i64 0, .int .i64 0, .int .i64 0], .slice none 0 0], []⟩ 8 (by kernel_rfl) (by kernel_rfl) (by kernel_rfl) (by kernel_rfl)) ?_
  intro W base args ds gs before hval0 hW hcnd hsz0 _
  have hval : ∀ (j : Nat) t v, Try.f4.params[j]? = some t → args[j]? = some v → Value.okWide Try.prog W .any base t v := hval0
  have hW' := hW
  obtain ⟨p, q, hA0, hV, rfl, hfz, hnd⟩ := hW
  have hA : DataW.TrodAll enc Try.prog W 0 (fun _ => true) true Try.f4.params.toList args.toList ds p := hA0
  rw [Try.params4] at hA hval
  obtain ⟨v0, vs0, d0, ds0, p0, q0, hargs, rfl, rfl, h0, r0⟩ := trodAll_cons hA
  obtain ⟨v1, vs1, d1, ds1, p1, q1, rfl, rfl, rfl, h1, r1⟩ := trodAll_cons r0
  obtain ⟨v2, vs2, d2, ds2, p2, q2, rfl, rfl, rfl, h2, r2⟩ := trodAll_cons r1
  obtain ⟨rfl, rfl, rfl⟩ := trodAll_nil r2
  obtain rfl : args = #[v0, v1, v2] := by cases args; simp_all
  obtain ⟨rfl, rfl⟩ := trodVars_none hV
  obtain ⟨a0, a1, a2, a3, rfl⟩ := cup_argR (hval 0 27 v0 rfl rfl) h0
  obtain ⟨b0, b1, b2, b3, rfl⟩ := cup_argR (hval 1 27 v1 rfl rfl) h1
  obtain ⟨ad2, len2, cap2, rfl⟩ := okWide_slice Try.underlying28 (hval 2 28 v2 rfl rfl)
  have lt0 : ∀ x ∈ p0, x.block < W.heap.size := by obtain ⟨m, hm⟩ := h0; exact DataW.trod_lt m _ _ _ hm
  have lt1 : ∀ x ∈ p1, x.block < W.heap.size := by obtain ⟨m, hm⟩ := h1; exact DataW.trod_lt m _ _ _ hm
  have lt2 : ∀ x ∈ p2, x.block < W.heap.size := by obtain ⟨m, hm⟩ := h2; exact DataW.trod_lt m _ _ _ hm
  have hro := rolls_arg h2
  clear hA0 hval0
  refine (rolls_walk a0 a1 a2 a3 b0 b1 b2 b3 _ len2 W hro).mono fun e W' ⟨he, bel⟩ => ?_
  subst he
  exact ⟨_, rfl, _, _, _, [], _, [], hW', trodAll_mk1 (shut_bool Try.underlying4 _), (trodAll_cons_mk (Below.trod laidOut (by kernel_rfl) (of_decide_eq_true (by kernel_rfl)) h0 bel lt0) (trodAll_cons_mk (Below.trod laidOut (by kernel_rfl) (of_decide_eq_true (by kernel_rfl)) h1 bel lt1) (trodAll_cons_mk (Below.trod laidOut (by kernel_rfl) (of_decide_eq_true (by kernel_rfl)) h2 bel lt2) trodAll_mk0))), rfl, bel.frame _, fun h => by cases h⟩

theorem over : Rows.diceRollsRow.holds Try.pinned (OpenSpec.ofChange Rows.diceRollsSpec) :=
  OpenClaim.holds_of_wide 4 Try.f4 rfl rfl rfl rfl rfl rfl rfl ⟨rfl, rfl, rfl, rfl, rfl⟩ rfl rfl rfl rfl rfl (by kernel_rfl) Try.func4 (by kernel_rfl)
    (of_decide_eq_true (by kernel_rfl)) (by unfold Func.isWrapper; first | (rw [if_pos (by decide +kernel)]; kernel_rfl) | (rw [if_neg (by decide +kernel)]; exact ⟨rfl, rfl⟩))
    (fun os started H enc _ => lifted os started H enc)
end Go.Proofs.Ytihlhidpiehehaa.diceRolls
namespace Go.Proofs.Ytihlhidpiehehaa
theorem diceRolls_holds : Rows.DiceRollsSaid := diceRolls.over
#print axioms diceRolls_holds
end Go.Proofs.Ytihlhidpiehehaa
