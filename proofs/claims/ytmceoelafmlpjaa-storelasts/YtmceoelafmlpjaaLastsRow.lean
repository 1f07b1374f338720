/-
  StoreLasts, for every input: the row.
-/
import Derived.Test.YtmceoelafmlpjaaOpen
import Derived.Test.YtmceoelafmlpjaaLasts
namespace Go.Proofs.Ytmceoelafmlpjaa.storeLasts
open Go.ChangeShapes Go.WideShapes Go.ChangeAt Go.RowKit

theorem three_cells {H : Type} {enc : TypeId × Value → H} {W : World} {fuel : Nat} {cs : List Value} {x : DataW H × List MemPlace} (hf : DataW.trod enc Try.prog W 0 (fun _ => true) true fuel 38 cs = some x) :
    ∃ f : Nat → Int, ∀ j, j < 3 → cs[j]? = some (.int .i64 (f j)) ∧ -9223372036854775808 ≤ f j ∧ f j ≤ 9223372036854775807 := by
  obtain ⟨xs, m, _, _, _, hxl, hx⟩ := DataW.trod_array Try.underlying38 hf
  have hc1 : Try.prog.cellsOf 3 = 1 := by kernel_rfl
  have each : ∀ j, j < 3 → ∃ n : Int, cs[j]? = some (.int .i64 n) ∧ -9223372036854775808 ≤ n ∧ n ≤ 9223372036854775807 := fun j hj => by
    have h1 := hx j hj
    rw [List.getElem?_eq_getElem (by omega), hc1, Nat.mul_one] at h1
    obtain ⟨n, hn, _, hw⟩ := DataW.trod_int Try.underlying3 h1
    refine ⟨n, ?_, ?_⟩
    · have h2 := congrArg (fun l => l[0]?) hn
      simpa [List.getElem?_take, List.getElem?_drop] using h2
    · simp [Lit.wf, IntKind.min, IntKind.max, IntKind.signed, IntKind.bits] at hw
      exact hw
  exact ⟨fun j => if h : j < 3 then Classical.choose (each j h) else 0, fun j h => by
    have := Classical.choose_spec (each j h)
    simpa only [dif_pos h] using this⟩
theorem steps_arg {H : Type} {enc : TypeId × Value → H} {W : World} {a0 : Option Addr} {len0 cap0 : Nat} {d0 : DataW H} {p0 : List MemPlace} (h0 : DataW.Trod enc Try.prog W 0 (fun _ => true) true 32 (.slice a0 len0 cap0) d0 p0) :
    ∃ z : Nat → Nat → Int, Ts W (.slice a0 len0 cap0) len0 z := by
  obtain ⟨fuel, hf⟩ := h0
  rcases DataW.trod_slice Try.underlying32 hf with ⟨hcs, _⟩ | ⟨a, len, cap, elems, rest, n, _, hcs, _, _, hl, hm, hlen, hel, _, _⟩
  · simp [Value.cells] at hcs
    obtain ⟨rfl, rfl, rfl⟩ := hcs
    exact ⟨fun _ _ => 0, none, 0, rfl, Nat.le_refl _, Nat.zero_le _, fun i hi => absurd hi (by simp)⟩
  · simp [Value.cells] at hcs
    obtain ⟨rfl, rfl, rfl⟩ := hcs
    have hc3 : Try.prog.cellsOf 38 = 3 := by kernel_rfl
    have each : ∀ i, i < len0 → ∃ f : Nat → Int, ∀ j, j < 3 → W.cell? ((a.add (i * 3)).add j) = some (.int .i64 (f j)) ∧ -9223372036854775808 ≤ f j ∧ f j ≤ 9223372036854775807 := fun i hi => by
      have h1 := hel i hi
      rw [List.getElem?_eq_getElem (by omega), hc3, Option.bind_eq_some_iff] at h1
      obtain ⟨cs', hcs', ht'⟩ := h1
      obtain ⟨f, hf'⟩ := three_cells ht'
      obtain ⟨_, _, hcell⟩ := World.cells?_some hcs'
      refine ⟨f, fun j hj => ⟨?_, (hf' j hj).2⟩⟩
      rw [hcell j hj]
      exact (hf' j hj).1
    have spot0 : 0 < len0 → ∃ b off, a = ⟨b, off, none⟩ := fun hp => by
      obtain ⟨f, hf'⟩ := each 0 hp
      have hc := (hf' 0 (by omega)).1
      obtain ⟨b, off, spot⟩ := a
      have hspot : spot = none := by simpa [Addr.add] using World.cell?_spot hc
      subst hspot
      exact ⟨b, off, rfl⟩
    obtain ⟨z, hz⟩ : ∃ z : Nat → Nat → Int, ∀ i, i < len0 → ∀ j, j < 3 → W.cell? ((a.add (i * 3)).add j) = some (.int .i64 (z i j)) ∧ -9223372036854775808 ≤ z i j ∧ z i j ≤ 9223372036854775807 :=
      ⟨fun i => if h : i < len0 then Classical.choose (each i h) else fun _ => 0, fun i h => by
        have := Classical.choose_spec (each i h)
        simpa only [dif_pos h] using this⟩
    refine ⟨z, some a, cap0, rfl, hl, hm, fun i hi => ?_⟩
    obtain ⟨b, off, rfl⟩ := spot0 (by omega)
    refine ⟨b, off, rfl, fun j hj => ?_⟩
    have := hz i hi j hj
    rwa [Go.WideShapes.add_plain, Go.WideShapes.add_plain] at this

set_option maxRecDepth 100000 in
theorem lifted (os : Os) (started : os.Started) (H : Type) (enc : TypeId × Value → H) :
    ReturnsInHanded {} Try.checked os 4 .any (Rows.storeLastsSpec.pre6 enc Try.prog Try.f4 Rows.storeLastsRow.domain false) (Rows.storeLastsSpec.post enc Try.prog Try.f4 false true false false) := by
  refine returnsInHanded_of_change_sized (C := Try.checked) own started (by kernel_rfl) Try.func4
    (ChangeSpec.witness6 (enc := enc) (C := Try.checked) false ⟨#[], #[.slice none 0 0, .slice none 0 0], []⟩ 8 (by kernel_rfl) (by kernel_rfl) (by kernel_rfl) (by kernel_rfl)) ?_
  intro W base args ds gs before hval0 hW hcnd hsz0 _
  have hval : ∀ (j : Nat) t v, Try.f4.params[j]? = some t → args[j]? = some v → Value.okWide Try.prog W .any base t v := hval0
  have hW' := hW
  obtain ⟨p, q, hA0, hV, rfl, hfz, hnd⟩ := hW
  have hA : DataW.TrodAll enc Try.prog W 0 (fun _ => true) true Try.f4.params.toList args.toList ds p := hA0
  rw [Try.params4] at hA hval
  obtain ⟨v0, vs0, d0, ds0, p0, q0, hargs, rfl, rfl, h0, r0⟩ := trodAll_cons hA
  obtain ⟨v1, vs1, d1, ds1, p1, q1, rfl, rfl, rfl, h1, r1⟩ := trodAll_cons r0
  obtain ⟨rfl, rfl, rfl⟩ := trodAll_nil r1
  obtain rfl : args = #[v0, v1] := by cases args; simp_all
  obtain ⟨rfl, rfl⟩ := trodVars_none hV
  obtain ⟨a0, len0, cap0, rfl⟩ := okWide_slice Try.underlying22 (hval 0 22 v0 rfl rfl)
  obtain ⟨a1, len1, cap1, rfl⟩ := okWide_slice Try.underlying32 (hval 1 32 v1 rfl rfl)
  have lt0 : ∀ x ∈ p0, x.block < W.heap.size := by obtain ⟨m, hm⟩ := h0; exact DataW.trod_lt m _ _ _ hm
  have lt1 : ∀ x ∈ p1, x.block < W.heap.size := by obtain ⟨m, hm⟩ := h1; exact DataW.trod_lt m _ _ _ hm
  obtain ⟨l0, _, hb0, hn0⟩ := bytes_arg h0
  obtain ⟨z, hz⟩ := steps_arg h1
  clear hA0 hval0
  refine (lasts_walk a0 len0 cap0 l0 _ len1 z W hb0 hn0 hz).mono fun e W' ⟨he, bel⟩ => ?_
  subst he
  exact ⟨_, rfl, _, _, _, [], _, [], hW', trodAll_mk1 (shut_bool Try.underlying4 _), (trodAll_cons_mk (Below.trod laidOut (by kernel_rfl) (of_decide_eq_true (by kernel_rfl)) h0 bel lt0) (trodAll_cons_mk (Below.trod laidOut (by kernel_rfl) (of_decide_eq_true (by kernel_rfl)) h1 bel lt1) trodAll_mk0)), rfl, bel.frame _, fun h => by cases h⟩

theorem over : Rows.storeLastsRow.holds Try.pinned (OpenSpec.ofChange Rows.storeLastsSpec) :=
  OpenClaim.holds_of_wide 4 Try.f4 rfl rfl rfl rfl rfl rfl rfl ⟨rfl, rfl, rfl, rfl, rfl⟩ rfl rfl rfl rfl rfl (by kernel_rfl) Try.func4 (by kernel_rfl)
    (of_decide_eq_true (by kernel_rfl)) (by unfold Func.isWrapper; first | (rw [if_pos (by decide +kernel)]; kernel_rfl) | (rw [if_neg (by decide +kernel)]; exact ⟨rfl, rfl⟩))
    (fun os started H enc _ => lifted os started H enc)
end Go.Proofs.Ytmceoelafmlpjaa.storeLasts
namespace Go.Proofs.Ytmceoelafmlpjaa
theorem storeLasts_holds : Rows.StoreLastsSaid := storeLasts.over
#print axioms storeLasts_holds
end Go.Proofs.Ytmceoelafmlpjaa
