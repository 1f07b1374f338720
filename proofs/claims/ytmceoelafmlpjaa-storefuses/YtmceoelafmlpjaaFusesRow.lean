/-
  StoreFuses, for every input: the row.
-/
import Derived.Test.YtmceoelafmlpjaaOpen
import Derived.Test.YtmceoelafmlpjaaFuses
namespace Go.Proofs.Ytmceoelafmlpjaa.storeFuses
open Go.ChangeShapes Go.WideShapes Go.ChangeAt Go.RowKit

theorem bytes_cells {H : Type} {enc : TypeId × Value → H} {W : World} {fuel : Nat} {cs : List Value} {x : DataW H × List MemPlace} (hf : DataW.trod enc Try.prog W 0 (fun _ => true) true fuel 22 cs = some x) :
    ∃ ua un uc l, cs = [.slice ua un uc] ∧ Bs W (.slice ua un uc) l ∧ NilOr (.slice ua un uc) := by
  rcases open_ints Try.underlying22 Try.underlying5 (by kernel_rfl) hf with ⟨hcs, _⟩ | ⟨x, l, c, zs, hcs, _, hl, hm, hz, hx, hcell, hwz⟩
  · exact ⟨_, _, _, [], hcs, Bs.nil W, .inl rfl⟩
  · have hz' : zs.length = c := by simpa using hz
    obtain ⟨l0, hl0, hb0⟩ := bytes_of hl hm hz' hcell hwz
    exact ⟨_, _, _, l0, hcs, hb0, .inr ⟨_, _, _, rfl⟩⟩
theorem lists_arg {H : Type} {enc : TypeId × Value → H} {W : World} {a0 : Option Addr} {len0 cap0 : Nat} {d0 : DataW H} {p0 : List MemPlace} (h0 : DataW.Trod enc Try.prog W 0 (fun _ => true) true 46 (.slice a0 len0 cap0) d0 p0) :
    ∃ ls : List (List UInt8), Ls W (.slice a0 len0 cap0) ls := by
  obtain ⟨fuel, hf⟩ := h0
  rcases DataW.trod_slice Try.underlying46 hf with ⟨hcs, _⟩ | ⟨a, len, cap, elems, rest, n, _, hcs, _, _, hl, hm, hlen, hel, _, _⟩
  · simp [Value.cells] at hcs
    obtain ⟨rfl, rfl, rfl⟩ := hcs
    exact ⟨[], none, 0, rfl, Nat.le_refl _, Nat.zero_le _, fun i hi => absurd hi (by simp)⟩
  · simp [Value.cells] at hcs
    obtain ⟨rfl, rfl, rfl⟩ := hcs
    have hc1 : Try.prog.cellsOf 22 = 1 := by kernel_rfl
    have spot0 : 0 < len0 → ∃ b off, a = ⟨b, off, none⟩ := fun hp => by
      have h1 := hel 0 hp
      rw [List.getElem?_eq_getElem (by omega), hc1, Nat.mul_one, Option.bind_eq_some_iff] at h1
      obtain ⟨cs', hcs', ht'⟩ := h1
      obtain ⟨ua, un, uc, l, rfl, _, _⟩ := bytes_cells ht'
      have hc := cell_of_cells?_one hcs'
      obtain ⟨b, off, spot⟩ := a
      have hspot : spot = none := by simpa [Addr.add] using World.cell?_spot hc
      subst hspot
      exact ⟨b, off, rfl⟩
    have each : ∀ i, i < len0 → ∃ l : List UInt8, ∃ g o ua un uc, some a = some (⟨g, o, none⟩ : Addr) ∧ W.cell? ⟨g, o + i, none⟩ = some (.slice ua un uc) ∧ Bs W (.slice ua un uc) l ∧ NilOr (.slice ua un uc) := fun i hi => by
      have h1 := hel i hi
      rw [List.getElem?_eq_getElem (by omega), hc1, Nat.mul_one, Option.bind_eq_some_iff] at h1
      obtain ⟨cs', hcs', ht'⟩ := h1
      obtain ⟨ua, un, uc, l, rfl, hbs, hn⟩ := bytes_cells ht'
      have hc := cell_of_cells?_one hcs'
      obtain ⟨b, off, rfl⟩ := spot0 (by omega)
      rw [Go.WideShapes.add_plain] at hc
      exact ⟨l, b, off, ua, un, uc, rfl, hc, hbs, hn⟩
    obtain ⟨f, hf'⟩ : ∃ f : Nat → List UInt8, ∀ i, i < len0 → ∃ g o ua un uc, some a = some (⟨g, o, none⟩ : Addr) ∧ W.cell? ⟨g, o + i, none⟩ = some (.slice ua un uc) ∧ Bs W (.slice ua un uc) (f i) ∧ NilOr (.slice ua un uc) :=
      ⟨fun i => if h : i < len0 then Classical.choose (each i h) else [], fun i h => by
        have := Classical.choose_spec (each i h)
        simpa only [dif_pos h] using this⟩
    refine ⟨(List.range len0).map f, some a, cap0, by simp, by simpa using hl, hm, fun i hi => ?_⟩
    have hi' : i < len0 := by simpa using hi
    have := hf' i hi'
    simpa using this

set_option maxRecDepth 100000 in
theorem lifted (os : Os) (started : os.Started) (H : Type) (enc : TypeId × Value → H) :
    ReturnsInHanded {} Try.checked os 5 .any (Rows.storeFusesSpec.pre6 enc Try.prog Try.f5 Rows.storeFusesRow.domain false) (Rows.storeFusesSpec.post enc Try.prog Try.f5 false true false false) := by
  refine returnsInHanded_of_change_sized (C := Try.checked) own started (by kernel_rfl) Try.func5
    (ChangeSpec.witness6 (enc := enc) (C := Try.checked) false ⟨#[], #[.int .i64 0, .slice none 0 0], []⟩ 8 (by kernel_rfl) (by kernel_rfl) (by kernel_rfl) (by kernel_rfl)) ?_
  intro W base args ds gs before hval0 hW hcnd hsz0 _
  have hval : ∀ (j : Nat) t v, Try.f5.params[j]? = some t → args[j]? = some v → Value.okWide Try.prog W .any base t v := hval0
  have hW' := hW
  obtain ⟨p, q, hA0, hV, rfl, hfz, hnd⟩ := hW
  have hA : DataW.TrodAll enc Try.prog W 0 (fun _ => true) true Try.f5.params.toList args.toList ds p := hA0
  rw [Try.params5] at hA hval
  obtain ⟨v0, vs0, d0, ds0, p0, q0, hargs, rfl, rfl, h0, r0⟩ := trodAll_cons hA
  obtain ⟨v1, vs1, d1, ds1, p1, q1, rfl, rfl, rfl, h1, r1⟩ := trodAll_cons r0
  obtain ⟨rfl, rfl, rfl⟩ := trodAll_nil r1
  obtain rfl : args = #[v0, v1] := by cases args; simp_all
  obtain ⟨rfl, rfl⟩ := trodVars_none hV
  obtain ⟨a0, rfl, rfl, rfl, w0⟩ := open_int Try.underlying3 (hval 0 3 v0 rfl rfl) h0
  obtain ⟨a1, len1, cap1, rfl⟩ := okWide_slice Try.underlying46 (hval 1 46 v1 rfl rfl)
  have lt1 : ∀ x ∈ p1, x.block < W.heap.size := by obtain ⟨m, hm⟩ := h1; exact DataW.trod_lt m _ _ _ hm
  have e0 : -9223372036854775808 ≤ a0 ∧ a0 ≤ 9223372036854775807 := by
    have := w0
    simp [Lit.wf, IntKind.min, IntKind.max, IntKind.signed, IntKind.bits] at this
    exact this
  obtain ⟨l1, hb1⟩ := lists_arg h1
  clear hA0 hval0
  refine (fuses_walk a0 _ l1 W hb1 e0.1 e0.2).mono fun e W' ⟨he, bel⟩ => ?_
  subst he
  exact ⟨_, rfl, _, _, _, [], _, [], hW', trodAll_mk1 (shut_bool Try.underlying4 _), (trodAll_cons_mk (shut_int Try.underlying3 w0) (trodAll_cons_mk (Below.trod laidOut (by kernel_rfl) (of_decide_eq_true (by kernel_rfl)) h1 bel lt1) trodAll_mk0)), rfl, bel.frame _, fun h => by cases h⟩

theorem over : Rows.storeFusesRow.holds Try.pinned (OpenSpec.ofChange Rows.storeFusesSpec) :=
  OpenClaim.holds_of_wide 5 Try.f5 rfl rfl rfl rfl rfl rfl rfl ⟨rfl, rfl, rfl, rfl, rfl⟩ rfl rfl rfl rfl rfl (by kernel_rfl) Try.func5 (by kernel_rfl)
    (of_decide_eq_true (by kernel_rfl)) (by unfold Func.isWrapper; first | (rw [if_pos (by decide +kernel)]; kernel_rfl) | (rw [if_neg (by decide +kernel)]; exact ⟨rfl, rfl⟩))
    (fun os started H enc _ => lifted os started H enc)
end Go.Proofs.Ytmceoelafmlpjaa.storeFuses
namespace Go.Proofs.Ytmceoelafmlpjaa
theorem storeFuses_holds : Rows.StoreFusesSaid := storeFuses.over
#print axioms storeFuses_holds
end Go.Proofs.Ytmceoelafmlpjaa
