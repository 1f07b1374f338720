/-
  The pieces of a list are kept one by one. No walk in this text.
-/
import Derived.Test.YtkohlhnkaklnpaaSets
namespace Go.Proofs.Ytkohlhnkaklnpaa
open Go.RowKit
/-- What is touched when the first ones of a list are kept. -/
def Kt (K0 : Nat → Prop) (us : List Value) (i : Nat) : Nat → Prop := fun k => K0 k ∨ ∃ j, ∃ h : j < us.length, j < i ∧ us[j].ownBlock = some k
/-- The first ones of a list are kept. -/
def Kl (w0 wr : World) (B nk : Nat) (K0 : Nat → Prop) (us : List Value) (i : Nat) (vk : Value) : Prop :=
  Kz wr B (nk + 2 * i) (fun k => Kt K0 us i k ∨ (w0.heap.size ≤ k ∧ k < wr.heap.size)) vk ∧ Mv w0 wr (Kt K0 us i)
theorem Kl.start {w0 : World} {B nk : Nat} {K0 : Nat → Prop} {us : List Value} {vk : Value} (h : Kz w0 B nk K0 vk) : Kl w0 w0 B nk K0 us 0 vk := by
  obtain ⟨hs, h1, h2, h3, h4, h5⟩ := h
  refine ⟨⟨hs, h1, h2, fun k e => .inl (.inl (h3 k e)), fun x hx k e => .inl (.inl (h4 x hx k e)), fun k e => ?_⟩, Mv.refl _ _⟩
  rcases e with (e | ⟨j, _, hj, _⟩) | e
  · exact h5 k e
  · omega
  · omega
/-- The next one. -/
theorem Kl.step {w0 wr : World} {B nk i : Nat} {K0 : Nat → Prop} {us : List Value} {ds : List (List UInt8)} {vk : Value} (h : Kl w0 wr B nk K0 us i vk) (hp : Pieces w0 B us ds) (hi : i < us.length) (hK : ∀ k, K0 k → ∀ u ∈ us, u.ownBlock ≠ some k) (hB : B ≤ w0.heap.size) (hnk : nk + 2 * i ≤ 100000000) (hl : ∀ d ∈ ds, d.length ≤ 100000000) :
    Calls Try.prog 14 #[vk, us[i]] wr fun e w' => ∃ ao n c, e = .returned (.slice ao n c) ∧ Kl w0 w' B nk K0 us (i + 1) (.slice ao n c) := by
  obtain ⟨hz, hm⟩ := h
  have hid : i < ds.length := by rw [← hp.1]; exact hi
  have hpi := (hp.2.1 i hi hid).1
  have hsz := hm.2.2.2.1
  have hnot : ∀ k, us[i].ownBlock = some k → ¬ Kt K0 us i k := fun k e e' => by
    rcases e' with e' | ⟨j, hj, hji, e'⟩
    · exact hK k e' _ (List.getElem_mem hi) e
    · exact hp.2.2 j i hj hi (by omega) k e' e
  have hpr : Piece wr B us[i] ds[i] := hpi.on (fun k e => hm.2.2.2.2 k (hpi.block k e).2 (hnot k e))
  refine (keep_kz hz hpr (fun k e e' => ?_) (by omega) hnk (hl _ (List.getElem_mem hid))).mono ?_
  · rcases e' with e' | e'
    · exact hnot k e e'
    · have := (hpi.block k e).2
      omega
  · rintro e w' ⟨ao, n, c, rfl, hz', hm'⟩
    have hsz' := hm'.2.2.2.1
    obtain ⟨hs, q1, q2, q3, q4, q5⟩ := hz'
    have conv : ∀ k, ((Kt K0 us i k ∨ (w0.heap.size ≤ k ∧ k < wr.heap.size)) ∨ us[i].ownBlock = some k ∨ (wr.heap.size ≤ k ∧ k < w'.heap.size)) → Kt K0 us (i + 1) k ∨ (w0.heap.size ≤ k ∧ k < w'.heap.size) := fun k e => by
      rcases e with ((e | ⟨j, hj, hji, e⟩) | e) | e | e
      · exact .inl (.inl e)
      · exact .inl (.inr ⟨j, hj, by omega, e⟩)
      · exact .inr ⟨e.1, by omega⟩
      · exact .inl (.inr ⟨i, hi, by omega, e⟩)
      · exact .inr ⟨by omega, e.2⟩
    refine ⟨ao, n, c, rfl, ⟨hs, q1, by omega, fun k e => conv k (q3 k e), fun x hx k e => conv k (q4 x hx k e), fun k e => ?_⟩, (hm.mono (S' := Kt K0 us (i + 1)) (fun k _ e => ?_)).trans hm' (fun k hk e => ?_)⟩
    · rcases e with (e | ⟨j, hj, hji, e⟩) | e
      · exact q5 k (.inl (.inl (.inl e)))
      · by_cases hje : j = i
        · subst hje
          exact q5 k (.inr (.inl e))
        · exact q5 k (.inl (.inl (.inr ⟨j, hj, by omega, e⟩)))
      · exact ⟨by omega, e.2⟩
    · rcases e with e | ⟨j, hj, hji, e⟩
      · exact .inl e
      · exact .inr ⟨j, hj, by omega, e⟩
    · rcases e with ((e | ⟨j, hj, hji, e⟩) | e) | e
      · exact .inl e
      · exact .inr ⟨j, hj, by omega, e⟩
      · omega
      · exact .inr ⟨i, hi, by omega, e⟩
end Go.Proofs.Ytkohlhnkaklnpaa
