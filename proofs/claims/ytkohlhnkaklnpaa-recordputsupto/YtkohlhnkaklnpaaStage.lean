/-
  One keep behind the other: what has come out and is not yet written over stays.
-/
import Derived.Test.YtkohlhnkaklnpaaKeepW
namespace Go.Proofs.Ytkohlhnkaklnpaa
open Go.RowKit
/-- Where the keeps stand: 'used' are written over already. -/
def Sg (W0 W : World) (B : Nat) (vk : Value) (hs : List (Value × Nat)) (used : List Value) : Prop :=
  Kept W B vk hs ∧ (∀ g, vk.ownBlock = some g → W0.heap.size ≤ g) ∧ (∀ h ∈ hs, ∀ g, h.1.ownBlock = some g → W0.heap.size ≤ g ∨ ∃ u ∈ used, u.ownBlock = some g) ∧
  (W.os = W0.os ∧ W.tape = W0.tape ∧ W.output = W0.output ∧ W0.heap.size ≤ W.heap.size) ∧ ∀ k, k < W0.heap.size → (∀ u ∈ used, u.ownBlock ≠ some k) → W.heap[k]? = W0.heap[k]?
theorem Sg.start (W0 : World) (B : Nat) : Sg W0 W0 B (.slice none 0 0) [] [] :=
  ⟨⟨World.ownsRow_nil _ _ _ _, fun h hh => absurd hh (by simp)⟩, fun g h => by simp [Value.ownBlock] at h, fun h hh => absurd hh (by simp), ⟨rfl, rfl, rfl, Nat.le_refl _⟩, fun _ _ _ => rfl⟩
theorem Sg.own {W0 W : World} {B Bv e s n : Nat} {vk v : Value} {hs : List (Value × Nat)} {used : List Value} {xs : List Value} (h : Sg W0 W B vk hs used) (hv : W0.ownsRow Bv e s v n xs) (hu : ∀ u ∈ used, Ap v u) : W.ownsRow Bv e s v n xs := by
  refine ⟨hv.1, ?_⟩
  rcases hv.2 with h0 | ⟨g, cap, cur, rfl, hb, hg, hr⟩
  · exact .inl h0
  · exact .inr ⟨g, cap, cur, rfl, hb, (h.2.2.2.2 g (Array.getElem?_eq_some_iff.1 hg).1 (fun u hu' e => hu u hu' g rfl e)).trans hg, hr⟩
theorem Sg.below {W0 W w : World} {B B0 : Nat} {vk : Value} {hs : List (Value × Nat)} {used : List Value} (h : Sg W0 W B vk hs used) (h0 : Below B0 w W0) (hB : B0 ≤ W0.heap.size) (hu : ∀ u ∈ used, ∀ g, u.ownBlock = some g → B0 ≤ g) : Below B0 w W :=
  h0.trans ⟨h.2.2.2.1.1, h.2.2.2.1.2.1, h.2.2.2.1.2.2.1, h.2.2.2.1.2.2.2, fun k hk => h.2.2.2.2 k (Nat.lt_of_lt_of_le hk hB) (fun u hu' e => by have := hu u hu' k e; omega)⟩
theorem Sg.step {W0 W : World} {B Bv n : Nat} {vk v : Value} {hs : List (Value × Nat)} {used : List Value} {xs : List Value} (h : Sg W0 W B vk hs used) (hlen : hs.length ≤ 1000000) (hv : W0.ownsRow Bv 5 1 v n xs) (hu : ∀ u ∈ used, Ap v u) (hB : B ≤ W0.heap.size) (hBv : Bv ≤ W0.heap.size) (hn : n + 64 ≤ 140737488355328) :
    Calls Try.prog 14 #[vk, v] W fun e w' => ∃ vk' hs', e = .returned vk' ∧ hs'.length = hs.length + 2 ∧ Sg W0 w' B vk' hs' (v :: used) := by
  have hvW := h.own hv hu
  have hvlt := hv.lt
  obtain ⟨hk, h2, h3, ⟨o1, o2, o3, o4⟩, h5⟩ := id h
  refine (keep_any B Bv n vk v hs xs W hk hlen hvW (fun g g1 g2 => by have := (hvlt g g1).2; have := h2 g g2; omega) (fun x hx g g1 g2 => ?_) (by omega) (by omega) hn).mono ?_
  · rcases h3 x hx g g1 with hh | ⟨u, hu', hh⟩
    · have := (hvlt g g2).2
      omega
    · exact hu u hu' g g2 hh
  · rintro e w' ⟨vk', c, m, rfl, hk', hc, hvk', hF⟩
    refine ⟨vk', _, rfl, by simp, hk', fun g hg => ?_, fun x hx g hg => ?_, ⟨hF.1.trans o1, hF.2.1.trans o2, hF.2.2.1.trans o3, Nat.le_trans o4 hF.2.2.2.1⟩, fun k hk hnu => ?_⟩
    · rcases hvk' g hg with hh | hh
      · exact h2 g hh
      · omega
    · rw [List.mem_append] at hx
      rcases hx with hx | hx
      · rcases h3 x hx g hg with hh | ⟨u, hu', hh⟩
        · exact .inl hh
        · exact .inr ⟨u, by simp [hu'], hh⟩
      · simp only [List.mem_cons, List.not_mem_nil, or_false] at hx
        rcases hx with rfl | rfl
        · exact .inr ⟨v, by simp, hg⟩
        · rcases hc g hg with hh | hh
          · exact .inr ⟨v, by simp, hh⟩
          · exact .inl (by omega)
    · refine (hF.2.2.2.2 k (by omega) (fun e => hnu v (by simp) e.symm) (fun e => ?_)).trans (h5 k hk (fun u hu' => hnu u (by simp [hu'])))
      have := h2 k e.symm
      omega
theorem ap_less {u v : Value} (x : Nat) (h1 : ∀ g, u.ownBlock = some g → g < x) (h2 : ∀ g, v.ownBlock = some g → x ≤ g) : Ap u v := fun g hu hv => by
  have := h1 g hu
  have := h2 g hv
  omega
end Go.Proofs.Ytkohlhnkaklnpaa
