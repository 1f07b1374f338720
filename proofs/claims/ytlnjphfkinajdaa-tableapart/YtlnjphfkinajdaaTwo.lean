/-
  Two tables beside one another.
-/
import Derived.Test.YtlnjphfkinajdaaClone
namespace Go.Proofs.Ytlnjphfkinajdaa
open Go.RowKit
def T2 (B : Nat) (N : Nat → Prop) (W : World) (g1 g2 n1 n2 : Nat) (r1 : List (Int × Int)) (c1 : List (List Int)) (r2 : List (Int × Int)) (c2 : List (List Int)) : Prop :=
  ∃ S1 S2 : Nat → Prop, Tb W S1 g1 n1 r1 c1 ∧ Tb W S2 g2 n2 r2 c2 ∧ (∀ k, S1 k → B ≤ k ∧ k < W.heap.size ∧ ¬ N k ∧ ¬ S2 k) ∧ (∀ k, S2 k → B ≤ k ∧ k < W.heap.size ∧ ¬ N k ∧ ¬ S1 k) ∧ (∀ k, N k → k < W.heap.size) ∧ B ≤ W.heap.size
section
variable {B : Nat} {N N' : Nat → Prop} {W W' : World} {g1 g2 n1 n2 n1' : Nat} {r1 r2 r1' : List (Int × Int)} {c1 c2 c1' : List (List Int)}
theorem T2.swap (h : T2 B N W g1 g2 n1 n2 r1 c1 r2 c2) : T2 B N W g2 g1 n2 n1 r2 c2 r1 c1 := by
  obtain ⟨S1, S2, h1, h2, h3, h4, h5⟩ := h
  exact ⟨S2, S1, h2, h1, h4, h3, h5⟩
theorem T2.tb (h : T2 B N W g1 g2 n1 n2 r1 c1 r2 c2) : ∃ S, Tb W S g1 n1 r1 c1 := by
  obtain ⟨S1, S2, h1, h2, h3, h4, h5⟩ := h
  exact ⟨S1, h1⟩
theorem T2.fence (h : T2 B N W g1 g2 n1 n2 r1 c1 r2 c2) (hb : Below W.heap.size W W') (hN : ∀ k, N' k → (N k ∨ W.heap.size ≤ k) ∧ k < W'.heap.size) : T2 B N' W' g1 g2 n1 n2 r1 c1 r2 c2 := by
  obtain ⟨S1, S2, h1, h2, h3, h4, h5, h6⟩ := h
  have hs := hb.size
  refine ⟨S1, S2, h1.later hb, h2.later hb, fun k e => ?_, fun k e => ?_, fun k e => (hN k e).2, by omega⟩
  · have := h3 k e
    refine ⟨this.1, by omega, fun e' => ?_, this.2.2.2⟩
    rcases (hN k e').1 with h | h
    · exact this.2.2.1 h
    · omega
  · have := h4 k e
    refine ⟨this.1, by omega, fun e' => ?_, this.2.2.2⟩
    rcases (hN k e').1 with h | h
    · exact this.2.2.1 h
    · omega
theorem T2.op {fn : Nat} {args : Array Value} {Q : Ending → Prop} (h : T2 B N W g1 g2 n1 n2 r1 c1 r2 c2)
    (hc : ∀ M : Nat → Prop, (∀ k, N k → M k) → Tf B M W g1 n1 r1 c1 → Calls Try.prog fn args W fun e w' => Q e ∧ Tf B M w' g1 n1' r1' c1' ∧ KeptN M W w' ∧ Below B W w') :
    Calls Try.prog fn args W fun e w' => Q e ∧ Hid (T2 B N w' g1 g2 n1' n2 r1' c1' r2 c2 ∧ KeptN N W w' ∧ Below B W w') := by
  obtain ⟨S1, S2, h1, h2, h3, h4, h5, h6⟩ := h
  have htf : Tf B (fun k => N k ∨ S2 k) W g1 n1 r1 c1 := ⟨S1, h1, fun k e => ⟨(h3 k e).1, (h3 k e).2.1, fun e' => by
    rcases e' with e' | e'
    · exact (h3 k e).2.2.1 e'
    · exact (h3 k e).2.2.2 e'⟩, fun k e => by
    rcases e with e | e
    · exact h5 k e
    · exact (h4 k e).2.1, h6⟩
  refine (hc _ (fun k e => .inl e) htf).mono ?_
  rintro e w' ⟨q, ⟨S, t1, t2, t3, t4⟩, kn, hb⟩
  have hm : Mv W w' (fun k => B ≤ k ∧ ¬ (N k ∨ S2 k)) := ⟨hb.os, hb.tape, hb.output, hb.size, fun k hk hn => by
    by_cases hB : B ≤ k
    · exact kn k (Classical.byContradiction fun e => hn ⟨hB, e⟩)
    · exact hb.block k (by omega)⟩
  have hs := hb.size
  refine ⟨q, ⟨S, S2, t1, h2.frame hm (fun k e e' => e'.2 (.inr e)), fun k e => ⟨(t2 k e).1, (t2 k e).2.1, fun e' => (t2 k e).2.2 (.inl e'), fun e' => (t2 k e).2.2 (.inr e')⟩, fun k e => ⟨(h4 k e).1, by have := (h4 k e).2.1; omega, (h4 k e).2.2.1, fun e' => (t2 k e').2.2 (.inr e)⟩, fun k e => by have := h5 k e; omega, by omega⟩, fun k e => kn k (.inl e), hb⟩
/-- A clone stands beside the table. -/
theorem t2_clone {g n : Nat} {rows : List (Int × Int)} {cols : List (List Int)} (h : Tf B N W g n rows cols) : Calls Try.prog 17 #[.pointer (some ⟨g, 0, none⟩)] W fun e w' => ∃ g', e = .returned (.pointer (some ⟨g', 0, none⟩)) ∧ Hid (T2 B N w' g g' n n rows cols rows cols ∧ Below W.heap.size W w') := by
  obtain ⟨S, h1, h2, h3, h4⟩ := h
  refine (cloned_any h1).mono ?_
  rintro e w' ⟨g', rfl, t1, t2⟩
  have hs := t2.size
  exact ⟨g', rfl, ⟨S, _, h1.later t2, t1.tight, fun k e => ⟨(h2 k e).1, by have := (h2 k e).2.1; omega, (h2 k e).2.2, fun e' => by have := (h2 k e).2.1; omega⟩, fun k e => ⟨by omega, e.2, fun e' => by have := h3 k e'; omega, fun e' => by have := (h2 k e').2.1; omega⟩, fun k e => by have := h3 k e; omega, by omega⟩, t2⟩
end
end Go.Proofs.Ytlnjphfkinajdaa
