/-
  What lies about while a pool is made anew.
-/
import Derived.Test.YtejbdhbphbgckaaBoth
import Derived.Test.YtejbdhbphbgckaaDocClone
namespace Go.Proofs.Ytejbdhbphbgckaa
open Go.RowKit
theorem row2' {W : World} {k : Nat} {x y : Value} (h : W.heap[k]? = some (.cells #[x, y] 28 (0, 0))) : W.cell? ⟨k, 0, none⟩ = some x ∧ W.cell? ⟨k, 1, none⟩ = some y ∧ W.frozen? ⟨k, 0, none⟩ = false ∧ W.frozen? ⟨k, 1, none⟩ = false :=
  ⟨by rw [cell_of_row W k _ _ 28 (0, 0) h]; rfl, by rw [cell_of_row W k _ _ 28 (0, 0) h]; rfl, frozen_of_row W k _ _ 28 h, frozen_of_row W k _ _ 28 h⟩
/-- Two empty lists, a place for a pair, two rows: as far as they are there. -/
def R8 (w2 : World) (gs fr : List Nat) (W : World) (e1 e2 kc : Option Nat) (vA vB : Option Value) : Prop :=
  Below w2.heap.size w2 W ∧ (∀ k, e1 = some k → w2.heap.size ≤ k ∧ W.heap[k]? = some (.cells #[] 3 (0, 0))) ∧ (∀ k, e2 = some k → w2.heap.size ≤ k ∧ W.heap[k]? = some (.cells #[] 3 (0, 0))) ∧
  (∀ k, kc = some k → w2.heap.size ≤ k ∧ W.heap[k]? = some (.cells #[.pointer none, .pointer none] 28 (0, 0))) ∧
  (∀ v, vA = some v → W.ownsRow w2.heap.size 3 1 v gs.length (ic gs)) ∧ (∀ v, vB = some v → W.ownsRow w2.heap.size 3 1 v fr.length (ic fr)) ∧
  (∀ a b, e1 = some a → e2 = some b → a ≠ b) ∧ (∀ c a, kc = some c → (e1 = some a ∨ e2 = some a) → a ≠ c) ∧ (∀ c v, kc = some c → (vA = some v ∨ vB = some v) → v.ownBlock ≠ some c) ∧ (∀ v b, vA = some v → e2 = some b → v.ownBlock ≠ some b)
section
variable {w2 W W' : World} {gs fr : List Nat} {e1 e2 kc : Option Nat} {vA vB : Option Value}
theorem R8.start (h : Below w2.heap.size w2 W) : R8 w2 gs fr W none none none none none :=
  ⟨h, fun k e => (by cases e), fun k e => (by cases e), fun k e => (by cases e), fun k e => (by cases e), fun k e => (by cases e), fun a b e => (by cases e), fun a b e => (by cases e), fun a b e => (by cases e), fun a b e => (by cases e)⟩
theorem R8.move {row : Option Nat} (h : R8 w2 gs fr W e1 e2 kc vA vB) (hg : W.grownBy W' row) (hb : Below w2.heap.size w2 W') (h1 : ∀ a, e1 = some a → row ≠ some a) (h2 : ∀ a, e2 = some a → row ≠ some a) (h3 : ∀ a, kc = some a → row ≠ some a) (h4 : ∀ v, vA = some v → ∀ k, v.ownBlock = some k → row ≠ some k) (h5 : ∀ v, vB = some v → ∀ k, v.ownBlock = some k → row ≠ some k) : R8 w2 gs fr W' e1 e2 kc vA vB := by
  obtain ⟨a0, a1, a2, a3, a4, a5, a6⟩ := h
  exact ⟨hb, fun k e => ⟨(a1 k e).1, (hg.block k (lt_of_block (a1 k e).2) (h1 k e).symm).trans (a1 k e).2⟩, fun k e => ⟨(a2 k e).1, (hg.block k (lt_of_block (a2 k e).2) (h2 k e).symm).trans (a2 k e).2⟩, fun k e => ⟨(a3 k e).1, (hg.block k (lt_of_block (a3 k e).2) (h3 k e).symm).trans (a3 k e).2⟩, fun v e => own_kept (a4 v e) hg (h4 v e), fun v e => own_kept (a5 v e) hg (h5 v e), a6⟩
theorem R8.later (h : R8 w2 gs fr W e1 e2 kc vA vB) (hb : Below W.heap.size W W') : R8 w2 gs fr W' e1 e2 kc vA vB :=
  h.move (grown_later hb) (below_on h.1 hb) (fun _ _ e => by cases e) (fun _ _ e => by cases e) (fun _ _ e => by cases e) (fun _ _ _ _ e => by cases e) (fun _ _ _ _ e => by cases e)
theorem R8.al1 (h : R8 w2 gs fr W none e2 kc none vB) : R8 w2 gs fr (W.alloc (.cells #[] 3)) (some W.heap.size) e2 kc none vB := by
  have hh := h.later (below_alloc W (.cells #[] 3))
  obtain ⟨a0, a1, a2, a3, a4, a5, a6, a7, a8, a9⟩ := h
  obtain ⟨b0, b1, b2, b3, b4, b5, b6, b7, b8, b9⟩ := hh
  refine ⟨b0, fun k e => ?_, b2, b3, b4, b5, fun a b e1 e2 => ?_, fun c a e1 e2 => ?_, b8, b9⟩
  · obtain rfl := Option.some.inj e
    exact ⟨a0.size, heap_alloc_new W _⟩
  · obtain rfl := Option.some.inj e1
    have := lt_of_block (a2 b e2).2
    omega
  · rcases e2 with e2 | e2
    · obtain rfl := Option.some.inj e2
      have := lt_of_block (a3 c e1).2
      omega
    · exact b7 c a e1 (.inr e2)
theorem R8.al2 (h : R8 w2 gs fr W e1 none kc vA none) : R8 w2 gs fr (W.alloc (.cells #[] 3)) e1 (some W.heap.size) kc vA none := by
  have hh := h.later (below_alloc W (.cells #[] 3))
  obtain ⟨a0, a1, a2, a3, a4, a5, a6, a7, a8, a9⟩ := h
  obtain ⟨b0, b1, b2, b3, b4, b5, b6, b7, b8, b9⟩ := hh
  refine ⟨b0, b1, fun k e => ?_, b3, b4, b5, fun a b e1 e2 => ?_, fun c a e1 e2 => ?_, b8, fun v b e1 e2 => ?_⟩
  · obtain rfl := Option.some.inj e
    exact ⟨a0.size, heap_alloc_new W _⟩
  · obtain rfl := Option.some.inj e2
    have := lt_of_block (a1 a e1).2
    omega
  · rcases e2 with e2 | e2
    · exact b7 c a e1 (.inl e2)
    · obtain rfl := Option.some.inj e2
      have := lt_of_block (a3 c e1).2
      omega
  · obtain rfl := Option.some.inj e2
    intro e
    have := ((a4 v e1).lt _ e).2
    omega
theorem R8.al3 (h : R8 w2 gs fr W e1 e2 none vA vB) : R8 w2 gs fr (W.alloc (.cells #[.pointer none, .pointer none] 28)) e1 e2 (some W.heap.size) vA vB := by
  have hh := h.later (below_alloc W (.cells #[.pointer none, .pointer none] 28))
  obtain ⟨a0, a1, a2, a3, a4, a5, a6, a7, a8, a9⟩ := h
  obtain ⟨b0, b1, b2, b3, b4, b5, b6, b7, b8, b9⟩ := hh
  refine ⟨b0, b1, b2, fun k e => ?_, b4, b5, b6, fun c a e1 e2 => ?_, fun c v e1 e2 => ?_, b9⟩
  · obtain rfl := Option.some.inj e
    exact ⟨a0.size, heap_alloc_new W _⟩
  · obtain rfl := Option.some.inj e1
    rcases e2 with e2 | e2
    · have := lt_of_block (a1 a e2).2
      omega
    · have := lt_of_block (a2 a e2).2
      omega
  · obtain rfl := Option.some.inj e1
    intro e
    rcases e2 with e2 | e2
    · have := ((a4 v e2).lt _ e).2
      omega
    · have := ((a5 v e2).lt _ e).2
      omega
theorem R8.own1 {a : Nat} (h : R8 w2 gs fr W (some a) e2 kc vA vB) : W.ownsRow w2.heap.size 3 1 (.slice (some ⟨a, 0, none⟩) 0 0) ([] : List Nat).length (ic []) := ⟨rfl, .inr ⟨a, 0, #[], rfl, (h.2.1 a rfl).1, (h.2.1 a rfl).2, Nat.le_refl _, Nat.zero_le _, rfl, rfl⟩⟩
theorem R8.own2 {a : Nat} (h : R8 w2 gs fr W e1 (some a) kc vA vB) : W.ownsRow w2.heap.size 3 1 (.slice (some ⟨a, 0, none⟩) 0 0) ([] : List Nat).length (ic []) := ⟨rfl, .inr ⟨a, 0, #[], rfl, (h.2.2.1 a rfl).1, (h.2.2.1 a rfl).2, Nat.le_refl _, Nat.zero_le _, rfl, rfl⟩⟩
theorem R8.app1 {a : Nat} {v : Value} (h : R8 w2 gs fr W (some a) e2 kc none none) (h1 : W'.ownsRow w2.heap.size 3 1 v ([] ++ gs).length (ic ([] ++ gs))) (h2 : W.grownBy W' (Value.slice (some ⟨a, 0, none⟩) 0 0).ownBlock) (h3 : v.ownBlock = (Value.slice (some ⟨a, 0, none⟩) 0 0).ownBlock ∨ v.ownBlock = some W.heap.size) : R8 w2 gs fr W' none e2 kc (some v) none := by
  have hb : Below w2.heap.size w2 W' := h.1.grown h2 h.1.size (fun k e => by cases e; exact (h.2.1 a rfl).1)
  obtain ⟨a0, a1, a2, a3, a4, a5, a6, a7, a8, a9⟩ := h
  obtain ⟨b0, b1, b2, b3, b4, b5, b6, b7, b8, b9⟩ := R8.move (e1 := none) (vA := none) (vB := none) ⟨a0, fun k e => (by cases e), a2, a3, a4, a5, fun a b e => (by cases e), fun c x e1 e2 => (by rcases e2 with e2 | e2; cases e2; exact a7 c x e1 (.inr e2)), a8, a9⟩ h2 hb (fun _ e => by cases e) (fun b e e' => by cases e'; exact a6 _ _ rfl e rfl) (fun c e e' => by cases e'; exact a7 _ _ e (.inl rfl) rfl) (fun _ e => by cases e) (fun _ e => by cases e)
  refine ⟨b0, b1, b2, b3, fun u e => ?_, b5, b6, b7, fun c u e1 e2 => ?_, fun u b e1 e2 => ?_⟩
  · cases e; exact h1
  · rcases e2 with e2 | e2
    · cases e2
      intro e
      rcases h3 with h | h
      · rw [e] at h; cases h; exact a7 _ _ e1 (.inl rfl) rfl
      · rw [e] at h; cases h; have := lt_of_block (a3 _ e1).2; omega
    · cases e2
  · cases e1
    intro e
    rcases h3 with h | h
    · rw [e] at h; cases h; exact a6 _ _ rfl e2 rfl
    · rw [e] at h; cases h; have := lt_of_block (a2 _ e2).2; omega
theorem R8.app2 {a : Nat} {v u : Value} (h : R8 w2 gs fr W none (some a) kc (some u) none) (h1 : W'.ownsRow w2.heap.size 3 1 v ([] ++ fr).length (ic ([] ++ fr))) (h2 : W.grownBy W' (Value.slice (some ⟨a, 0, none⟩) 0 0).ownBlock) (h3 : v.ownBlock = (Value.slice (some ⟨a, 0, none⟩) 0 0).ownBlock ∨ v.ownBlock = some W.heap.size) : R8 w2 gs fr W' none none kc (some u) (some v) := by
  have hb : Below w2.heap.size w2 W' := h.1.grown h2 h.1.size (fun k e => by cases e; exact (h.2.2.1 a rfl).1)
  obtain ⟨a0, a1, a2, a3, a4, a5, a6, a7, a8, a9⟩ := h
  obtain ⟨b0, b1, b2, b3, b4, b5, b6, b7, b8, b9⟩ := R8.move (e1 := none) (e2 := none) (vA := some u) (vB := none) ⟨a0, fun k e => (by cases e), fun k e => (by cases e), a3, a4, a5, fun a b e => (by cases e), fun c x e1 e2 => (by rcases e2 with e2 | e2 <;> cases e2), a8, fun v b e1 e2 => (by cases e2)⟩ h2 hb (fun _ e => by cases e) (fun _ e => by cases e) (fun c e e' => by cases e'; exact a7 _ _ e (.inr rfl) rfl) (fun w e k e1 e2 => by cases e2; exact a9 _ _ e rfl e1) (fun _ e => by cases e)
  refine ⟨b0, b1, b2, b3, b4, fun x e => ?_, b6, b7, fun c x e1 e2 => ?_, b9⟩
  · cases e; exact h1
  · rcases e2 with e2 | e2
    · exact b8 c x e1 (.inl e2)
    · cases e2
      intro e
      rcases h3 with h | h
      · rw [e] at h; cases h; exact a7 _ _ e1 (.inr rfl) rfl
      · rw [e] at h; cases h; have := lt_of_block (a3 _ e1).2; omega
/-- What stands behind it: a new pair, at a place. -/
def F8 (w2 W : World) (kc g r n : Nat) (gs fr : List Nat) : Prop :=
  W.heap[kc]? = some (.cells #[.pointer (some ⟨g, 0, none⟩), .pointer (some ⟨r, 0, none⟩)] 28 (0, 0)) ∧ Below w2.heap.size w2 W ∧ ∃ S T : Nat → Prop, Pl W S g n gs fr ∧ Dl W T r n gs fr ∧ (∀ k, S k → w2.heap.size ≤ k) ∧ (∀ k, T k → w2.heap.size ≤ k) ∧ ∀ k, S k → ¬ T k
def Q8 (w2 W : World) (kc : Option Nat) (g r n : Nat) (gs fr : List Nat) : Prop :=
  ∃ S T : Nat → Prop, Pl W S g n gs fr ∧ Dl W T r n gs fr ∧ (∀ k, S k → w2.heap.size ≤ k ∧ kc ≠ some k ∧ k < W.heap.size) ∧ (∀ k, T k → w2.heap.size ≤ k ∧ kc ≠ some k ∧ k < W.heap.size) ∧ ∀ k, S k → ¬ T k
theorem R8.made {g r n : Nat} {S T : Nat → Prop} (h : R8 w2 gs fr W e1 e2 kc vA vB) (hp : Pl W' S g n gs fr) (hd : Dl W' T r n gs fr) (hS : ∀ k, S k → W.heap.size ≤ k) (hT : ∀ k, T k → W.heap.size ≤ k) (hST : ∀ k, S k → ¬ T k) : Q8 w2 W' kc g r n gs fr := by
  have hsz := h.1.size
  refine ⟨_, _, Pl.tight hp, Dl.tight hd, fun k e => ⟨Nat.le_trans hsz (hS k e.1), fun e' => ?_, e.2⟩, fun k e => ⟨Nat.le_trans hsz (hT k e.1), fun e' => ?_, e.2⟩, fun k e e' => hST k e.1 e'.1⟩
  · have := lt_of_block (h.2.2.2.1 k e').2
    have := hS k e.1
    omega
  · have := lt_of_block (h.2.2.2.1 k e').2
    have := hT k e.1
    omega
theorem Q8.al3 {g r n : Nat} (h : Q8 w2 W none g r n gs fr) : Q8 w2 (W.alloc (.cells #[.pointer none, .pointer none] 28)) (some W.heap.size) g r n gs fr := by
  obtain ⟨S, T, hp, hd, hS, hT, hST⟩ := h
  have hb := below_alloc W (.cells #[.pointer none, .pointer none] 28)
  have hs := hb.size
  exact ⟨S, T, hp.later hb, hd.later hb, fun k e => ⟨(hS k e).1, fun e' => by cases e'; have := (hS _ e).2.2; omega, Nat.lt_of_lt_of_le (hS k e).2.2 hs⟩, fun k e => ⟨(hT k e).1, fun e' => by cases e'; have := (hT _ e).2.2; omega, Nat.lt_of_lt_of_le (hT k e).2.2 hs⟩, hST⟩
theorem Q8.fin {g r n c : Nat} (h : Q8 w2 W (some c) g r n gs fr) (hr : R8 w2 gs fr W e1 e2 (some c) vA vB) : F8 w2 ((W.setCell ⟨c, 0, none⟩ (.pointer (some ⟨g, 0, none⟩))).setCell ⟨c, 1, none⟩ (.pointer (some ⟨r, 0, none⟩))) c g r n gs fr := by
  obtain ⟨S, T, hp, hd, hS, hT, hST⟩ := h
  obtain ⟨hc1, hc2⟩ := hr.2.2.2.1 c rfl
  have hmv : Mv W ((W.setCell ⟨c, 0, none⟩ (.pointer (some ⟨g, 0, none⟩))).setCell ⟨c, 1, none⟩ (.pointer (some ⟨r, 0, none⟩))) (fun k => k = c) := Mv.set (S := fun k => k = c) (Mv.set (S := fun k => k = c) (Mv.refl _ _) rfl _ _) rfl _ _
  exact ⟨heap_setCell_same _ _ 1 _ 28 _ (heap_setCell_same W _ 0 _ 28 _ hc2), hr.1.trans (hmv.below hr.1.size (fun k e => by omega)), S, T, hp.frame hmv (fun k e e' => (hS k e).2.1 (by rw [e'])), hd.frame hmv (fun k e e' => (hT k e).2.1 (by rw [e'])), fun k e => (hS k e).1, fun k e => (hT k e).1, hST⟩
end
end Go.Proofs.Ytejbdhbphbgckaa
