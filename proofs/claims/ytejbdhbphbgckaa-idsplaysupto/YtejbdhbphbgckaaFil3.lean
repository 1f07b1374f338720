/-
  One row that is grown by 64.
-/
import Derived.Test.YtejbdhbphbgckaaFil1
namespace Go.Proofs.Ytejbdhbphbgckaa
open Go.RowKit
def Gi (e s : Nat) (f : Value → Int → Held) (w W : World) (kx : Nat) (v : Value) (n : Nat) (m : Int) (u : Value) (k : Nat) : Prop :=
  W.heap[kx]? = some (.cells #[(f u m).1, (f u m).2.1, .int .i64 (f u m).2.2] 69 (0, 0)) ∧ Mv w W (fun q => v.ownBlock = some q) ∧ Mo e s W v n m n ∧ Mo e s W u (n + k) m (n + k) ∧ (∀ q, u.ownBlock = some q → v.ownBlock = some q ∨ kx < q) ∧ kx = w.heap.size
section
variable {e s : Nat} {f : Value → Int → Held} {w W W1 W' : World} {kx n k : Nat} {v u u' : Value} {m : Int}
theorem Gi.lt (h : Gi e s f w W kx v n m u k) : kx < W.heap.size := lt_of_block h.1
theorem Gi.grow (hs : 0 < s) (h : Gi e s f w W kx v n m u k) (hv : ∀ q, v.ownBlock = some q → q < w.heap.size) {xs : List Value} (hx : ∀ j, j < (n + k) * s → xs[j]? = some (Value.int .i64 m)) (hb : Below W.heap.size W W1)
    (ho : W'.ownsRow 0 e s u' (n + k + 1) (xs ++ List.replicate s (.int .i64 m))) (hg : W1.grownBy W' u.ownBlock) (ha : u'.ownBlock = u.ownBlock ∨ u'.ownBlock = some W1.heap.size) (hst : W'.ownsRow 0 e s u (n + k) xs) :
    W'.heap[kx]? = some (.cells #[(f u m).1, (f u m).2.1, .int .i64 (f u m).2.2] 69 (0, 0)) ∧ Mv w W' (fun q => v.ownBlock = some q) ∧ Mo e s W' v n m n ∧ Mo e s W' u' (n + k + 1) m (n + k + 1) ∧ (∀ q, u'.ownBlock = some q → v.ownBlock = some q ∨ kx < q) := by
  have hk := h.lt
  obtain ⟨h1, h2, h3, h4, h5, h6⟩ := h
  have hsz := hb.size
  have hmu : Mo e s W' u (n + k) m (n + k) := ⟨xs, hst, hx⟩
  have hub : u.ownBlock ≠ some kx := fun e => by
    rcases h5 kx e with h | h
    · have := hv kx h; omega
    · omega
  refine ⟨?_, ?_, ?_, Mo.more hx hst.1 ho, ?_⟩
  · exact (hg.block kx (by omega) (fun e => hub e.symm)).trans ((hb.block kx hk).trans h1)
  · exact (h2.later hb).grown hg (fun q hq e => by
      rcases h5 q e with h | h
      · exact h
      · omega)
  · by_cases e : v.ownBlock = u.ownBlock
    · exact (h3.later hb).short hs (h4.later hb) hmu (by omega) e
    · exact (h3.later hb).frame (S := fun q => u.ownBlock = some q) ((Mv.refl _ _).grown hg (fun _ _ e => e)) (fun q e1 e2 => e (e1.trans e2.symm))
  · intro q e
    rcases ha with h | h
    · exact h5 q (h ▸ e)
    · rw [e] at h; have := Option.some.inj h; exact .inr (by omega)
theorem Gi.put {j : Nat} (hv : ∀ q, v.ownBlock = some q → q < w.heap.size) (hkx : kx = w.heap.size)
    (h : W'.heap[kx]? = some (.cells #[(f u m).1, (f u m).2.1, .int .i64 (f u m).2.2] 69 (0, 0)) ∧ Mv w W' (fun q => v.ownBlock = some q) ∧ Mo e s W' v n m n ∧ Mo e s W' u' (n + k + 1) m (n + k + 1) ∧ (∀ q, u'.ownBlock = some q → v.ownBlock = some q ∨ kx < q))
    (hc : #[(f u m).1, (f u m).2.1, .int .i64 (f u m).2.2].setIfInBounds j u' = #[(f u' m).1, (f u' m).2.1, .int .i64 (f u' m).2.2]) : Gi e s f w (W'.setCell ⟨kx, j, none⟩ u') kx v n m u' (k + 1) := by
  obtain ⟨h1, h2, h3, h4, h5⟩ := h
  have hm : Mv W' (W'.setCell ⟨kx, j, none⟩ u') (fun q => q = kx) := Mv.set (S := fun q => q = kx) (Mv.refl _ _) rfl _ _
  refine ⟨?_, ?_, h3.frame hm (fun q e r => ?_), h4.frame hm (fun q e r => ?_), h5, hkx⟩
  · have := heap_setCell_same W' kx j _ 69 u' h1
    rw [hc] at this
    exact this
  · exact h2.trans hm (fun q hq e => by omega)
  · have := hv q e; omega
  · rcases h5 q e with h | h
    · have := hv q h; omega
    · omega
end
end Go.Proofs.Ytejbdhbphbgckaa
