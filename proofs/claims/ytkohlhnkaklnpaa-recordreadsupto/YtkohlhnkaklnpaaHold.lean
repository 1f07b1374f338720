/-
  What an owner has written over and keeps: the list of it. No walk in this text.
-/
import Derived.Test.YtkohlhnkaklnpaaScan
namespace Go.Proofs.Ytkohlhnkaklnpaa
open Go.RowKit
theorem info53 : (Try.prog.info? 53).map (fun i => (i.zero, i.size, i.bytes)) = some (some (.agg #[.slice none 0 0, .int .u8 0]), 2, 32) := by kernel_rfl

/-- It reads as this byte alone. -/
def Hd (w : World) (v : Value) (m : Nat) : Prop := ∃ ao n c, v = .slice ao n c ∧ n ≤ c ∧ c ≤ maxLen ∧ ∀ k, k < n → ∃ g o, ao = some ⟨g, o, none⟩ ∧ w.cell? ⟨g, o + k, none⟩ = some (.int .u8 m)
theorem Hd.same {w w' : World} {v : Value} {m : Nat} (h : Hd w v m) (hs : ∀ g, v.ownBlock = some g → g < w.heap.size → w'.heap[g]? = w.heap[g]?) : Hd w' v m := by
  obtain ⟨ao, n, c, rfl, h1, h2, h3⟩ := h
  refine ⟨ao, n, c, rfl, h1, h2, fun k hk => ?_⟩
  obtain ⟨g, o, rfl, hc⟩ := h3 k hk
  exact ⟨g, o, rfl, (World.cell?_of_block (hs g rfl (World.block_lt_of_cell? w _ hc))).trans hc⟩
def flat : List (Value × Nat) → List Value
  | [] => []
  | h :: t => h.1 :: .int .u8 h.2 :: flat t
theorem flat_append : ∀ (a b : List (Value × Nat)), flat (a ++ b) = flat a ++ flat b
  | [], _ => rfl
  | h :: t, b => by simp [flat, flat_append t b]
theorem flat_at : ∀ (hs : List (Value × Nat)) (j : Nat) (h : j < hs.length), (flat hs)[j * 2]? = some hs[j].1 ∧ (flat hs)[j * 2 + 1]? = some (.int .u8 hs[j].2)
  | h :: t, 0, _ => ⟨rfl, rfl⟩
  | h :: t, j + 1, hj => by
    have := flat_at t j (by simpa using hj)
    rw [show (j + 1) * 2 = j * 2 + 1 + 1 by omega]
    simpa [flat] using this
/-- The list of what is kept. -/
def Kept (w : World) (B : Nat) (vk : Value) (hs : List (Value × Nat)) : Prop :=
  w.ownsRow B 53 2 vk hs.length (flat hs) ∧ ∀ h ∈ hs, Hd w h.1 h.2 ∧ h.2 < 256 ∧ Ap h.1 vk ∧ ∀ g, h.1.ownBlock = some g → g < w.heap.size
/-- But for two blocks all that was there is as it was. -/
def Fr (w w' : World) (a b : Option Nat) : Prop := w'.os = w.os ∧ w'.tape = w.tape ∧ w'.output = w.output ∧ w.heap.size ≤ w'.heap.size ∧ ∀ k, k < w.heap.size → some k ≠ a → some k ≠ b → w'.heap[k]? = w.heap[k]?
theorem Fr.grown {w w' w2 : World} {a b row : Option Nat} (h : Fr w w' a b) (hg : w'.grownBy w2 row) (hr : ∀ k, k < w.heap.size → row = some k → some k = a ∨ some k = b) : Fr w w2 a b :=
  ⟨hg.1.trans h.1, hg.2.trans h.2.1, hg.3.trans h.2.2.1, Nat.le_trans h.2.2.2.1 hg.size, fun k hk h1 h2 => (hg.block k (Nat.lt_of_lt_of_le hk h.2.2.2.1) (fun e => by
    rcases hr k hk e.symm with h | h
    · exact h1 h
    · exact h2 h)).trans (h.2.2.2.2 k hk h1 h2)⟩
theorem Fr.refl (w : World) (a b : Option Nat) : Fr w w a b := ⟨rfl, rfl, rfl, Nat.le_refl _, fun _ _ _ _ => rfl⟩
theorem Fr.alloc {w w' : World} {a b : Option Nat} (h : Fr w w' a b) (o : Obj) : Fr w (w'.alloc o) a b := h.grown (World.grownBy_alloc w' o none) (fun _ _ e => by cases e)
theorem Fr.below {w w' : World} {a b : Option Nat} {B : Nat} {w0 : World} (h : Fr w w' a b) (h0 : Below B w0 w) (hB : B ≤ w.heap.size) (ha : ∀ k, a = some k → B ≤ k) (hb : ∀ k, b = some k → B ≤ k) : Below B w0 w' :=
  h0.trans ⟨h.1, h.2.1, h.2.2.1, h.2.2.2.1, fun k hk => h.2.2.2.2 k (Nat.lt_of_lt_of_le hk hB) (fun e => by have := ha k e.symm; omega) (fun e => by have := hb k e.symm; omega)⟩
/-- What lies apart from both. -/
theorem Fr.hd {w w' : World} {v u x : Value} {m : Nat} (h : Fr w w' u.ownBlock x.ownBlock) (hv : Hd w v m) (h1 : Ap v u) (h2 : Ap v x) : Hd w' v m :=
  hv.same (fun g hg hlt => h.2.2.2.2 g hlt (fun e => h1 g hg e.symm) (fun e => h2 g hg e.symm))
theorem Fr.own {w w' : World} {v u x : Value} {B e s n : Nat} {xs : List Value} (h : Fr w w' u.ownBlock x.ownBlock) (hv : w.ownsRow B e s v n xs) (h1 : Ap v u) (h2 : Ap v x) : w'.ownsRow B e s v n xs := by
  refine ⟨hv.1, ?_⟩
  rcases hv.2 with h0 | ⟨g, cap, cur, rfl, hb, hg, hr⟩
  · exact .inl h0
  · exact .inr ⟨g, cap, cur, rfl, hb, (h.2.2.2.2 g (Array.getElem?_eq_some_iff.1 hg).1 (fun e => h1 g rfl e.symm) (fun e => h2 g rfl e.symm)).trans hg, hr⟩
end Go.Proofs.Ytkohlhnkaklnpaa
