/-
  Orders: two change places, again and again.
-/
import Derived.Test.YtihlhidpiehehaaBtw
namespace Go.Proofs.Ytihlhidpiehehaa
open Go.RowKit
def iota (n : Nat) : List Int := (List.range n).map fun (i : Nat) => (i : Int)
theorem iota_len (n : Nat) : (iota n).length = n := by simp [iota]
def swp (l : List Int) (i j : Nat) : List Int := (l.set i (l.getD j 0)).set j (l.getD i 0)
theorem swp_len (l : List Int) (i j : Nat) : (swp l i j).length = l.length := by simp [swp]
theorem swp_perm (l : List Int) (i j : Nat) (hi : i < l.length) (hj : j < l.length) : (swp l i j).Perm l := by
  unfold swp
  rw [List.getD_eq_getElem?_getD, List.getD_eq_getElem?_getD, List.getElem?_eq_getElem hi, List.getElem?_eq_getElem hj]
  exact List.set_set_perm hi hj
/-- The places i, i - 1, .., 1 change with others; the dice behind it. -/
def shuf : Nat → List Int → Int → List Int × Int
  | 0, l, s => (l, s)
  | i + 1, l, s => shuf i (swp l (i + 1) (belA ((i : Int) + 2) s).toNat) (belS ((i : Int) + 2) s)
theorem shuf_perm : ∀ (i : Nat) (l : List Int) (s : Int), i < l.length → (shuf i l s).1.Perm l
  | 0, l, _, _ => List.Perm.refl l
  | i + 1, l, s, h => by
    have hb := belA_b (n := (i : Int) + 2) s (by omega)
    exact (shuf_perm i _ _ (by rw [swp_len]; omega)).trans (swp_perm l _ _ h (by omega))
theorem shuf_b : ∀ (i : Nat) (l : List Int) (s : Int), 0 ≤ s ∧ s < 18446744073709551616 → 0 ≤ (shuf i l s).2 ∧ (shuf i l s).2 < 18446744073709551616
  | 0, _, _, h => h
  | i + 1, _, s, _ => shuf_b i _ _ (belS_b _ s)
/-- All of n things. -/
def ordL (n : Nat) (s : Int) : List Int := (shuf (n - 1) (iota n) s).1
def ordS (n : Nat) (s : Int) : Int := (shuf (n - 1) (iota n) s).2
theorem ordL_perm (n : Nat) (s : Int) (h : 1 ≤ n) : (ordL n s).Perm (iota n) := shuf_perm _ _ _ (by rw [iota_len]; omega)
theorem ordL_len (n : Nat) (s : Int) (h : 1 ≤ n) : (ordL n s).length = n := by rw [(ordL_perm n s h).length_eq, iota_len]
/-- A row of numbers, whole. -/
def Ir (w : World) (g : Nat) (l : List Int) : Prop := w.heap[g]? = some (.cells (zc l).toArray 3 (0, 0))
section
variable {w w' : World} {g : Nat} {l : List Int}
theorem Ir.lt (h : Ir w g l) : g < w.heap.size := lt_of_block h
theorem Ir.later (h : Ir w g l) (hb : Below w.heap.size w w') : Ir w' g l := (hb.block g h.lt).trans h
theorem Ir.frame {S : Nat → Prop} (h : Ir w g l) (hm : Mv w w' S) (hg : ¬ S g) : Ir w' g l := hm.at h hg
theorem Ir.cell (h : Ir w g l) (i : Nat) (hi : i < l.length) : w.cell? ⟨g, i, none⟩ = some (.int .i64 l[i]) := by
  rw [cell_of_row w g i _ 3 (0, 0) h]
  simp [zc, hi]
theorem Ir.cellD (h : Ir w g l) (i : Nat) (hi : i < l.length) : w.cell? ⟨g, i, none⟩ = some (.int .i64 (l.getD i 0)) := by
  rw [h.cell i hi, List.getD_eq_getElem?_getD, List.getElem?_eq_getElem hi]
  rfl
theorem Ir.frozen (h : Ir w g l) (i : Nat) : w.frozen? ⟨g, i, none⟩ = false := frozen_of_row w g i _ 3 h
theorem Ir.set (h : Ir w g l) (i : Nat) (x : Int) : Ir (w.setCell ⟨g, i, none⟩ (.int .i64 x)) g (l.set i x) := by
  have := heap_setCell_same w g i _ 3 (.int .i64 x) h
  unfold Ir
  rw [this]
  simp [zc, List.map_set]
end
end Go.Proofs.Ytihlhidpiehehaa
