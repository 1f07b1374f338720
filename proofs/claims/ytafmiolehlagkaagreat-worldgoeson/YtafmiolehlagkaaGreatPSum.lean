import Derived.Test.YtafmiolehlagkaaGreatProg
import Derived.WalkKit
import Derived.WalkSpells
import Derived.WalkLawsBesides
import Derived.Below
import Derived.RowKit
import Derived.Lib.VarintMem
import Derived.Laws.CopyOwn
namespace Go.Proofs.YtafmiolehlagkaaGreat.Pak
open Go.RowKit
set_option maxRecDepth 100000

theorem hide {p : Prop} (h : p) : Hid p := h
theorem ret_int {k : IntKind} {a b : Int} (h : a = b) : Ending.returned (.int k a) = .returned (.int k b) := by rw [h]
theorem val_int {k : IntKind} {a b : Int} (h : a = b) : Value.int k a = .int k b := by rw [h]

/-- A slice of bytes that reads as l (nil, or empty, or a row of cells). -/
def Bs (w : World) (v : Value) (l : List UInt8) : Prop :=
  ∃ ao c, v = .slice ao l.length c ∧ l.length ≤ c ∧ c ≤ maxLen ∧ ∀ j (hj : j < l.length), ∃ g o, ao = some ⟨g, o, none⟩ ∧ w.cell? ⟨g, o + j, none⟩ = some (.int .u8 (l[j]).toNat)

theorem Bs.nil (w : World) : Bs w (.slice none 0 0) [] := ⟨none, 0, rfl, Nat.le_refl _, Nat.zero_le _, fun j hj => absurd hj (by simp)⟩
theorem Bs.row {w : World} {g o c : Nat} {l : List UInt8} (h1 : l.length ≤ c) (h2 : c ≤ maxLen) (h3 : ∀ j (hj : j < l.length), w.cell? ⟨g, o + j, none⟩ = some (.int .u8 (l[j]).toNat)) : Bs w (.slice (some ⟨g, o, none⟩) l.length c) l :=
  ⟨some ⟨g, o, none⟩, c, rfl, h1, h2, fun j hj => ⟨g, o, rfl, h3 j hj⟩⟩
theorem Bs.parts {w : World} {v : Value} {l : List UInt8} (h : Bs w v l) :
    (∃ ao c, v = .slice ao 0 c ∧ l = []) ∨ ∃ g o c, v = .slice (some ⟨g, o, none⟩) l.length c ∧ 0 < l.length ∧ l.length ≤ c ∧ c ≤ maxLen ∧ ∀ j (hj : j < l.length), w.cell? ⟨g, o + j, none⟩ = some (.int .u8 (l[j]).toNat) := by
  obtain ⟨ao, c, rfl, h1, h2, h3⟩ := h
  by_cases h0 : 0 < l.length
  · obtain ⟨g, o, rfl, _⟩ := h3 0 h0
    refine .inr ⟨g, o, c, rfl, h0, h1, h2, fun j hj => ?_⟩
    obtain ⟨g', o', e, hc⟩ := h3 j hj
    simp at e
    obtain ⟨rfl, rfl⟩ := e
    exact hc
  · obtain rfl : l = [] := List.eq_nil_of_length_eq_zero (by omega)
    exact .inl ⟨ao, c, rfl, rfl⟩
/-- What is below the first new block reads on. -/
theorem Bs.below {B : Nat} {w w' : World} {v : Value} {l : List UInt8} (h : Bs w v l) (hb : Below B w w') (hB : w.heap.size ≤ B) : Bs w' v l := by
  obtain ⟨ao, c, rfl, h1, h2, h3⟩ := h
  refine ⟨ao, c, rfl, h1, h2, fun j hj => ?_⟩
  obtain ⟨g, o, e, hc⟩ := h3 j hj
  have hlt := World.block_lt_of_cell? w _ hc
  exact ⟨g, o, e, (hb.cell (p := ⟨g, o + j, none⟩) (by exact Nat.lt_of_lt_of_le hlt hB)).trans hc⟩
/-- A block of the call's own, whole. -/
abbrev Row (w : World) (g : Nat) (l : List UInt8) : Prop := w.heap[g]? = some (.cells (Lib.byteCells l).toArray 5 (0, 0))
theorem Row.cell {w : World} {g : Nat} {l : List UInt8} (h : Row w g l) (j : Nat) (hj : j < l.length) : w.cell? ⟨g, j, none⟩ = some (.int .u8 (l[j]).toNat) := by
  rw [cell_of_row w g j _ 5 (0, 0) h]
  simp [Lib.byteCells, hj]
theorem Row.frozen {w : World} {g : Nat} {l : List UInt8} (h : Row w g l) (j : Nat) : w.frozen? ⟨g, j, none⟩ = false := frozen_of_row w g j _ 5 h
theorem Row.bs {w : World} {g n c : Nat} {l : List UInt8} (h : Row w g l) (hn : n ≤ l.length) (hc : n ≤ c) (hm : c ≤ maxLen) : Bs w (.slice (some ⟨g, 0, none⟩) n c) (l.take n) := by
  have e : (l.take n).length = n := by simp; omega
  have := Bs.row (w := w) (g := g) (o := 0) (c := c) (l := l.take n) (by omega) hm (fun j hj => by
    rw [e] at hj
    have := h.cell j (by omega)
    simpa using this)
  rwa [e] at this
theorem Row.set {w : World} {g : Nat} {l : List UInt8} (h : Row w g l) (j : Nat) (b : UInt8) : Row (w.setCell ⟨g, j, none⟩ (.int .u8 b.toNat)) g (l.set j b) := by
  have := heap_setCell_same w g j _ 5 (.int .u8 b.toNat) h
  unfold Row
  rw [this]
  simp [Lib.byteCells, List.map_set]
theorem Row.below {B : Nat} {w w' : World} {g : Nat} {l : List UInt8} (h : Row w g l) (hb : Below B w w') (hB : g < B) : Row w' g l := (hb.block g hB).trans h
theorem Row.lt {w : World} {g : Nat} {l : List UInt8} (h : Row w g l) : g < w.heap.size := (Array.getElem?_eq_some_iff.1 h).1

/-! ### Sum -/
end Go.Proofs.YtafmiolehlagkaaGreat.Pak
