/-
  Verify: kinds that are read (as proved for World).
-/
import Derived.Test.YtklamaibinjcmaaDoorMgF
namespace Go.Proofs.YtklamaibinjcmaaDoor
open Go.RowKit
set_option maxRecDepth 100000
abbrev Kind := ByteArray × List ByteArray
/-- Texts that are read. -/
def Sr (w : World) (v : Value) (l : List ByteArray) : Prop :=
  ∃ ao c, v = .slice ao l.length c ∧ l.length ≤ c ∧ c ≤ maxLen ∧ ∀ j (hj : j < l.length), ∃ g o, ao = some ⟨g, o, none⟩ ∧ w.cell? ⟨g, o + j, none⟩ = some (.string l[j])
/-- Kinds that are read. -/
def Kr (w : World) (v : Value) (ks : List Kind) : Prop :=
  ∃ ao c, v = .slice ao ks.length c ∧ ks.length ≤ c ∧ c ≤ maxLen ∧ ∀ i (hi : i < ks.length), ∃ g o vf, ao = some ⟨g, o, none⟩ ∧ w.cell? ⟨g, o + i * 2, none⟩ = some (.string ks[i].1) ∧ w.cell? ⟨g, o + i * 2 + 1, none⟩ = some vf ∧ Sr w vf ks[i].2
section
variable {w w' : World} {v : Value} {ks : List Kind} {l : List ByteArray}
theorem Sr.on (h : Sr w v l) (hc : ∀ (a : Addr) (x : Value), w.cell? a = some x → w'.cell? a = some x) : Sr w' v l := by
  obtain ⟨ao, c, rfl, h1, h2, h3⟩ := h
  refine ⟨ao, c, rfl, h1, h2, fun j hj => ?_⟩
  obtain ⟨g, o, rfl, h4⟩ := h3 j hj
  exact ⟨g, o, rfl, hc _ _ h4⟩
theorem Kr.later (h : Kr w v ks) (hb : Below w.heap.size w w') : Kr w' v ks := by
  have hc : ∀ (a : Addr) (x : Value), w.cell? a = some x → w'.cell? a = some x := fun a x e => (hb.cell (p := a) (World.block_lt_of_cell? w _ e)).trans e
  obtain ⟨ao, c, rfl, h1, h2, h3⟩ := h
  refine ⟨ao, c, rfl, h1, h2, fun i hi => ?_⟩
  obtain ⟨g, o, vf, rfl, h4, h5, h6⟩ := h3 i hi
  exact ⟨g, o, vf, rfl, hc _ _ h4, hc _ _ h5, h6.on hc⟩
end
end Go.Proofs.YtklamaibinjcmaaDoor
