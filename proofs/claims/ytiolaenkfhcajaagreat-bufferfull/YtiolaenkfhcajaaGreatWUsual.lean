/-
  World: the usual kinds, of the law's own.
-/
import Derived.Test.YtiolaenkfhcajaaGreatWSt
namespace Go.Proofs.YtiolaenkfhcajaaGreat
open Go.RowKit
set_option maxRecDepth 100000
def bs (l : List UInt8) : ByteArray := ⟨l.toArray⟩
def usualK : List Kind := [(bs [80, 111, 115], [bs [120], bs [121]]), (bs [86, 101, 108], [bs [120]]), (bs [68, 101, 97, 100], []), (bs [66, 111, 120], [bs [97], bs [98], bs [99], bs [100]])]
theorem four_allocs (w : World) (a b c d : Obj) : ((((w.alloc a).alloc b).alloc c).alloc d).heap[w.heap.size]? = some a ∧ ((((w.alloc a).alloc b).alloc c).alloc d).heap[w.heap.size + 1]? = some b ∧ ((((w.alloc a).alloc b).alloc c).alloc d).heap[w.heap.size + 1 + 1]? = some c ∧ ((((w.alloc a).alloc b).alloc c).alloc d).heap[w.heap.size + 1 + 1 + 1]? = some d := by
  have s1 : (w.alloc a).heap.size = w.heap.size + 1 := World.size_alloc ..
  have s2 : ((w.alloc a).alloc b).heap.size = w.heap.size + 1 + 1 := by rw [World.size_alloc, s1]
  have s3 : (((w.alloc a).alloc b).alloc c).heap.size = w.heap.size + 1 + 1 + 1 := by rw [World.size_alloc, s2]
  have e1 := heap_alloc_new w a
  have e2 := heap_alloc_new (w.alloc a) b
  have e3 := heap_alloc_new ((w.alloc a).alloc b) c
  have e4 := heap_alloc_new (((w.alloc a).alloc b).alloc c) d
  rw [s1] at e2
  rw [s2] at e3
  rw [s3] at e4
  have b2 := below_alloc (w.alloc a) b
  have b3 := below_alloc ((w.alloc a).alloc b) c
  have b4 := below_alloc (((w.alloc a).alloc b).alloc c) d
  exact ⟨((below_on (below_on b2 b3) b4).block _ (lt_of_block e1)).trans e1, ((below_on b3 b4).block _ (lt_of_block e2)).trans e2, (b4.block _ (lt_of_block e3)).trans e3, e4⟩
theorem sr_of {W : World} {g : Nat} {l : List ByteArray} {o : Array Value} (h : W.heap[g]? = some (.cells o 9 (0, 0))) (hl : l.length ≤ 100) (ho : ∀ j (hj : j < l.length), o[j]? = some (.string l[j])) : Sr W (.slice (some ⟨g, 0, none⟩) l.length l.length) l := by
  refine ⟨some ⟨g, 0, none⟩, l.length, rfl, Nat.le_refl _, by unfold maxLen; omega, fun j hj => ⟨g, 0, rfl, ?_⟩⟩
  rw [Nat.zero_add, cell_of_row W g _ _ 9 (0, 0) h]
  exact ho j hj
theorem usual_kr {W : World} {g1 g2 g3 g4 : Nat} (h1 : W.heap[g1]? = some (.cells #[.string (bs [120]), .string (bs [121])] 9 (0, 0))) (h2 : W.heap[g2]? = some (.cells #[.string (bs [120])] 9 (0, 0))) (h3 : W.heap[g3]? = some (.cells #[.string (bs [97]), .string (bs [98]), .string (bs [99]), .string (bs [100])] 9 (0, 0)))
    (h4 : W.heap[g4]? = some (.cells #[.string (bs [80, 111, 115]), .slice (some ⟨g1, 0, none⟩) 2 2, .string (bs [86, 101, 108]), .slice (some ⟨g2, 0, none⟩) 1 1, .string (bs [68, 101, 97, 100]), .slice none 0 0, .string (bs [66, 111, 120]), .slice (some ⟨g3, 0, none⟩) 4 4] 66 (0, 0))) : Kr W (.slice (some ⟨g4, 0, none⟩) 4 4) usualK := by
  have hc : ∀ j, W.cell? ⟨g4, j, none⟩ = _ := fun j => cell_of_row W g4 j _ 66 (0, 0) h4
  refine ⟨some ⟨g4, 0, none⟩, 4, rfl, Nat.le_refl _, by unfold maxLen; omega, fun i hi => ?_⟩
  have hi4 : i = 0 ∨ i = 1 ∨ i = 2 ∨ i = 3 := by have : usualK.length = 4 := rfl; omega
  rcases hi4 with rfl | rfl | rfl | rfl
  · exact ⟨g4, 0, _, rfl, hc 0, hc 1, sr_of (l := [bs [120], bs [121]]) h1 (by decide) (fun j hj => by
      have : j = 0 ∨ j = 1 := by simp at hj; omega
      rcases this with rfl | rfl <;> rfl)⟩
  · exact ⟨g4, 0, _, rfl, hc 2, hc 3, sr_of (l := [bs [120]]) h2 (by decide) (fun j hj => by
      have : j = 0 := by simp at hj; omega
      subst this; rfl)⟩
  · exact ⟨g4, 0, _, rfl, hc 4, hc 5, ⟨none, 0, rfl, Nat.le_refl _, Nat.zero_le _, fun j hj => absurd hj (by simp [usualK])⟩⟩
  · exact ⟨g4, 0, _, rfl, hc 6, hc 7, sr_of (l := [bs [97], bs [98], bs [99], bs [100]]) h3 (by decide) (fun j hj => by
      have : j = 0 ∨ j = 1 ∨ j = 2 ∨ j = 3 := by simp at hj; omega
      rcases this with rfl | rfl | rfl | rfl <;> rfl)⟩
end Go.Proofs.YtiolaenkfhcajaaGreat
