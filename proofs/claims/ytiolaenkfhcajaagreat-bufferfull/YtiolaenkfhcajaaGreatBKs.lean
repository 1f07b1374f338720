/-
  Buffer: the law's kinds.
-/
import Derived.Test.YtiolaenkfhcajaaGreatBNew
namespace Go.Proofs.YtiolaenkfhcajaaGreat
open Go.RowKit
set_option maxRecDepth 100000
def bksK : List Kind := [(bs [80, 111, 115], [bs [120], bs [121]]), (bs [86, 101, 108], [bs [120]]), (bs [77, 97, 114, 107], [])]
theorem bks_kr {W : World} {g1 g2 g4 : Nat} (h1 : W.heap[g1]? = some (.cells #[.string (bs [120]), .string (bs [121])] 9 (0, 0))) (h2 : W.heap[g2]? = some (.cells #[.string (bs [120])] 9 (0, 0)))
    (h4 : W.heap[g4]? = some (.cells #[.string (bs [80, 111, 115]), .slice (some ⟨g1, 0, none⟩) 2 2, .string (bs [86, 101, 108]), .slice (some ⟨g2, 0, none⟩) 1 1, .string (bs [77, 97, 114, 107]), .slice none 0 0] 66 (0, 0))) : Kr W (.slice (some ⟨g4, 0, none⟩) 3 3) bksK := by
  have hc : ∀ j, W.cell? ⟨g4, j, none⟩ = _ := fun j => cell_of_row W g4 j _ 66 (0, 0) h4
  refine ⟨some ⟨g4, 0, none⟩, 3, rfl, Nat.le_refl _, by unfold maxLen; omega, fun i hi => ?_⟩
  have hi4 : i = 0 ∨ i = 1 ∨ i = 2 := by have : bksK.length = 3 := rfl; omega
  rcases hi4 with rfl | rfl | rfl
  · exact ⟨g4, 0, _, rfl, hc 0, hc 1, sr_of (l := [bs [120], bs [121]]) h1 (by decide) (fun j hj => by
      have : j = 0 ∨ j = 1 := by simp at hj; omega
      rcases this with rfl | rfl <;> rfl)⟩
  · exact ⟨g4, 0, _, rfl, hc 2, hc 3, sr_of (l := [bs [120]]) h2 (by decide) (fun j hj => by
      have : j = 0 := by simp at hj; omega
      subst this; rfl)⟩
  · exact ⟨g4, 0, _, rfl, hc 4, hc 5, ⟨none, 0, rfl, Nat.le_refl _, Nat.zero_le _, fun j hj => absurd hj (by simp [bksK])⟩⟩
theorem three_allocs (w : World) (a b c : Obj) : (((w.alloc a).alloc b).alloc c).heap[w.heap.size]? = some a ∧ (((w.alloc a).alloc b).alloc c).heap[w.heap.size + 1]? = some b ∧ (((w.alloc a).alloc b).alloc c).heap[w.heap.size + 1 + 1]? = some c := by
  have e1 := heap_alloc_new (w.alloc a) b
  have e2 := heap_alloc_new ((w.alloc a).alloc b) c
  simp only [World.size_alloc] at e1 e2
  refine ⟨?_, ?_, e2⟩
  · exact ((below_on (below_alloc (w.alloc a) b) (below_alloc _ c)).block w.heap.size (by simp)).trans (heap_alloc_new w a)
  · exact ((below_alloc ((w.alloc a).alloc b) c).block (w.heap.size + 1) (by simp)).trans e1
theorem bks_any (w : World) : Calls Tryz.prog 7 #[] w fun e w' => ∃ v, e = .returned v ∧ (∀ W, Below w'.heap.size w' W → Kr W v bksK) ∧ Below w.heap.size w w' := by
  go_enter Tryz.func7, Tryz.ntmps7
  go_wp2_with fail
  go_ret
  refine ⟨_, rfl, fun W hW => ?_, ?_⟩
  · have k1 : ∀ (a b c : Obj) (X : World), X = ((w.alloc a).alloc b).alloc c → X.heap[w.heap.size]? = some a ∧ X.heap[w.heap.size + 1]? = some b ∧ X.heap[w.heap.size + 1 + 1]? = some c := fun a b c X hX => by
      subst hX
      exact three_allocs w a b c
    obtain ⟨e1, e2, e4⟩ := k1 _ _ _ _ rfl
    exact bks_kr ((hW.block _ (lt_of_block e1)).trans e1) ((hW.block _ (lt_of_block e2)).trans e2) ((hW.block _ (lt_of_block e4)).trans e4)
  · exact below_on (below_on (below_alloc w _) (below_alloc _ _)) (below_alloc _ _)
theorem bks_may : mayB bksK := by
  refine ⟨by decide, by decide, fun k hk => ?_, ?_⟩
  · simp only [bksK, List.mem_cons, List.not_mem_nil, or_false] at hk
    rcases hk with rfl | rfl | rfl
    · refine ⟨by decide, fun x hx => ?_, by decide⟩
      simp only [List.mem_cons, List.not_mem_nil, or_false] at hx
      rcases hx with rfl | rfl
      · exact ⟨by decide, by decide, by decide, by decide⟩
      · exact ⟨by decide, by decide, by decide, by decide⟩
    · refine ⟨by decide, fun x hx => ?_, by decide⟩
      simp only [List.mem_cons, List.not_mem_nil, or_false] at hx
      rcases hx with rfl
      exact ⟨by decide, by decide, by decide, by decide⟩
    · exact ⟨by decide, fun x hx => absurd hx (by simp), by decide⟩
  · refine ⟨fun x hx => ?_, by decide⟩
    simp only [bksK, List.map_cons, List.map_nil, List.mem_cons, List.not_mem_nil, or_false] at hx
    rcases hx with rfl | rfl | rfl <;> exact ⟨by decide, by decide, by decide, by decide⟩
end Go.Proofs.YtiolaenkfhcajaaGreat
