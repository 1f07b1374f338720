/-
  Dice in memory, the program's and the document's: New, Next.
-/
import Derived.Test.YtihlhidpiehehaaFall
namespace Go.Proofs.Ytihlhidpiehehaa
open Go.RowKit
def Dz (w : World) (g : Nat) (s : Int) : Prop := w.heap[g]? = some (.cells #[.int .u32 (lo s), .int .u32 (hi s)] 56 (0, 0)) ∧ 0 ≤ s ∧ s < 18446744073709551616
def Rz (w : World) (g : Nat) (s : Int) : Prop := w.heap[g]? = some (.cells #[.int .u64 s] 58 (0, 0)) ∧ 0 ≤ s ∧ s < 18446744073709551616
section
variable {w w' : World} {g : Nat} {s : Int}
theorem Dz.lt (h : Dz w g s) : g < w.heap.size := lt_of_block h.1
theorem Rz.lt (h : Rz w g s) : g < w.heap.size := lt_of_block h.1
theorem Dz.later (h : Dz w g s) (hb : Below w.heap.size w w') : Dz w' g s := ⟨(hb.block g h.lt).trans h.1, h.2⟩
theorem Rz.later (h : Rz w g s) (hb : Below w.heap.size w w') : Rz w' g s := ⟨(hb.block g h.lt).trans h.1, h.2⟩
theorem Dz.frame {S : Nat → Prop} (h : Dz w g s) (hm : Mv w w' S) (hg : ¬ S g) : Dz w' g s := ⟨hm.at h.1 hg, h.2⟩
theorem Rz.frame {S : Nat → Prop} (h : Rz w g s) (hm : Mv w w' S) (hg : ¬ S g) : Rz w' g s := ⟨hm.at h.1 hg, h.2⟩
end
theorem next_any {w : World} {g : Nat} {s : Int} (h : Dz w g s) : Calls Try.prog 17 #[.pointer (some ⟨g, 0, none⟩)] w fun e w' => e = .returned (.int .u64 (mixI s)) ∧ Dz w' g (nxt s) ∧ Mv w w' (fun k => k = g) := by
  have JN := hide (fun W => number_any s W h.2.1 h.2.2)
  have JM := hide (fun W => mix_any s W h.2.1 h.2.2)
  have JO := hide (fun W => on_any s W h.2.1 h.2.2)
  have H := hide h
  have c0 : w.cell? ⟨g, 0, none⟩ = some (.int .u32 (lo s)) := by rw [cell_of_row w _ _ _ 56 (0, 0) h.1]; rfl
  have c1 : w.cell? ⟨g, 1, none⟩ = some (.int .u32 (hi s)) := by rw [cell_of_row w _ _ _ 56 (0, 0) h.1]; rfl
  unfold stv at *
  clear h
  generalize mixI s = M at *
  have HN := hide (nxt_b s)
  go_enter Try.func17, Try.ntmps17
  go_wp2_with fail
  refine (JN.out _).mono ?_
  rintro e w1 ⟨rfl, hb1⟩
  go_wp2_with fail
  refine (JM.out _).mono ?_
  rintro e w1' ⟨rfl, rfl⟩
  have H1 := hide (H.out.later hb1)
  have d0 : w1'.cell? ⟨g, 0, none⟩ = some (.int .u32 (lo s)) := by rw [cell_of_row w1' _ _ _ 56 (0, 0) H1.out.1]; rfl
  have d1 : w1'.cell? ⟨g, 1, none⟩ = some (.int .u32 (hi s)) := by rw [cell_of_row w1' _ _ _ 56 (0, 0) H1.out.1]; rfl
  have HB1 := hide hb1
  clear c0 c1 hb1
  go_wp2_with fail
  refine (JO.out _).mono ?_
  rintro e w2 ⟨rfl, hb2⟩
  have H2 := hide (H1.out.later hb2)
  have HB2 := hide (below_on HB1.out hb2)
  have f0 : w2.frozen? ⟨g, 0, none⟩ = false := frozen_of_row w2 _ 0 _ 56 H2.out.1
  have f1 : w2.frozen? ⟨g, 1, none⟩ = false := frozen_of_row w2 _ 1 _ 56 H2.out.1
  have e0 : w2.cell? ⟨g, 0, none⟩ = some (.int .u32 (lo s)) := by rw [cell_of_row w2 _ _ _ 56 (0, 0) H2.out.1]; rfl
  have e1 : w2.cell? ⟨g, 1, none⟩ = some (.int .u32 (hi s)) := by rw [cell_of_row w2 _ _ _ 56 (0, 0) H2.out.1]; rfl
  clear d0 d1 hb2
  go_wp2_with fail
  go_ret
  have q1 := heap_setCell_same w2 g 0 _ 56 (.int .u32 (lo (nxt s))) H2.out.1
  have q2 := heap_setCell_same (w2.setCell ⟨g, 0, none⟩ (.int .u32 (lo (nxt s)))) g 1 _ 56 (.int .u32 (hi (nxt s))) q1
  exact ⟨rfl, ⟨q2, HN.out⟩, ((Mv.of_below HB2.out (fun k => k = g)).set rfl _ _).set rfl _ _⟩
theorem dnext_any {w : World} {g : Nat} {s : Int} (h : Rz w g s) : Calls Try.prog 24 #[.pointer (some ⟨g, 0, none⟩)] w fun e w' => e = .returned (.int .u64 (mixI s)) ∧ Rz w' g (nxt s) ∧ Mv w w' (fun k => k = g) := by
  have JM := hide (fun W => dmix_any s W h.2.1 h.2.2)
  have H := hide h
  have c0 : w.cell? ⟨g, 0, none⟩ = some (.int .u64 s) := by rw [cell_of_row w _ _ _ 58 (0, 0) h.1]; rfl
  have f0 : w.frozen? ⟨g, 0, none⟩ = false := frozen_of_row w _ 0 _ 58 h.1
  clear h
  generalize mixI s = M at *
  have HN := hide (nxt_b s)
  have hn : IntKind.u64.wrap (s + 11400714819323198485) = nxt s := IntKind.wrap_u64 _
  go_enter Try.func24, Try.ntmps24
  go_wp2_with fail
  refine (JM.out _).mono ?_
  rintro e w1 ⟨rfl, rfl⟩
  go_wp2_with fail
  go_ret
  have q1 := heap_setCell_same w1 g 0 _ 58 (.int .u64 (nxt s)) H.out.1
  exact ⟨rfl, ⟨q1, HN.out⟩, (Mv.refl _ (fun k => k = g)).set rfl _ _⟩
def seedS (a b c d : Int) : Int := mixI (bits .xor .u64 (mixI (bits .xor .u64 (mixI (bits .xor .u64 (mixI (IntKind.u64.wrap a)) (IntKind.u64.wrap b))) (IntKind.u64.wrap c))) (IntKind.u64.wrap d))
theorem wrap_b (a : Int) : 0 ≤ IntKind.u64.wrap a ∧ IntKind.u64.wrap a < 18446744073709551616 := by rw [IntKind.wrap_u64]; omega
theorem xor_b (a b : Int) : 0 ≤ bits .xor .u64 a b ∧ bits .xor .u64 a b < 18446744073709551616 := ⟨bits_lo_u64 _ _ _, by have := bits_hi_u64 .xor a b; omega⟩
theorem seedS_b (a b c d : Int) : 0 ≤ seedS a b c d ∧ seedS a b c d < 18446744073709551616 := ⟨mixI_lo _, mixI_hi _⟩
theorem dnew_any (a b c d : Int) (w : World) : Calls Try.prog 10 #[.int .i64 a, .int .i64 b, .int .i64 c, .int .i64 d] w fun e w' => e = .returned (.pointer (some ⟨w.heap.size, 0, none⟩)) ∧ Rz w' w.heap.size (seedS a b c d) ∧ Below w.heap.size w w' := by
  have JM := hide (fun x (h : 0 ≤ x ∧ x < 18446744073709551616) W => dmix_any x W h.1 h.2)
  go_enter Try.func10, Try.ntmps10
  go_wp2_with fail
  refine (JM.out _ (wrap_b _) _).mono ?_
  rintro e w1 ⟨rfl, rfl⟩
  go_wp2_with fail
  refine (JM.out _ (xor_b _ _) _).mono ?_
  rintro e w1 ⟨rfl, rfl⟩
  go_wp2_with fail
  refine (JM.out _ (xor_b _ _) _).mono ?_
  rintro e w1 ⟨rfl, rfl⟩
  go_wp2_with fail
  refine (JM.out _ (xor_b _ _) _).mono ?_
  rintro e w1 ⟨rfl, rfl⟩
  go_wp2_with fail
  go_ret
  exact ⟨rfl, ⟨heap_alloc_new _ _, seedS_b a b c d⟩, below_alloc _ _⟩
theorem new_any (a b c d : Int) (w : World) : Calls Try.prog 9 #[.int .i64 a, .int .i64 b, .int .i64 c, .int .i64 d] w fun e w' => ∃ g, e = .returned (.pointer (some ⟨g, 0, none⟩)) ∧ w.heap.size ≤ g ∧ Dz w' g (seedS a b c d) ∧ Below w.heap.size w w' := by
  have JM := hide (fun x (h : 0 ≤ x ∧ x < 18446744073709551616) W => mix_any x W h.1 h.2)
  have JS := hide (fun W => stateOf_any (seedS a b c d) W (seedS_b a b c d).1 (seedS_b a b c d).2)
  unfold stv at JS
  have i0 : ∀ w, (Instr.index 50 (.agg #[.int .i64 b, .int .i64 c, .int .i64 d]) (.int .i64 0)).run Try.prog w = .ok (.int .i64 b) w := fun _ => by kernel_rfl
  have i1 : ∀ w, (Instr.index 50 (.agg #[.int .i64 b, .int .i64 c, .int .i64 d]) (.int .i64 1)).run Try.prog w = .ok (.int .i64 c) w := fun _ => by kernel_rfl
  have i2 : ∀ w, (Instr.index 50 (.agg #[.int .i64 b, .int .i64 c, .int .i64 d]) (.int .i64 2)).run Try.prog w = .ok (.int .i64 d) w := fun _ => by kernel_rfl
  go_enter Try.func9, Try.ntmps9
  go_wp2_with fail
  refine (JM.out _ (wrap_b _) _).mono ?_
  rintro e w1 ⟨rfl, rfl⟩
  go_wp2_with fail
  refine wp_loop_rounds 4 ?_
  rw [rounds_succ]
  go_wp2_with fail
  refine (JM.out _ (xor_b _ _) _).mono ?_
  rintro e w1 ⟨rfl, rfl⟩
  go_wp2_with fail
  rw [rounds_succ]
  go_wp2_with fail
  refine (JM.out _ (xor_b _ _) _).mono ?_
  rintro e w1 ⟨rfl, rfl⟩
  go_wp2_with fail
  rw [rounds_succ]
  go_wp2_with fail
  refine (JM.out _ (xor_b _ _) _).mono ?_
  rintro e w1 ⟨rfl, rfl⟩
  go_wp2_with fail
  rw [rounds_succ]
  go_wp2_with fail
  refine (JS.out _).mono ?_
  rintro e w2 ⟨rfl, hb⟩
  have HB := hide hb
  clear hb
  go_wp2_with fail
  go_ret
  exact ⟨_, rfl, HB.out.size, ⟨heap_alloc_new _ _, seedS_b a b c d⟩, below_on HB.out (below_alloc _ _)⟩
end Go.Proofs.Ytihlhidpiehehaa
