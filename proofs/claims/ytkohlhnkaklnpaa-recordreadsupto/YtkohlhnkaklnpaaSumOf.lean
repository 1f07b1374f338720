/-
  record.sumOf: pack.Sum's four bytes.
-/
import Derived.Test.YtkohlhnkaklnpaaLent
import Derived.Test.YtkohlhnkaklnpaaMath
namespace Go.Proofs.Ytkohlhnkaklnpaa
open Go.RowKit

/-- The cells of a number's four bytes, the first k of them written. -/
def fourK (c k : Nat) : List Value := (List.range 4).map fun i => Value.int .u8 (if i < k then ((c / 2 ^ (8 * i) % 256 : Nat) : Int) else 0)
theorem fourK_cells (c : Nat) : fourK c 4 = Lib.byteCells (Rc.four c) := by
  simp [fourK, Rc.four, Lib.byteCells, List.range_succ]
theorem fourK_set (c : Nat) {k : Nat} (h : k < 4) : (fourK c k).set k (.int .u8 ((c / 2 ^ (8 * k) % 256 : Nat) : Int)) = fourK c (k + 1) := by
  rcases (show k = 0 ∨ k = 1 ∨ k = 2 ∨ k = 3 by omega) with rfl | rfl | rfl | rfl <;> simp [fourK, List.range_succ]
theorem shr8 (c k : Nat) : IntKind.u8.wrap ((c : Int) / 2 ^ (8 * k)) = ((c / 2 ^ (8 * k) % 256 : Nat) : Int) := by
  rw [show ((c : Int) / 2 ^ (8 * k)) = ((c / 2 ^ (8 * k) : Nat) : Int) by rw [Int.natCast_ediv]; norm_cast]
  rw [IntKind.wrap_u8]
  omega

set_option maxHeartbeats 1000000 in
set_option maxRecDepth 100000 in
theorem sumOf_any (v : Value) (l : List UInt8) (w : World) (h : Bs w v l) :
    Calls Try.prog 23 #[v] w fun e w' => e = .returned (.agg (Lib.byteCells (Rc.sum4 l)).toArray) ∧ Below w.heap.size w w' := by
  have hc := fun w' (h' : Bs w' v l) => sum_any v l w' h'
  have E := hide (show Rc.sum4 l = Rc.four (Crc.crc l) from rfl)
  generalize Crc.crc l = c at *
  go_enter Try.func23, Try.ntmps23
  go_wp2_with fail
  have hb0 : Below w.heap.size w (w.alloc (.cells #[.int .u8 0, .int .u8 0, .int .u8 0, .int .u8 0] 49)) := (Below.refl _ _).alloc (Nat.le_refl _) _
  have hr0 := heap_alloc_new w (.cells #[.int .u8 0, .int .u8 0, .int .u8 0, .int .u8 0] 49)
  have hs0 : (w.alloc (.cells #[.int .u8 0, .int .u8 0, .int .u8 0, .int .u8 0] 49)).heap.size = w.heap.size + 1 := by simp
  have h' := h.below hb0 (Nat.le_refl _)
  generalize w.alloc (.cells #[.int .u8 0, .int .u8 0, .int .u8 0, .int .u8 0] 49) = w1 at *
  refine (hc _ h').mono ?_
  rintro e w' ⟨rfl, rfl⟩
  clear hc h h'
  have HR0 := hide hr0
  have HS0 := hide hs0
  clear hr0 hs0
  go_wp2_with fail
  go_loopw [8] (fun i wr => ∃ k : Nat, k ≤ 4 ∧ i = .int .i64 k ∧ wr.heap[w'.heap.size]? = some (.cells (fourK c k).toArray 49 (0, 0)) ∧ Below w'.heap.size w' wr) (fun i _ => 4 - (intOf i).toNat)
  case atStart => exact ⟨0, by omega, rfl, heap_alloc_new _ _, (Below.refl _ _).alloc (Nat.le_refl _) _⟩
  case round =>
    obtain ⟨k, hk, rfl, hr, hb⟩ := hrel
    by_cases hlt : k < 4
    · have e1 : (k : Int) < 4 := by omega
      have hv := shr8 c k
      have hcl : wr.cell? ⟨w'.heap.size, k, none⟩ = some (.int .u8 0) := by
        rw [cell_of_row wr w'.heap.size k _ 49 (0, 0) hr]
        rcases (show k = 0 ∨ k = 1 ∨ k = 2 ∨ k = 3 by omega) with rfl | rfl | rfl | rfl <;> simp [fourK, List.range_succ]
      have hfz := frozen_of_row wr w'.heap.size k _ 49 hr
      have HR := hide hr
      clear hr
      go_wp2_with fail
      refine ⟨⟨k + 1, by omega, by go_num, ?_, hb.setCell (Nat.le_refl _) _⟩, by simp [intOf]; omega⟩
      have := heap_setCell_same wr w'.heap.size k _ 49 (.int .u8 ((c / 2 ^ (8 * k) % 256 : Nat) : Int)) HR.out
      rw [← fourK_set c hlt]
      simpa using this
    · obtain rfl : k = 4 := by omega
      obtain ⟨v0, v1, v2, v3, e4⟩ : ∃ v0 v1 v2 v3 : Int, fourK c 4 = [.int .u8 v0, .int .u8 v1, .int .u8 v2, .int .u8 v3] := ⟨_, _, _, _, by simp [fourK, List.range_succ]; exact ⟨rfl, rfl, rfl, rfl⟩⟩
      have E4 := hide e4
      rw [e4] at hr
      clear e4
      have hc0 : wr.cell? ⟨w'.heap.size, 0, none⟩ = some (.int .u8 v0) := by rw [cell_of_row wr _ 0 _ 49 (0, 0) hr]; rfl
      have hc1 : wr.cell? ⟨w'.heap.size, 1, none⟩ = some (.int .u8 v1) := by rw [cell_of_row wr _ 1 _ 49 (0, 0) hr]; rfl
      have hc2 : wr.cell? ⟨w'.heap.size, 2, none⟩ = some (.int .u8 v2) := by rw [cell_of_row wr _ 2 _ 49 (0, 0) hr]; rfl
      have hc3 : wr.cell? ⟨w'.heap.size, 3, none⟩ = some (.int .u8 v3) := by rw [cell_of_row wr _ 3 _ 49 (0, 0) hr]; rfl
      have hq : wr.heap[w.heap.size]? = some (.cells #[.int .u8 0, .int .u8 0, .int .u8 0, .int .u8 0] 49 (0, 0)) := by
        rw [hb.block _ (by have := HS0.out; omega)]
        exact HR0.out
      have hd0 : wr.cell? ⟨w.heap.size, 0, none⟩ = some (.int .u8 0) := by rw [cell_of_row wr _ 0 _ 49 (0, 0) hq]; rfl
      have hd1 : wr.cell? ⟨w.heap.size, 1, none⟩ = some (.int .u8 0) := by rw [cell_of_row wr _ 1 _ 49 (0, 0) hq]; rfl
      have hd2 : wr.cell? ⟨w.heap.size, 2, none⟩ = some (.int .u8 0) := by rw [cell_of_row wr _ 2 _ 49 (0, 0) hq]; rfl
      have hd3 : wr.cell? ⟨w.heap.size, 3, none⟩ = some (.int .u8 0) := by rw [cell_of_row wr _ 3 _ 49 (0, 0) hq]; rfl
      have hf0 := frozen_of_row wr w.heap.size 0 _ 49 hq
      have hf1 := frozen_of_row wr w.heap.size 1 _ 49 hq
      have hf2 := frozen_of_row wr w.heap.size 2 _ 49 hq
      have hf3 := frozen_of_row wr w.heap.size 3 _ 49 hq
      have HQ := hide hq
      have HR := hide hr
      clear hq hr
      go_wp2_with fail
      try simp only [Exit.inBlock, Exit.then]
      have hset : ((((wr.setCell ⟨w.heap.size, 0, none⟩ (.int .u8 v0)).setCell ⟨w.heap.size, 1, none⟩ (.int .u8 v1)).setCell ⟨w.heap.size, 2, none⟩ (.int .u8 v2)).setCell ⟨w.heap.size, 3, none⟩ (.int .u8 v3)).heap[w.heap.size]? = some (.cells #[.int .u8 v0, .int .u8 v1, .int .u8 v2, .int .u8 v3] 49 (0, 0)) := by
        have := heap_setCell_same _ w.heap.size 3 _ 49 (.int .u8 v3) (heap_setCell_same _ w.heap.size 2 _ 49 (.int .u8 v2) (heap_setCell_same _ w.heap.size 1 _ 49 (.int .u8 v1) (heap_setCell_same wr w.heap.size 0 _ 49 (.int .u8 v0) HQ.out)))
        simpa using this
      refine bodyPost_ret (results_cell_row rfl _ _ w.heap.size 49 _ (0, 0) _ rfl hset Try.underlying49 rfl (by kernel_rfl)) rfl ?_
      have hbw : Below w.heap.size w wr := hb0.trans (hb.mono (by have := HS0.out; omega))
      refine ⟨?_, ((((hbw.setCell (Nat.le_refl _) _).setCell (Nat.le_refl _) _).setCell (Nat.le_refl _) _).setCell (Nat.le_refl _) _)⟩
      rw [E.out, ← fourK_cells, E4.out]
end Go.Proofs.Ytkohlhnkaklnpaa
