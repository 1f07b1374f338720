/-
  Buffer: what the law's puts leave, plain: a list of commands by the numbers of its key.
-/
import Derived.Test.YtfjfimmbdnfeiaaBShw
import Derived.Test.YtfjfimmbdnfeiaaBPick
namespace Go.Proofs.Ytfjfimmbdnfeiaa
open Go.RowKit
/-- The command of the number k: it removes the kind k. -/
def cmR (k : Nat) : Cm := ⟨4, 0, 0, (k : Int), .slice none 0 0, .slice none 0 0⟩
def LK (key : Nat → Int × Int) (row : List Nat) : Int × Int → List Cm := fun x => (byK key row x).map cmR
theorem LK_nil (key : Nat → Int × Int) : LK key [] = fun _ => [] := rfl
/-- A put of the number k behind the others. -/
theorem LK_push (key : Nat → Int × Int) (row : List Nat) (k : Nat) {y : Int × Int} (hy : y = key k) : (fun e => if e = y then LK key row y ++ [cmR k] else LK key row e) = LK key (row ++ [k]) := by
  funext e
  unfold LK
  rw [byK_push]
  by_cases h : e = key k
  · rw [if_pos (by rw [hy]; exact h), if_pos h, h, hy, List.map_append]
    rfl
  · rw [if_neg (by rw [hy]; exact h), if_neg h]
/-- Rows with the same numbers at each key leave the same. -/
theorem LK_same {key : Nat → Int × Int} {a b : List Nat} (h : ∀ x, byK key a x = byK key b x) : LK key a = LK key b := by
  funext x
  unfold LK
  rw [h x]
/-- All of it: the numbers, key by key. -/
theorem allL_LK (key : Nat → Int × Int) (row : List Nat) (ss : List (Int × Int)) : allL (LK key row) ss = (ss.flatMap (byK key row)).map cmR := by
  unfold allL LK
  rw [List.map_flatMap]
theorem LK_ne {key : Nat → Int × Int} {row : List Nat} {x : Int × Int} : LK key row x ≠ [] ↔ ∃ i ∈ row, key i = x := by
  unfold LK
  rw [ne_eq, List.map_eq_nil_iff, List.eq_nil_iff_forall_not_mem]
  refine ⟨fun h => ?_, fun ⟨i, hi, hx⟩ h => h i ((byK_mem key).2 ⟨hi, hx⟩)⟩
  rcases Classical.em (∃ i ∈ row, key i = x) with h1 | h1
  · exact h1
  · exact absurd (fun i hi => h1 ⟨i, ((byK_mem key).1 hi).1, ((byK_mem key).1 hi).2⟩) h
/-- What All tells of n numbers: as many, each one of them, rising by key and then by number; and of another row with the same numbers at each key the same. -/
theorem all_told {key : Nat → Int × Int} {n : Nat} {ss : List (Int × Int)} (hm : ∀ x, x ∈ ss ↔ LK key (List.range n) x ≠ []) (hs : ss.Pairwise ltT) :
    ∃ t : List Nat, allL (LK key (List.range n)) ss = t.map cmR ∧ t.length = n ∧ (∀ p ∈ t, p < n) ∧ t.Pairwise (fun p q => ltT (key p) (key q) ∨ key p = key q ∧ p < q) := by
  refine ⟨ss.flatMap (byK key (List.range n)), allL_LK _ _ _, ?_, fun p hp => ?_, flat_sorted key List.pairwise_lt_range hs⟩
  · rw [flat_count key (List.range n) ss (nodup_lt hs) (fun i hi => (hm _).2 (LK_ne.2 ⟨i, hi, rfl⟩)), List.length_range]
  · obtain ⟨x, -, hx⟩ := List.mem_flatMap.1 hp
    exact List.mem_range.1 ((byK_mem key).1 hx).1
end Go.Proofs.Ytfjfimmbdnfeiaa
