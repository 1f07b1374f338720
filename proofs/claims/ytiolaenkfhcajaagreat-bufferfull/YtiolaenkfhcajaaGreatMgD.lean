import Derived.Test.YtiolaenkfhcajaaGreatBShw
/-
  Buffer: what the law's puts leave, plain: a list of commands by the numbers of its key.
-/
namespace Go.Proofs.YtiolaenkfhcajaaGreat
open Go.RowKit
/-- The command of the number k: it removes the kind k. -/
def cmR (k : Nat) : Cm := ⟨4, 0, 0, (k : Int), .slice none 0 0, .slice none 0 0⟩
def LK (key : Nat → Int × Int) (row : List Nat) : Int × Int → List Cm := fun x => (byK key row x).map cmR
theorem LK_nil (key : Nat → Int × Int) : LK key [] = fun _ => [] := rfl
/-- A put of the number k behind the others. -/
theorem LK_push (key : Nat → Int × Int) (row : List Nat) (k : Nat) {y : Int × Int} (hy : y = key k) : (fun e => if e = y then LK key row y ++ [cmR k] else LK key row e) = LK key (row ++ [k]) := by
  funext e
  unfold LK
  rw [byK_push]
  by_cases h : e = key k
  · rw [if_pos (by rw [hy]; exact h), if_pos h, h, hy, List.map_append]
    rfl
  · rw [if_neg (by rw [hy]; exact h), if_neg h]
/-- Rows with the same numbers at each key leave the same. -/
theorem LK_same {key : Nat → Int × Int} {a b : List Nat} (h : ∀ x, byK key a x = byK key b x) : LK key a = LK key b := by
  funext x
  unfold LK
  rw [h x]
/-- All of it: the numbers, key by key. -/
theorem allL_LK (key : Nat → Int × Int) (row : List Nat) (ss : List (Int × Int)) : allL (LK key row) ss = (ss.flatMap (byK key row)).map cmR := by
  unfold allL LK
  rw [List.map_flatMap]
theorem LK_ne {key : Nat → Int × Int} {row : List Nat} {x : Int × Int} : LK key row x ≠ [] ↔ ∃ i ∈ row, key i = x := by
  unfold LK
  rw [ne_eq, List.map_eq_nil_iff, List.eq_nil_iff_forall_not_mem]
  refine ⟨fun h => ?_, fun ⟨i, hi, hx⟩ h => h i ((byK_mem key).2 ⟨hi, hx⟩)⟩
  rcases Classical.em (∃ i ∈ row, key i = x) with h1 | h1
  · exact h1
  · exact absurd (fun i hi => h1 ⟨i, ((byK_mem key).1 hi).1, ((byK_mem key).1 hi).2⟩) h
/-- What All tells of n numbers: as many, each one of them, rising by key and then by number; and of another row with the same numbers at each key the same. -/
theorem all_told {key : Nat → Int × Int} {n : Nat} {ss : List (Int × Int)} (hm : ∀ x, x ∈ ss ↔ LK key (List.range n) x ≠ []) (hs : ss.Pairwise ltT) :
    ∃ t : List Nat, allL (LK key (List.range n)) ss = t.map cmR ∧ t.length = n ∧ (∀ p ∈ t, p < n) ∧ t.Pairwise (fun p q => ltT (key p) (key q) ∨ key p = key q ∧ p < q) := by
  refine ⟨ss.flatMap (byK key (List.range n)), allL_LK _ _ _, ?_, fun p hp => ?_, flat_sorted key List.pairwise_lt_range hs⟩
  · rw [flat_count key (List.range n) ss (nodup_lt hs) (fun i hi => (hm _).2 (LK_ne.2 ⟨i, hi, rfl⟩)), List.length_range]
  · obtain ⟨x, -, hx⟩ := List.mem_flatMap.1 hp
    exact List.mem_range.1 ((byK_mem key).1 hx).1
end Go.Proofs.YtiolaenkfhcajaaGreat

/-
  Buffer: a buffer of the law: Put of a number, All of it.
-/
namespace Go.Proofs.YtiolaenkfhcajaaGreat
open Go.RowKit
set_option maxRecDepth 100000
/-- A buffer that holds a row of numbers; but for its own two blocks, what it holds is new. -/
def Bk (B : Nat) (W : World) (g gx : Nat) (key : Nat → Int × Int) (row : List Nat) : Prop :=
  ∃ S U n f, Bg W S U g gx n f (LK key row) row.length ∧ (∀ k, S k → k = g ∨ k = gx ∨ B ≤ k) ∧ ∀ k, U k → B ≤ k
section
variable {B g gx : Nat} {W w' : World} {key : Nat → Int × Int} {row : List Nat}
theorem Bk.frame {R : Nat → Prop} (h : Bk B W g gx key row) (hm : Mv W w' R) (h1 : ¬ R g) (h2 : ¬ R gx) (h3 : ∀ k, B ≤ k → k < W.heap.size → ¬ R k) : Bk B w' g gx key row := by
  obtain ⟨S, U, n, f, hb, hs, hu⟩ := h
  refine ⟨S, U, n, f, hb.frame hm (fun j hj => ?_) (fun j hj => h3 j (hu j hj) (hb.bu j hj)), hs, hu⟩
  rcases hs j hj with rfl | rfl | h
  · exact h1
  · exact h2
  · exact h3 j h (hb.bs j hj)
theorem Bk.later (h : Bk B W g gx key row) (hb : Below W.heap.size W w') : Bk B w' g gx key row := h.frame (Mv.of_below hb (fun _ => False)) id id (fun _ _ _ => id)
theorem Bk.lt (h : Bk B W g gx key row) : g < W.heap.size ∧ gx < W.heap.size := by
  obtain ⟨S, U, n, f, hb, -, -⟩ := h
  exact ⟨hb.bs g hb.sb, hb.bs gx hb.sm⟩
theorem bput_row (h : Bk B W g gx key row) (hB : B ≤ W.heap.size) (hn : row.length < 100000) (k : Nat) (x y g1 : Int) (hk : (x, y) = key k) (hi : InB (x, y)) :
    Calls Tryz.prog 9 #[.pointer (some ⟨g, 0, none⟩), .int .i64 x, .agg #[.int .i64 y, .int .i64 g1], .agg #[.int .i64 4, .int .i64 0, .int .i64 0, .int .i64 (k : Int), .slice none 0 0, .slice none 0 0]] W fun e w' => e = .returned (.int .i64 0) ∧ Bk B w' g gx key (row ++ [k]) ∧ Mv W w' (fun j => j = g ∨ j = gx ∨ B ≤ j) := by
  obtain ⟨S, U, n, f, hb, hs, hu⟩ := h
  refine (bput_any (P := fun _ => False) (c := cmR k) hb x y g1 hi ⟨rfl, .inl rfl⟩ hn).mono ?_
  rintro e w' ⟨rfl, S', U', n', f', c', ⟨-, -, -, -, e5, -⟩, k1, k2, k3, k4⟩
  obtain rfl := e5 rfl
  rw [LK_push key row k hk] at k1
  refine ⟨rfl, ⟨S', U', n', f', by rw [List.length_append]; exact k1, fun j hj => ?_, fun j hj => ?_⟩, k2.mono (fun j _ hj => hs j hj)⟩
  · rcases k3 j hj with h | h
    · exact hs j h
    · exact .inr (.inr (by omega))
  · rcases k4 j hj with h | h
    · exact hu j h
    · omega
/-- All: the numbers, which hang on the row's numbers at each key alone. -/
theorem ball_row (h : Bk B W g gx key row) (hn : row.length ≤ 100000) (hr : ∀ x, byK key row x = byK key (List.range row.length) x) :
    Calls Tryz.prog 12 #[.pointer (some ⟨g, 0, none⟩)] W fun e w' => ∃ a c ss, e = .returned (.slice a row.length c) ∧ (∀ x, x ∈ ss ↔ LK key (List.range row.length) x ≠ []) ∧ ss.Pairwise ltT ∧ (∀ t : List Nat, allL (LK key (List.range row.length)) ss = t.map cmR → ∀ j (hj : j < t.length), ∃ gl, a = some ⟨gl, 0, none⟩ ∧ w'.cell? ⟨gl, j * 6 + 3, none⟩ = some (.int .i64 (t[j] : Int))) ∧ Below W.heap.size W w' := by
  obtain ⟨S, U, n, f, hb, hs, hu⟩ := h
  rw [LK_same hr] at hb
  refine (ball_any hb hn).mono ?_
  rintro e w' ⟨v, ss, l, rfl, ⟨q1, q2⟩, ⟨q3, q4⟩, q5, q6⟩
  obtain ⟨t, h1, h2, -, -⟩ := all_told q1 q2
  have hl : l.length = row.length := by rw [q3, h1, List.length_map, h2]
  obtain ⟨a, c, rfl⟩ := own_len q5
  refine ⟨a, c, ss, by rw [hl], q1, q2, fun t' ht' j hj => ?_, q6⟩
  have ht : t'.length = l.length := by rw [q3, ht', List.length_map]
  have hjl : j < l.length := by omega
  have hkd : l[j].kd = (t'[j] : Int) := by
    rw [(q4 j hjl (by omega)).2]
    simp [ht', cmR]
  rcases q5.2 with ⟨-, e0⟩ | ⟨gl, cap, cur, eg, -, -, -⟩
  · omega
  · injection eg with eg
    refine ⟨gl, eg, ?_⟩
    subst eg
    obtain ⟨-, -, -, c3, -, -⟩ := cz_at l j hjl
    rw [hkd] at c3
    have h9 := (q5.cellAt (j * 6 + 3) (by omega)).trans c3
    first
    | exact h9
    | simpa using h9
end
end Go.Proofs.YtiolaenkfhcajaaGreat
