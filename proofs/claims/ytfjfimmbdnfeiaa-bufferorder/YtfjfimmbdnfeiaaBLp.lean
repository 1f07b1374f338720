/-
  Buffer: a buffer of the law: Put of a number, All of it.
-/
import Derived.Test.YtfjfimmbdnfeiaaBLk
namespace Go.Proofs.Ytfjfimmbdnfeiaa
open Go.RowKit
set_option maxRecDepth 100000
/-- A buffer that holds a row of numbers; but for its own two blocks, what it holds is new. -/
def Bk (B : Nat) (W : World) (g gx : Nat) (key : Nat → Int × Int) (row : List Nat) : Prop :=
  ∃ S U n f, Bg W S U g gx n f (LK key row) row.length ∧ (∀ k, S k → k = g ∨ k = gx ∨ B ≤ k) ∧ ∀ k, U k → B ≤ k
section
variable {B g gx : Nat} {W w' : World} {key : Nat → Int × Int} {row : List Nat}
theorem Bk.frame {R : Nat → Prop} (h : Bk B W g gx key row) (hm : Mv W w' R) (h1 : ¬ R g) (h2 : ¬ R gx) (h3 : ∀ k, B ≤ k → k < W.heap.size → ¬ R k) : Bk B w' g gx key row := by
  obtain ⟨S, U, n, f, hb, hs, hu⟩ := h
  refine ⟨S, U, n, f, hb.frame hm (fun j hj => ?_) (fun j hj => h3 j (hu j hj) (hb.bu j hj)), hs, hu⟩
  rcases hs j hj with rfl | rfl | h
  · exact h1
  · exact h2
  · exact h3 j h (hb.bs j hj)
theorem Bk.later (h : Bk B W g gx key row) (hb : Below W.heap.size W w') : Bk B w' g gx key row := h.frame (Mv.of_below hb (fun _ => False)) id id (fun _ _ _ => id)
theorem Bk.lt (h : Bk B W g gx key row) : g < W.heap.size ∧ gx < W.heap.size := by
  obtain ⟨S, U, n, f, hb, -, -⟩ := h
  exact ⟨hb.bs g hb.sb, hb.bs gx hb.sm⟩
theorem bput_row (h : Bk B W g gx key row) (hB : B ≤ W.heap.size) (hn : row.length < 100000) (k : Nat) (x y g1 : Int) (hk : (x, y) = key k) (hi : InB (x, y)) :
    Calls Try.prog 6 #[.pointer (some ⟨g, 0, none⟩), .int .i64 x, .agg #[.int .i64 y, .int .i64 g1], .agg #[.int .i64 4, .int .i64 0, .int .i64 0, .int .i64 (k : Int), .slice none 0 0, .slice none 0 0]] W fun e w' => e = .returned (.int .i64 0) ∧ Bk B w' g gx key (row ++ [k]) ∧ Mv W w' (fun j => j = g ∨ j = gx ∨ B ≤ j) := by
  obtain ⟨S, U, n, f, hb, hs, hu⟩ := h
  refine (bput_any (P := fun _ => False) (c := cmR k) hb x y g1 hi ⟨rfl, .inl rfl⟩ hn).mono ?_
  rintro e w' ⟨rfl, S', U', n', f', c', ⟨-, -, -, -, e5, -⟩, k1, k2, k3, k4⟩
  obtain rfl := e5 rfl
  rw [LK_push key row k hk] at k1
  refine ⟨rfl, ⟨S', U', n', f', by rw [List.length_append]; exact k1, fun j hj => ?_, fun j hj => ?_⟩, k2.mono (fun j _ hj => hs j hj)⟩
  · rcases k3 j hj with h | h
    · exact hs j h
    · exact .inr (.inr (by omega))
  · rcases k4 j hj with h | h
    · exact hu j h
    · omega
/-- All: the numbers, which hang on the row's numbers at each key alone. -/
theorem ball_row (h : Bk B W g gx key row) (hn : row.length ≤ 100000) (hr : ∀ x, byK key row x = byK key (List.range row.length) x) :
    Calls Try.prog 8 #[.pointer (some ⟨g, 0, none⟩)] W fun e w' => ∃ a c ss, e = .returned (.slice a row.length c) ∧ (∀ x, x ∈ ss ↔ LK key (List.range row.length) x ≠ []) ∧ ss.Pairwise ltT ∧ (∀ t : List Nat, allL (LK key (List.range row.length)) ss = t.map cmR → ∀ j (hj : j < t.length), ∃ gl, a = some ⟨gl, 0, none⟩ ∧ w'.cell? ⟨gl, j * 6 + 3, none⟩ = some (.int .i64 (t[j] : Int))) ∧ Below W.heap.size W w' := by
  obtain ⟨S, U, n, f, hb, hs, hu⟩ := h
  rw [LK_same hr] at hb
  refine (ball_any hb hn).mono ?_
  rintro e w' ⟨v, ss, l, rfl, ⟨q1, q2⟩, ⟨q3, q4⟩, q5, q6⟩
  obtain ⟨t, h1, h2, -, -⟩ := all_told q1 q2
  have hl : l.length = row.length := by rw [q3, h1, List.length_map, h2]
  obtain ⟨a, c, rfl⟩ := own_len q5
  refine ⟨a, c, ss, by rw [hl], q1, q2, fun t' ht' j hj => ?_, q6⟩
  have ht : t'.length = l.length := by rw [q3, ht', List.length_map]
  have hjl : j < l.length := by omega
  have hkd : l[j].kd = (t'[j] : Int) := by
    rw [(q4 j hjl (by omega)).2]
    simp [ht', cmR]
  rcases q5.2 with ⟨-, e0⟩ | ⟨gl, cap, cur, eg, -, -, -⟩
  · omega
  · injection eg with eg
    refine ⟨gl, eg, ?_⟩
    subst eg
    obtain ⟨-, -, -, c3, -, -⟩ := cz_at l j hjl
    rw [hkd] at c3
    have h9 := (q5.cellAt (j * 6 + 3) (by omega)).trans c3
    first
    | exact h9
    | simpa using h9
end
end Go.Proofs.Ytfjfimmbdnfeiaa
