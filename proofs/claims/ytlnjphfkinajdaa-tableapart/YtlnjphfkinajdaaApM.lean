/-
  What each call does to two tables of one column, as Apart needs it.
-/
import Derived.Test.YtlnjphfkinajdaaTwo
import Derived.Test.YtlnjphfkinajdaaKpM
namespace Go.Proofs.Ytlnjphfkinajdaa
open Go.RowKit
section
variable {B : Nat} {N N' : Nat → Prop} {W W' : World} {g1 g2 n1 n2 n1' m : Nat} {r1 r2 r1' : List (Int × Int)} {c1 c2 c1' : List (List Int)}
/-- A table that had at most m turns. -/
def Sm (m n : Nat) (r : List (Int × Int)) (c : List (List Int)) : Prop := n ≤ m ∧ r.length ≤ m ∧ c.length = 1
theorem T2.opx {fn : Nat} {args : Array Value} {Q : Ending → Prop} {R : Nat → List (Int × Int) → List (List Int) → Prop} (h : T2 B N W g1 g2 n1 n2 r1 c1 r2 c2)
    (hc : ∀ M : Nat → Prop, (∀ k, N k → M k) → Tf B M W g1 n1 r1 c1 → Calls Try.prog fn args W fun e w' => Q e ∧ ∃ n r c, R n r c ∧ Tf B M w' g1 n r c ∧ KeptN M W w' ∧ Below B W w') :
    Calls Try.prog fn args W fun e w' => Q e ∧ ∃ n r c, Hid (R n r c ∧ T2 B N w' g1 g2 n n2 r c r2 c2 ∧ KeptN N W w' ∧ Below B W w') := by
  obtain ⟨S1, S2, h1, h2, h3, h4, h5, h6⟩ := h
  have htf : Tf B (fun k => N k ∨ S2 k) W g1 n1 r1 c1 := ⟨S1, h1, fun k e => ⟨(h3 k e).1, (h3 k e).2.1, fun e' => by
    rcases e' with e' | e'
    · exact (h3 k e).2.2.1 e'
    · exact (h3 k e).2.2.2 e'⟩, fun k e => by
    rcases e with e | e
    · exact h5 k e
    · exact (h4 k e).2.1, h6⟩
  refine (hc _ (fun k e => .inl e) htf).mono ?_
  rintro e w' ⟨q, n, r, c, hR, ⟨S, t1, t2, t3, t4⟩, kn, hb⟩
  have hm : Mv W w' (fun k => B ≤ k ∧ ¬ (N k ∨ S2 k)) := ⟨hb.os, hb.tape, hb.output, hb.size, fun k hk hn => by
    by_cases hB : B ≤ k
    · exact kn k (Classical.byContradiction fun e => hn ⟨hB, e⟩)
    · exact hb.block k (by omega)⟩
  have hs := hb.size
  refine ⟨q, n, r, c, hR, ⟨S, S2, t1, h2.frame hm (fun k e e' => e'.2 (.inr e)), fun k e => ⟨(t2 k e).1, (t2 k e).2.1, fun e' => (t2 k e).2.2 (.inl e'), fun e' => (t2 k e).2.2 (.inr e')⟩, fun k e => ⟨(h4 k e).1, by have := (h4 k e).2.1; omega, (h4 k e).2.2.1, fun e' => (t2 k e').2.2 (.inr e)⟩, fun k e => by have := h5 k e; omega, by omega⟩, fun k e => kn k (.inl e), hb⟩
theorem tf_addx (h : Tf B N W g1 n1 r1 c1) (a b : Int) (v : Value) (x : Int) (hv : Iz W v [x]) (hvN : ∀ k, v.ownBlock = some k → N k) (hb : InB (a, b)) (hm : Sm m n1 r1 c1) (h160 : m ≤ 160) :
    Calls Try.prog 12 #[.pointer (some ⟨g1, 0, none⟩), .agg #[.int .i64 a, .int .i64 b], v] W fun e w' => (∃ y z : Int, e = .returned (.tuple #[.int .i64 y, .int .i64 z])) ∧ ∃ n r c, (Sm (m + 1) n r c ∧ 0 < r.length) ∧ Tf B N w' g1 n r c ∧ KeptN N W w' ∧ Below B W w' := by
  obtain ⟨m1, m2, m3⟩ := hm
  by_cases he : (a, b) ∈ r1
  · obtain ⟨S, h1, h2, h3, h4⟩ := id h
    refine (add_has h1 a b v [x] hv (by simp [m3]) hb he).mono ?_
    rintro e w' ⟨rfl, hbw⟩
    exact ⟨⟨_, _, rfl⟩, n1, r1, c1, ⟨⟨by omega, by omega, m3⟩, List.length_pos_of_mem he⟩, h.later hbw, fun k e => hbw.block k (h3 k e), hbw.mono h4⟩
  · refine (tf_add h a b v [x] hv hvN (by simp [m3]) hb he (by omega) (by omega)).mono ?_
    rintro e w' ⟨rfl, t1, t2, t3⟩
    exact ⟨⟨_, _, rfl⟩, _, _, _, ⟨⟨by omega, by simp; omega, by rw [addRow_len]; exact m3⟩, by simp⟩, t1, t2, t3⟩
theorem tf_remx (h : Tf B N W g1 n1 r1 c1) (row : Nat) (hr : row < r1.length) (hm : Sm m n1 r1 c1) (h160 : m ≤ 160) :
    Calls Try.prog 13 #[.pointer (some ⟨g1, 0, none⟩), .int .i64 (row : Int)] W fun e w' => (∃ y z u : Value, e = .returned (.tuple #[y, z, u])) ∧ ∃ n r c, Sm (m + 1) n r c ∧ Tf B N w' g1 n r c ∧ KeptN N W w' ∧ Below B W w' := by
  obtain ⟨m1, m2, m3⟩ := hm
  refine (tf_remove h row hr (by omega)).mono ?_
  rintro e w' ⟨rfl, t1, t2, t3⟩
  exact ⟨⟨_, _, _, rfl⟩, _, _, _, ⟨by omega, by rw [rem_len]; omega, by rw [remCols_len]; exact m3⟩, t1, t2, t3⟩
theorem tf_setx (h : Tf B N W g1 n1 r1 c1) (x : Int) (hr : 0 < r1.length) (hm : Sm m n1 r1 c1) :
    Calls Try.prog 18 #[.pointer (some ⟨g1, 0, none⟩), .int .i64 0, .int .i64 0, .int .i64 x] W fun e w' => e = .returned (.int .i64 0) ∧ ∃ n r c, Sm m n r c ∧ Tf B N w' g1 n r c ∧ KeptN N W w' ∧ Below B W w' := by
  obtain ⟨m1, m2, m3⟩ := hm
  refine (tf_set h 0 0 x hr (by omega)).mono ?_
  rintro e w' ⟨rfl, t1, t2, t3⟩
  exact ⟨rfl, _, _, _, ⟨m1, m2, by simpa using m3⟩, t1, t2, t3⟩
theorem t2_col (h : T2 B N W g1 g2 n1 n2 r1 c1 r2 c2) (hc : c2.length = 1) : Calls Try.prog 16 #[.pointer (some ⟨g2, 0, none⟩), .int .i64 0] W fun e w' => ∃ a c, e = .returned (.tuple #[.slice a r2.length c, .int .i64 0]) ∧ Hid (w'.ownsRow W.heap.size 2 1 (.slice a r2.length c) r2.length (zc (c2[0]'(by omega))) ∧ Below W.heap.size W w' ∧ T2 B N w' g1 g2 n1 n2 r1 c1 r2 c2) := by
  obtain ⟨S, hb⟩ := h.swap.tb
  refine (column_any hb 0 (by omega)).mono ?_
  rintro e w' ⟨v, rfl, h1, h2⟩
  obtain ⟨a, c, rfl⟩ := own_len h1
  exact ⟨a, c, rfl, h1, h2, h.fence h2 (fun k e => by
    obtain ⟨S1, S2, -, -, -, -, h5, -⟩ := h
    exact ⟨.inl e, Nat.lt_of_lt_of_le (h5 k e) h2.size⟩)⟩
theorem t2_len1 (h : T2 B N W g1 g2 n1 n2 r1 c1 r2 c2) : Calls Try.prog 14 #[.pointer (some ⟨g1, 0, none⟩)] W fun e w' => e = .returned (.int .i64 (r1.length : Int)) ∧ w' = W := by
  obtain ⟨S, hb⟩ := h.tb
  exact len_any hb
theorem t2_len2 (h : T2 B N W g1 g2 n1 n2 r1 c1 r2 c2) : Calls Try.prog 14 #[.pointer (some ⟨g2, 0, none⟩)] W fun e w' => e = .returned (.int .i64 (r2.length : Int)) ∧ w' = W := t2_len1 h.swap
theorem T2.lt (h : T2 B N W g1 g2 n1 n2 r1 c1 r2 c2) : ∀ k, N k → k < W.heap.size := by
  obtain ⟨S1, S2, -, -, -, -, h5, -⟩ := h
  exact h5
theorem T2.size (h : T2 B N W g1 g2 n1 n2 r1 c1 r2 c2) : B ≤ W.heap.size := by
  obtain ⟨S1, S2, -, -, -, -, -, h6⟩ := h
  exact h6
theorem T2.less (h : T2 B N W g1 g2 n1 n2 r1 c1 r2 c2) (hN : ∀ k, N' k → N k) : T2 B N' W g1 g2 n1 n2 r1 c1 r2 c2 := h.fence (Below.refl _ _) (fun k e => ⟨.inl (hN k e), h.lt k (hN k e)⟩)
/-- Two tables of at most m turns each. -/
def Q2 (B : Nat) (N : Nat → Prop) (W : World) (g1 g2 m : Nat) : Prop := ∃ n1 n2 r1 c1 r2 c2, T2 B N W g1 g2 n1 n2 r1 c1 r2 c2 ∧ Sm m n1 r1 c1 ∧ Sm m n2 r2 c2
theorem Q2.swap (h : Q2 B N W g1 g2 m) : Q2 B N W g2 g1 m := by
  obtain ⟨n1, n2, r1, c1, r2, c2, h1, h2, h3⟩ := h
  exact ⟨_, _, _, _, _, _, h1.swap, h3, h2⟩
/-- What is kept of N is owned as it was. -/
theorem own_keptN {v : Value} {b e s n : Nat} {xs : List Value} (h : W.ownsRow b e s v n xs) (hk : KeptN N W W') (hN : ∀ k, v.ownBlock = some k → N k) : W'.ownsRow b e s v n xs := by
  refine ⟨h.1, ?_⟩
  rcases h.2 with h0 | ⟨g, cap, cur, rfl, hb, hg, hr⟩
  · exact .inl h0
  · exact .inr ⟨g, cap, cur, rfl, hb, (hk g (hN g rfl)).trans hg, hr⟩
theorem iz_one (w : World) (x : Int) {W : World} (hb : Below (w.alloc (.cells #[.int .i64 x] 2)).heap.size (w.alloc (.cells #[.int .i64 x] 2)) W) : Iz W (.slice (some ⟨w.heap.size, 0, none⟩) 1 1) [x] := by
  have hr : W.heap[w.heap.size]? = some (.cells #[.int .i64 x] 2 (0, 0)) := (hb.block _ (by simp)).trans (heap_alloc_new w _)
  refine ⟨_, 1, rfl, Nat.le_refl _, by unfold maxLen; omega, fun j hj => ⟨w.heap.size, 0, rfl, ?_⟩⟩
  rw [cell_of_row W w.heap.size _ _ 2 (0, 0) hr]
  match j, hj with
  | 0, _ => rfl
end
end Go.Proofs.Ytlnjphfkinajdaa
