/-
  pick, Get, and the document's example.
-/
import Derived.Test.YtiolaenkfhcajaaGreatTRem
namespace Go.Proofs.YtiolaenkfhcajaaGreat
open Go.RowKit
set_option maxRecDepth 100000
def pk (c : Int) (n : Nat) : Nat := ((if c < 0 then -(c + 1) else c).tmod n).toNat
theorem pk_of {c : Int} {n : Nat} (hn : 0 < n) : pk c n < n ∧ (if c < 0 then -(c + 1) else c).tmod n = (pk c n : Int) := by
  have key : ∀ x : Int, 0 ≤ x → (x.tmod n).toNat < n ∧ x.tmod n = ((x.tmod n).toNat : Int) := fun x hx => by
    have e1 := Int.tmod_eq_emod_of_nonneg (a := x) (b := n) hx
    have e2 := Int.emod_nonneg x (show (n : Int) ≠ 0 by omega)
    have e3 := Int.emod_lt_of_pos x (show (0 : Int) < n by omega)
    exact ⟨by omega, by omega⟩
  unfold pk
  split
  · exact key _ (by omega)
  · exact key _ (by omega)
theorem pk_lt (c : Int) {n : Nat} (hn : 0 < n) : pk c n < n := (pk_of hn).1
section
variable {w : World} {S : Nat → Prop} {g n : Nat} {rows : List (Int × Int)} {cols : List (List Int)}
end
theorem iz_two (w : World) (x y : Int) {W : World} (hb : Below (w.alloc (.cells #[.int .i64 x, .int .i64 y] 2)).heap.size (w.alloc (.cells #[.int .i64 x, .int .i64 y] 2)) W) : Iz W (.slice (some ⟨w.heap.size, 0, none⟩) 2 2) [x, y] := by
  have hr : W.heap[w.heap.size]? = some (.cells #[.int .i64 x, .int .i64 y] 2 (0, 0)) := (hb.block _ (by simp)).trans (heap_alloc_new w _)
  refine ⟨_, 2, rfl, Nat.le_refl _, by unfold maxLen; omega, fun j hj => ⟨w.heap.size, 0, rfl, ?_⟩⟩
  rw [cell_of_row W w.heap.size _ _ 2 (0, 0) hr]
  match j, hj with
  | 0, _ => rfl
  | 1, _ => rfl
theorem Tb.tight {w : World} {S : Nat → Prop} {g n : Nat} {rows : List (Int × Int)} {cols : List (List Int)} (h : Tb w S g n rows cols) : Tb w (fun k => S k ∧ k < w.heap.size) g n rows cols := by
  obtain ⟨lab, vr, gm, vc, cs, f, h1, h2, h3, ⟨s1, s2, s3, s4, s5⟩, h5⟩ := h
  refine ⟨lab, vr, gm, vc, cs, f, h1, h2, h3, ⟨⟨s1, h1.lt⟩, fun k e => ⟨s2 k e, (h1.2.1.lt k e).2⟩, ⟨s3, h1.2.2.1.lt⟩, fun k e => ⟨s4 k e, (h1.2.2.2.1.lt k e).2⟩, fun v hv k e => ⟨s5 v hv k e, ?_⟩⟩, h5⟩
  obtain ⟨i, hi, rfl⟩ := List.getElem_of_mem hv
  exact ((h1.2.2.2.2.2.1 i hi (by have := h1.2.2.2.2.1; omega)).lt k e).2
/-- A table beside other things: it lies above B, and nothing of N is its own. -/
def Tf (B : Nat) (N : Nat → Prop) (W : World) (g n : Nat) (rows : List (Int × Int)) (cols : List (List Int)) : Prop :=
  ∃ S, Tb W S g n rows cols ∧ (∀ k, S k → B ≤ k ∧ k < W.heap.size ∧ ¬ N k) ∧ (∀ k, N k → k < W.heap.size) ∧ B ≤ W.heap.size
def KeptN (N : Nat → Prop) (w w' : World) : Prop := ∀ k, N k → w'.heap[k]? = w.heap[k]?
section
variable {B : Nat} {N N' : Nat → Prop} {W W' : World} {g n n' : Nat} {rows rows' : List (Int × Int)} {cols cols' : List (List Int)}
theorem Tf.tb (h : Tf B N W g n rows cols) : ∃ S, Tb W S g n rows cols := by
  obtain ⟨S, h, -⟩ := h
  exact ⟨S, h⟩
theorem Tf.fence (h : Tf B N W g n rows cols) (hb : Below W.heap.size W W') (hN : ∀ k, N' k → (N k ∨ W.heap.size ≤ k) ∧ k < W'.heap.size) : Tf B N' W' g n rows cols := by
  obtain ⟨S, h1, h2, h3, h4⟩ := h
  have := hb.size
  refine ⟨S, h1.later hb, fun k e => ⟨(h2 k e).1, by have := (h2 k e).2.1; omega, fun e' => ?_⟩, fun k e => (hN k e).2, by omega⟩
  rcases (hN k e').1 with h | h
  · exact (h2 k e).2.2 h
  · have := (h2 k e).2.1; omega
theorem Tf.later (h : Tf B N W g n rows cols) (hb : Below W.heap.size W W') : Tf B N W' g n rows cols :=
  h.fence hb (fun k e => by obtain ⟨S, h1, h2, h3, h4⟩ := h; exact ⟨.inl e, Nat.lt_of_lt_of_le (h3 k e) hb.size⟩)
theorem Tf.write (h : Tf B N W g n rows cols) {k0 : Nat} (hk : N k0) (hg : W.grownBy W' (some k0)) : Tf B N W' g n rows cols := by
  obtain ⟨S, h1, h2, h3, h4⟩ := h
  have hm : Mv W W' (fun k => k = k0) := (Mv.refl _ _).grown hg (fun k _ e => (Option.some.inj e).symm)
  have := hm.size
  exact ⟨S, h1.frame hm (fun k e e' => (h2 k e).2.2 (e' ▸ hk)), fun k e => ⟨(h2 k e).1, by have := (h2 k e).2.1; omega, (h2 k e).2.2⟩, fun k e => Nat.lt_of_lt_of_le (h3 k e) this, by omega⟩
theorem Tf.turned {S : Nat → Prop} (h2 : ∀ k, S k → B ≤ k ∧ k < W.heap.size ∧ ¬ N k) (h3 : ∀ k, N k → k < W.heap.size) (h4 : B ≤ W.heap.size) (ht : Tb W' (Nw W S) g n rows cols) (hm : Mv W W' S) : Tf B N W' g n rows cols ∧ KeptN N W W' ∧ Below B W W' := by
  have hsz := hm.size
  refine ⟨⟨_, ht.tight, fun k e => ?_, fun k e => Nat.lt_of_lt_of_le (h3 k e) hsz, by omega⟩, fun k e => hm.2.2.2.2 k (h3 k e) (fun e' => (h2 k e').2.2 e), hm.below h4 (fun k e => (h2 k e).1)⟩
  rcases e.1 with h | h
  · exact ⟨(h2 k h).1, e.2, (h2 k h).2.2⟩
  · exact ⟨by omega, e.2, fun e' => by have := h3 k e'; omega⟩
theorem tf_add (h : Tf B N W g n rows cols) (a b : Int) (v : Value) (vals : List Int) (hv : Iz W v vals) (hvN : ∀ k, v.ownBlock = some k → N k) (hl : vals.length = cols.length) (hb : InB (a, b)) (he : (a, b) ∉ rows) (hr : rows.length < 200) (hn : n ≤ 1000000) :
    Calls Tryz.prog 80 #[.pointer (some ⟨g, 0, none⟩), .agg #[.int .i64 a, .int .i64 b], v] W fun e w' => e = .returned (.tuple #[.int .i64 (rows.length : Int), .int .i64 0]) ∧ Tf B N w' g (n + 1) (rows ++ [(a, b)]) (addRow cols vals) ∧ KeptN N W w' ∧ Below B W w' := by
  obtain ⟨S, h1, h2, h3, h4⟩ := h
  refine (add_any h1 a b v vals hv (fun k e => ⟨fun e' => (h2 k e').2.2 (hvN k e), h3 k (hvN k e)⟩) hl hb he hr hn).mono ?_
  rintro e w' ⟨rfl, t1, t2⟩
  exact ⟨rfl, Tf.turned h2 h3 h4 t1 t2⟩
theorem tf_remove (h : Tf B N W g n rows cols) (row : Nat) (hr : row < rows.length) (hn : n ≤ 1000000) :
    Calls Tryz.prog 81 #[.pointer (some ⟨g, 0, none⟩), .int .i64 (row : Int)] W fun e w' => e = .returned (.tuple #[if row = rows.length - 1 then .agg #[.int .i64 0, .int .i64 0] else .agg #[.int .i64 (rows[rows.length - 1]'(by omega)).1, .int .i64 (rows[rows.length - 1]'(by omega)).2], .bool (decide (row ≠ rows.length - 1)), .int .i64 0]) ∧ Tf B N w' g (n + 1) (rem rows row) (remCols cols row) ∧ KeptN N W w' ∧ Below B W w' := by
  obtain ⟨S, h1, h2, h3, h4⟩ := h
  refine (remove_any h1 row hr hn).mono ?_
  rintro e w' ⟨rfl, t1, t2⟩
  exact ⟨rfl, Tf.turned h2 h3 h4 (t1.mono (fun k e => .inl e)) t2⟩
end
theorem tf_new (k : Nat) (w : World) (h : k ≤ 48) : Calls Tryz.prog 79 #[.int .i64 (k : Int)] w fun e w' => ∃ g, e = .returned (.tuple #[.pointer (some ⟨g, 0, none⟩), .int .i64 0]) ∧ Tf w.heap.size (fun _ => False) w' g 0 [] (List.replicate k []) ∧ Below w.heap.size w w' := (new_any k w h).mono (fun _e _w' ⟨g, h1, h2, h3⟩ => ⟨g, h1, ⟨_, h2.tight, fun _k e => ⟨e.1, e.2, fun e => e⟩, fun _k e => e.elim, h3.size⟩, h3⟩)
end Go.Proofs.YtiolaenkfhcajaaGreat
