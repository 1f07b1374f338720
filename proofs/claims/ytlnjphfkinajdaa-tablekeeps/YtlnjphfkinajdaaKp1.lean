/-
  TableKeeps' own memory, and its steps.
-/
import Derived.Test.YtlnjphfkinajdaaKpM
namespace Go.Proofs.Ytlnjphfkinajdaa
open Go.RowKit
def Bl (W : World) (ka : Nat) (l : List Bool) : Prop := W.heap[ka]? = some (.cells (l.map Value.bool).toArray 42 (0, 0))
def Nl (W : World) (kw : Nat) (l : List Int) : Prop := W.heap[kw]? = some (.cells (zc l).toArray 43 (0, 0))
section
variable {W W' : World} {ka kw : Nat} {th : List Bool} {wi : List Int}
theorem Bl.cell (h : Bl W ka th) (k : Nat) (hk : k < th.length) : W.cell? ⟨ka, k, none⟩ = some (.bool (th.getD k false)) := by
  rw [cell_of_row W ka _ _ 42 (0, 0) h]
  simp [hk]
theorem Bl.frozen (h : Bl W ka th) (k : Nat) : W.frozen? ⟨ka, k, none⟩ = false := frozen_of_row W ka k _ 42 h
theorem Bl.set (h : Bl W ka th) (k : Nat) (x : Bool) : Bl (W.setCell ⟨ka, k, none⟩ (.bool x)) ka (th.set k x) := by
  have := heap_setCell_same W ka k _ 42 (.bool x) h
  unfold Bl
  rw [this]
  simp [List.map_set]
theorem Nl.cell (h : Nl W kw wi) (k : Nat) (hk : k < wi.length) : W.cell? ⟨kw, k, none⟩ = some (.int .i64 (wi.getD k 0)) := by
  rw [cell_of_row W kw _ _ 43 (0, 0) h]
  simp [zc, hk]
theorem Nl.frozen (h : Nl W kw wi) (k : Nat) : W.frozen? ⟨kw, k, none⟩ = false := frozen_of_row W kw k _ 43 h
theorem Nl.set (h : Nl W kw wi) (k : Nat) (x : Int) : Nl (W.setCell ⟨kw, k, none⟩ (.int .i64 x)) kw (wi.set k x) := by
  have := heap_setCell_same W kw k _ 43 (.int .i64 x) h
  unfold Nl
  rw [this]
  simp [zc, List.map_set]
end
/-- All that is kept: the table, who is there, with which number. -/
def Kv (w : World) (N : Nat → Prop) (W : World) (g ka kw nc n : Nat) (th : List Bool) (wi : List Int) (rows : List (Int × Int)) (cols : List (List Int)) : Prop :=
  Tf w.heap.size N W g n rows cols ∧ Bl W ka th ∧ Nl W kw wi ∧ Kr nc th wi rows cols ∧ Below w.heap.size w W ∧ N ka ∧ N kw ∧ ka ≠ kw ∧ w.heap.size ≤ ka ∧ w.heap.size ≤ kw
section
variable {w W W' : World} {N N' : Nat → Prop} {g ka kw nc n : Nat} {th : List Bool} {wi : List Int} {rows : List (Int × Int)} {cols : List (List Int)}
theorem Kv.fence (h : Kv w N W g ka kw nc n th wi rows cols) (hb : Below W.heap.size W W') (hN : ∀ k, N' k → (N k ∨ W.heap.size ≤ k) ∧ k < W'.heap.size) (h1 : N' ka) (h2 : N' kw) : Kv w N' W' g ka kw nc n th wi rows cols := by
  obtain ⟨a1, a2, a3, a4, a5, a6, a7, a8⟩ := h
  exact ⟨a1.fence hb hN, (hb.block ka (lt_of_block a2)).trans a2, (hb.block kw (lt_of_block a3)).trans a3, a4, a5.trans (hb.mono a5.size), h1, h2, a8⟩
theorem Kv.lt (h : Kv w N W g ka kw nc n th wi rows cols) : ∀ k, N k → k < W.heap.size := by
  obtain ⟨⟨S, a1, a2, a3, a4⟩, -⟩ := h
  exact a3
theorem Kv.later (h : Kv w N W g ka kw nc n th wi rows cols) (hb : Below W.heap.size W W') : Kv w N W' g ka kw nc n th wi rows cols :=
  h.fence hb (fun k e => ⟨.inl e, Nat.lt_of_lt_of_le (h.lt k e) hb.size⟩) h.2.2.2.2.2.1 h.2.2.2.2.2.2.1
theorem Kv.facts (h : Kv w N W g ka kw nc n th wi rows cols) : ∃ S f, Tb W S g n rows cols ∧ Ix rows f ∧ (∀ c ∈ cols, c.length = rows.length) ∧ rows.length ≤ 40 ∧ cols.length = nc := by
  obtain ⟨⟨S, a1, -⟩, -, -, a4, -⟩ := h
  obtain ⟨lab, vr, gm, vc, cs, f, h1, h2, h3, -⟩ := id a1
  exact ⟨S, f, a1, h2, h3, a4.few h2, a4.2.2.1⟩
theorem Kv.find (h : Kv w N W g ka kw nc n th wi rows cols) {k : Nat} (hk : k < 40) (d : Int) (hd : 0 ≤ d ∧ d ≤ 5) : Calls Try.prog 11 #[.pointer (some ⟨g, 0, none⟩), .agg #[.int .i64 (k : Int), .int .i64 d]] W fun e w' => ∃ r, e = .returned (.int .i64 r) ∧ Fnd rows ((k : Int), d) r ∧ Below W.heap.size W w' := by
  obtain ⟨S, f, h1, -⟩ := h.facts
  exact find_any h1 _ _ (by unfold InB; dsimp only; omega)
theorem Kr.ge (h : Kr nc th wi rows cols) {k : Nat} (hk : k < 40) {r : Int} (hr : Fnd rows ((k : Int), (5 : Int)) r) : decide (0 ≤ r) = th.getD k false := by
  have h4 := h.2.2.2.1 k hk
  rcases hr with ⟨rfl, hn⟩ | ⟨i, hi, rfl, he⟩
  · have : th.getD k false = false := by
      cases hh : th.getD k false with
      | false => rfl
      | true => exact absurd (h4.2 hh) hn
    rw [this]
    rfl
  · rw [h4.1 (he ▸ List.getElem_mem hi)]
    simp
theorem Kr.four (h : Kr nc th wi rows cols) {k : Nat} {r : Int} (hr : Fnd rows ((k : Int), (4 : Int)) r) : r = -1 := by
  rcases hr with ⟨rfl, -⟩ | ⟨i, hi, rfl, he⟩
  · rfl
  · obtain ⟨q, hq, he'⟩ := h.2.2.2.2.1 _ (List.getElem_mem hi)
    rw [he] at he'
    simp at he'
theorem Kv.add (h : Kv w N W g ka kw nc n th wi rows cols) {k : Nat} (hk : k < 40) (hn : ((k : Int), (5 : Int)) ∉ rows) (x : Int) (v : Value) (hv : Iz W v (nums nc x)) (hvN : ∀ q, v.ownBlock = some q → N q) (hn6 : n ≤ 1000000) :
    Calls Try.prog 12 #[.pointer (some ⟨g, 0, none⟩), .agg #[.int .i64 (k : Int), .int .i64 5], v] W fun e w' => e = .returned (.tuple #[.int .i64 (rows.length : Int), .int .i64 0]) ∧ (Tf w.heap.size N w' g (n + 1) (rows ++ [((k : Int), (5 : Int))]) (addRow cols (nums nc x)) ∧ Bl w' ka th ∧ Nl w' kw wi ∧ Below w.heap.size w w' ∧ KeptN N W w') ∧ Kr nc (th.set k true) (wi.set k x) (rows ++ [((k : Int), (5 : Int))]) (addRow cols (nums nc x)) := by
  obtain ⟨S, f, hb, hx, hc, hf, hl⟩ := h.facts
  obtain ⟨a1, a2, a3, a4, a5, a6, a7, a8⟩ := h
  refine (tf_add a1 (k : Int) 5 v (nums nc x) hv hvN (by rw [nums_len]; exact hl.symm) (by unfold InB; dsimp only; omega) hn (by omega) hn6).mono ?_
  rintro e w' ⟨rfl, t1, t2, t3⟩
  exact ⟨rfl, ⟨t1, (t2 ka a6).trans a2, (t2 kw a7).trans a3, a5.trans t3, t2⟩, a4.add hk hn hc x⟩
theorem Kv.remove (h : Kv w N W g ka kw nc n th wi rows cols) {k row : Nat} (hk : k < 40) (hr : row < rows.length) (he : rows[row] = ((k : Int), (5 : Int))) (hn6 : n ≤ 1000000) :
    Calls Try.prog 13 #[.pointer (some ⟨g, 0, none⟩), .int .i64 (row : Int)] W fun e w' => e = .returned (.tuple #[if row = rows.length - 1 then .agg #[.int .i64 0, .int .i64 0] else .agg #[.int .i64 (rows[rows.length - 1]'(by omega)).1, .int .i64 (rows[rows.length - 1]'(by omega)).2], .bool (decide (row ≠ rows.length - 1)), .int .i64 0]) ∧ (Tf w.heap.size N w' g (n + 1) (rem rows row) (remCols cols row) ∧ Bl w' ka th ∧ Nl w' kw wi ∧ Below w.heap.size w w' ∧ KeptN N W w') ∧ Kr nc (th.set k false) wi (rem rows row) (remCols cols row) := by
  obtain ⟨S, f, hb, hx, hc, hf, hl⟩ := h.facts
  obtain ⟨a1, a2, a3, a4, a5, a6, a7, a8⟩ := h
  refine (tf_remove a1 row hr hn6).mono ?_
  rintro e w' ⟨rfl, t1, t2, t3⟩
  exact ⟨rfl, ⟨t1, (t2 ka a6).trans a2, (t2 kw a7).trans a3, a5.trans t3, t2⟩, a4.rem hx hk hr he hc⟩
end
end Go.Proofs.Ytlnjphfkinajdaa
