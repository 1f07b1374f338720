/-
  The document's table in memory.
-/
import Derived.Test.YtlnjphfkinajdaaAdd
namespace Go.Proofs.Ytlnjphfkinajdaa
open Go.RowKit
theorem info82 : (Try.prog.info? 82).map (fun i => (i.zero, i.size, i.bytes)) = some (some (.agg #[.int .i64 0, .int .i64 0, .slice none 0 0]), 3, 40) := by kernel_rfl
/-- A list of rows, in cells: whose it is, and where its numbers lie. -/
def rz : List (Int × Int) → List Value → List Value
  | p :: t, v :: u => .int .i64 p.1 :: .int .i64 p.2 :: v :: rz t u
  | _, _ => []
theorem rz_len : ∀ (l : List (Int × Int)) (u : List Value), u.length = l.length → (rz l u).length = l.length * 3
  | [], [], _ => rfl
  | p :: t, v :: u, h => by simp [rz, rz_len t u (by simpa using h)]; omega
theorem rz_append : ∀ (a b : List (Int × Int)) (u v : List Value), u.length = a.length → rz (a ++ b) (u ++ v) = rz a u ++ rz b v
  | [], _, [], _, _ => rfl
  | h :: t, b, x :: u, v, e => by simp [rz, rz_append t b u v (by simpa using e)]
theorem rz_at : ∀ (l : List (Int × Int)) (u : List Value) (i : Nat) (h : i < l.length) (h2 : i < u.length), (rz l u)[i * 3]? = some (.int .i64 l[i].1) ∧ (rz l u)[i * 3 + 1]? = some (.int .i64 l[i].2) ∧ (rz l u)[i * 3 + 2]? = some u[i]
  | p :: t, v :: u, 0, _, _ => ⟨rfl, rfl, rfl⟩
  | p :: t, v :: u, i + 1, h, h2 => by
    have := rz_at t u i (by simpa using h) (by simpa using h2)
    rw [show (i + 1) * 3 = i * 3 + 1 + 1 + 1 by omega]
    simpa [rz] using this
theorem rz_set : ∀ (l : List (Int × Int)) (u : List Value) (i : Nat) (a b : Int) (v : Value), i < l.length → i < u.length → (((rz l u).set (i * 3) (.int .i64 a)).set (i * 3 + 1) (.int .i64 b)).set (i * 3 + 2) v = rz (l.set i (a, b)) (u.set i v)
  | p :: t, x :: u, 0, a, b, v, _, _ => rfl
  | p :: t, x :: u, i + 1, a, b, v, h, h2 => by
    have := rz_set t u i a b v (by simpa using h) (by simpa using h2)
    rw [show (i + 1) * 3 = i * 3 + 1 + 1 + 1 by omega]
    simpa [rz] using this
theorem rz_take : ∀ (l : List (Int × Int)) (u : List Value) (n : Nat), (rz l u).take (n * 3) = rz (l.take n) (u.take n)
  | [], _, n => by simp [rz]
  | _ :: _, [], n => by cases n <;> simp [rz]
  | p :: t, v :: u, 0 => by simp [rz]
  | p :: t, v :: u, n + 1 => by
    rw [show (n + 1) * 3 = n * 3 + 1 + 1 + 1 by omega]
    simp [rz, rz_take t u n]
/-- Its parts. -/
def Dm (w : World) (g k : Nat) (vl : Value) (vs : List Value) (rows : List (Int × Int)) (nums : Nat → List Int) : Prop :=
  w.heap[g]? = some (.cells #[.int .i64 (k : Int), vl] 69 (0, 0)) ∧ w.ownsRow 0 82 3 vl rows.length (rz rows vs) ∧ vs.length = rows.length ∧ vl.ownBlock ≠ some g ∧
  (∀ j (hj : j < vs.length), w.ownsRow 0 2 1 vs[j] (nums j).length (zc (nums j)) ∧ vs[j].ownBlock ≠ some g ∧ Ap vs[j] vl) ∧ ∀ i j (hi : i < vs.length) (hj : j < vs.length), i ≠ j → Ap vs[i] vs[j]
section
variable {w w' : World} {g k : Nat} {vl : Value} {vs : List Value} {rows : List (Int × Int)} {nums nums' : Nat → List Int}
theorem Dm.cell (h : Dm w g k vl vs rows nums) : w.cell? ⟨g, 0, none⟩ = some (.int .i64 (k : Int)) ∧ w.cell? ⟨g, 1, none⟩ = some vl := by
  refine ⟨?_, ?_⟩ <;> rw [cell_of_row w g _ _ 69 (0, 0) h.1] <;> rfl
theorem Dm.frozen (h : Dm w g k vl vs rows nums) (q : Nat) : w.frozen? ⟨g, q, none⟩ = false := frozen_of_row w g q _ 69 h.1
theorem Dm.lt (h : Dm w g k vl vs rows nums) : g < w.heap.size := lt_of_block h.1
theorem Dm.frame {T : Nat → Prop} (h : Dm w g k vl vs rows nums) (hm : Mv w w' T) (h0 : ¬ T g) (h1 : ∀ q, vl.ownBlock = some q → ¬ T q) (h2 : ∀ v ∈ vs, ∀ q, v.ownBlock = some q → ¬ T q) : Dm w' g k vl vs rows nums := by
  obtain ⟨a1, a2, a3, a4, a5, a6⟩ := h
  exact ⟨hm.at a1 h0, hm.own a2 h1, a3, a4, fun j hj => ⟨hm.own (a5 j hj).1 (h2 _ (List.getElem_mem hj)), (a5 j hj).2⟩, a6⟩
theorem Dm.later (h : Dm w g k vl vs rows nums) (hb : Below w.heap.size w w') : Dm w' g k vl vs rows nums :=
  h.frame (Mv.of_below hb (fun _ => False)) (fun e => e) (fun _ _ e => e) (fun _ _ _ _ e => e)
theorem Dm.to (h : Dm w g k vl vs rows nums) (hn : ∀ j, j < rows.length → nums j = nums' j) : Dm w g k vl vs rows nums' := by
  obtain ⟨a1, a2, a3, a4, a5, a6⟩ := h
  refine ⟨a1, a2, a3, a4, fun j hj => ?_, a6⟩
  rw [← hn j (by omega)]
  exact a5 j hj
theorem own_rows {B gl n c : Nat} (h : w.ownsRow B 82 3 (.slice (some ⟨gl, 0, none⟩) n c) n (rz rows vs)) (hv : vs.length = rows.length) (i : Nat) (hi : i < rows.length) :
    w.cell? ⟨gl, i * 3, none⟩ = some (.int .i64 rows[i].1) ∧ w.cell? ⟨gl, i * 3 + 1, none⟩ = some (.int .i64 rows[i].2) ∧ w.cell? ⟨gl, i * 3 + 2, none⟩ = some (vs[i]'(by omega)) := by
  have hl := h.1
  rw [rz_len _ _ hv] at hl
  rw [h.cellAt (i * 3) (by omega), h.cellAt (i * 3 + 1) (by omega), h.cellAt (i * 3 + 2) (by omega)]
  exact rz_at rows vs i hi (by omega)
end
def Dt (w : World) (S : Nat → Prop) (g : Nat) (rows : List (Int × Int)) (cols : List (List Int)) : Prop :=
  ∃ vl vs, Dm w g cols.length vl vs rows (rowOf cols) ∧ (∀ c ∈ cols, c.length = rows.length) ∧ (S g ∧ In S vl ∧ ∀ v ∈ vs, In S v) ∧ rows.length ≤ 200 ∧ cols.length ≤ 48
section
variable {w w' : World} {S T : Nat → Prop} {g : Nat} {rows : List (Int × Int)} {cols : List (List Int)}
theorem Dt.mono (h : Dt w S g rows cols) (hs : ∀ k, S k → T k) : Dt w T g rows cols := by
  obtain ⟨vl, vs, h1, h2, ⟨s1, s2, s3⟩, h5⟩ := h
  exact ⟨vl, vs, h1, h2, ⟨hs _ s1, s2.mono hs, fun v hv => (s3 v hv).mono hs⟩, h5⟩
theorem Dt.frame (h : Dt w S g rows cols) (hm : Mv w w' T) (hs : ∀ k, S k → ¬ T k) : Dt w' S g rows cols := by
  obtain ⟨vl, vs, h1, h2, ⟨s1, s2, s3⟩, h5⟩ := h
  exact ⟨vl, vs, h1.frame hm (hs _ s1) (fun k e => hs k (s2 k e)) (fun v hv k e => hs k (s3 v hv k e)), h2, ⟨s1, s2, s3⟩, h5⟩
theorem Dt.later (h : Dt w S g rows cols) (hb : Below w.heap.size w w') : Dt w' S g rows cols := h.frame (Mv.of_below hb (fun _ => False)) (fun _ _ e => e)
theorem Dt.tight (h : Dt w S g rows cols) : Dt w (fun k => S k ∧ k < w.heap.size) g rows cols := by
  obtain ⟨vl, vs, h1, h2, ⟨s1, s2, s3⟩, h5⟩ := h
  refine ⟨vl, vs, h1, h2, ⟨⟨s1, h1.lt⟩, fun k e => ⟨s2 k e, (h1.2.1.lt k e).2⟩, fun v hv k e => ⟨s3 v hv k e, ?_⟩⟩, h5⟩
  obtain ⟨j, hj, rfl⟩ := List.getElem_of_mem hv
  exact ((h1.2.2.2.2.1 j hj).1.lt k e).2
end
/-! ### Calls that read -/
theorem dnew_bad (x : Int) (w : World) (h : x < 0 ∨ x > 48) : Calls Try.prog 20 #[.int .i64 x] w fun e w' => e = .returned (.tuple #[.pointer none, .int .i64 1]) ∧ w' = w := by
  go_enter Try.func20, Try.ntmps20
  by_cases h1 : x < 0
  · go_wp2_with fail
    go_ret2
    exact ⟨rfl, rfl⟩
  · have h2 : x > 48 := by omega
    go_wp2_with fail
    go_ret2
    exact ⟨rfl, rfl⟩
theorem dnew_any (k : Nat) (w : World) (h : k ≤ 48) : Calls Try.prog 20 #[.int .i64 (k : Int)] w fun e w' => ∃ g, e = .returned (.tuple #[.pointer (some ⟨g, 0, none⟩), .int .i64 0]) ∧ Dt w' (fun q => w.heap.size ≤ q) g [] (List.replicate k []) ∧ Below w.heap.size w w' := by
  have t1 : ¬ (k : Int) < 0 := by omega
  have t2 : ¬ (k : Int) > 48 := by omega
  go_enter Try.func20, Try.ntmps20
  go_wp2_with fail
  go_ret2
  refine ⟨_, rfl, ⟨.slice none 0 0, [], ⟨?_, ⟨rfl, .inl ⟨rfl, rfl⟩⟩, rfl, by simp [Value.ownBlock], fun j hj => by simp at hj, fun i j hi => by simp at hi⟩, fun c hc => ?_, ⟨Nat.le_refl _, In.nil _, fun v hv => by cases hv⟩, by simp, by simp; omega⟩, below_alloc w _⟩
  · have := heap_alloc_new w (.cells #[.int .i64 (k : Int), .slice none 0 0] 69)
    simpa using this
  · rw [List.eq_of_mem_replicate hc]; rfl
section
variable {w : World} {S : Nat → Prop} {g : Nat} {rows : List (Int × Int)} {cols : List (List Int)}
theorem dlen_any (h : Dt w S g rows cols) : Calls Try.prog 38 #[.pointer (some ⟨g, 0, none⟩)] w fun e w' => e = .returned (.int .i64 (rows.length : Int)) ∧ w' = w := by
  obtain ⟨vl, vs, hm, -⟩ := h
  obtain ⟨c0, c1⟩ := hm.cell
  obtain ⟨ao, c, rfl⟩ := own_len hm.2.1
  clear hm
  go_enter Try.func38, Try.ntmps38
  go_wp2_with fail
  go_ret
  exact ⟨rfl, rfl⟩
/-- What is wrong with a place. -/
def atS (r c : Nat) (x y : Int) : Int := if 0 ≤ x ∧ x < (r : Int) then (if 0 ≤ y ∧ y < (c : Int) then 0 else 63) else 50
theorem dat_any (h : Dt w S g rows cols) (x y : Int) : Calls Try.prog 40 #[.pointer (some ⟨g, 0, none⟩), .int .i64 x, .int .i64 y] w fun e w' => e = .returned (.int .i64 (atS rows.length cols.length x y)) ∧ w' = w := by
  obtain ⟨vl, vs, hm, -⟩ := h
  obtain ⟨c0, c1⟩ := hm.cell
  obtain ⟨ao, c, rfl⟩ := own_len hm.2.1
  clear hm
  generalize rows.length = r at *
  generalize cols.length = cl at *
  go_enter Try.func40, Try.ntmps40
  by_cases h1 : x < 0
  · have e : atS r cl x y = 50 := by unfold atS; rw [if_neg (by omega)]
    rw [e]
    go_wp2_with fail
    go_ret
    exact ⟨rfl, rfl⟩
  by_cases h2 : x ≥ (r : Int)
  · have e : atS r cl x y = 50 := by unfold atS; rw [if_neg (by omega)]
    rw [e]
    go_wp2_with fail
    go_ret
    exact ⟨rfl, rfl⟩
  by_cases h3 : y < 0
  · have e : atS r cl x y = 63 := by unfold atS; rw [if_pos (by omega), if_neg (by omega)]
    rw [e]
    go_wp2_with fail
    go_ret
    exact ⟨rfl, rfl⟩
  by_cases h4 : y ≥ (cl : Int)
  · have e : atS r cl x y = 63 := by unfold atS; rw [if_pos (by omega), if_neg (by omega)]
    rw [e]
    go_wp2_with fail
    go_ret
    exact ⟨rfl, rfl⟩
  have e : atS r cl x y = 0 := by unfold atS; rw [if_pos (by omega), if_pos (by omega)]
  rw [e]
  go_wp2_with fail
  go_ret
  exact ⟨rfl, rfl⟩
end
end Go.Proofs.Ytlnjphfkinajdaa
