/-
  Buffer: what the law's walk speaks of: the row of numbers, what it is given.
-/
import Derived.Test.YtfjfimmbdnfeiaaBLp
namespace Go.Proofs.Ytfjfimmbdnfeiaa
open Go.RowKit
set_option maxRecDepth 100000
theorem infoI : (Try.prog.info? 3).map (fun i => (i.zero, i.size, i.bytes)) = some (some (.int .i64 0), 1, 8) := by kernel_rfl
/-- The row of numbers, so far as it is written. -/
def rowZ (n i : Nat) : List Value := (List.range n).map (fun j => .int .i64 ((if j < i then j else 0 : Nat) : Int))
theorem rowZ_zero (n : Nat) : rowZ n 0 = List.replicate n (.int .i64 0) := by
  refine List.ext_getElem (by simp [rowZ]) (fun j h1 h2 => by simp [rowZ])
theorem rowZ_set (n i : Nat) : (rowZ n i).set i (.int .i64 (i : Int)) = rowZ n (i + 1) := by
  refine List.ext_getElem (by simp [rowZ]) (fun j h1 h2 => ?_)
  simp only [rowZ, List.getElem_set, List.getElem_map, List.getElem_range]
  by_cases h : i = j
  · subst h
    rw [if_pos rfl, if_pos (by omega)]
  · rw [if_neg h]
    by_cases h3 : j < i
    · rw [if_pos h3, if_pos (by omega)]
    · rw [if_neg h3, if_neg (by omega)]
/-- The pairs that the law is given. -/
def Wr (w : World) (a : Option Addr) (g o : Nat) (ws : List (Int × Int)) : Prop :=
  (0 < ws.length → a = some ⟨g, o, none⟩ ∧ g < w.heap.size) ∧ ∀ j (hj : j < ws.length), InB ws[j] ∧ w.cell? ⟨g, o + j * 2, none⟩ = some (.int .i64 ws[j].1) ∧ w.cell? ⟨g, o + j * 2 + 1, none⟩ = some (.int .i64 ws[j].2)
theorem Wr.at {w V : World} {a : Option Addr} {g o : Nat} {ws : List (Int × Int)} (h : Wr w a g o ws) (hV : Mv w V (fun j => w.heap.size ≤ j)) {j : Nat} (hj : j < ws.length) : V.cell? ⟨g, o + j * 2, none⟩ = some (.int .i64 ws[j].1) ∧ V.cell? ⟨g, o + j * 2 + 1, none⟩ = some (.int .i64 ws[j].2) := by
  have hg := (h.1 (by omega)).2
  obtain ⟨-, c0, c1⟩ := h.2 j hj
  exact ⟨hV.cell c0 (by show ¬ w.heap.size ≤ g; omega), hV.cell c1 (by show ¬ w.heap.size ≤ g; omega)⟩
def rowL (row : List Nat) : List Value := row.map (fun k : Nat => .int .i64 (k : Int))
theorem rowZ_full (n : Nat) : rowZ n n = rowL (List.range n) := by
  unfold rowZ rowL
  refine List.map_congr_left (fun j hj => ?_)
  rw [if_pos (List.mem_range.1 hj)]
theorem rowL_get {row : List Nat} {k : Nat} (h : k < row.length) : (rowL row).toArray[k]? = some (.int .i64 (row[k] : Int)) := by simp [rowL, h]
/-- The numbers that change places. -/
def Wz (w : World) (a : Option Addr) (zs : List Int) : Prop :=
  ∀ j (hj : j < zs.length), (-9223372036854775808 ≤ zs[j] ∧ zs[j] ≤ 9223372036854775807) ∧ ∃ g o, a = some ⟨g, o, none⟩ ∧ g < w.heap.size ∧ w.cell? ⟨g, o + j, none⟩ = some (.int .i64 zs[j])
/-- A row of the numbers below n, at each key in the order of all. -/
def RowOk (key : Nat → Int × Int) (n : Nat) (row : List Nat) : Prop := row.length = n ∧ (∀ k ∈ row, k < n) ∧ ∀ x, byK key row x = byK key (List.range n) x
theorem RowOk.start (key : Nat → Int × Int) (n : Nat) : RowOk key n (List.range n) := ⟨List.length_range, fun _ h => List.mem_range.1 h, fun _ => rfl⟩
theorem RowOk.lt {key : Nat → Int × Int} {n k : Nat} {row : List Nat} (h : RowOk key n row) (hk : k < row.length) : row[k] < n := h.2.1 _ (List.getElem_mem hk)
theorem RowOk.swap {key : Nat → Int × Int} {n k : Nat} {row : List Nat} (h : RowOk key n row) (hk : k + 1 < row.length) (hne : key row[k] ≠ key row[k + 1]) : RowOk key n ((row.set k row[k + 1]).set (k + 1) row[k]) := by
  refine ⟨by rw [List.length_set, List.length_set]; exact h.1, fun j hj => ?_, fun x => (byK_set key row k hk hne x).trans (h.2.2 x)⟩
  rcases List.mem_or_eq_of_mem_set hj with h1 | h1
  · rcases List.mem_or_eq_of_mem_set h1 with h2 | h2
    · exact h.2.1 j h2
    · rw [h2]
      exact h.lt hk
  · rw [h1]
    exact h.lt (by omega)
theorem rowL_set (row : List Nat) (k p : Nat) : (rowL row).toArray.setIfInBounds k (.int .i64 (p : Int)) = (rowL (row.set k p)).toArray := by simp [rowL, List.map_set]
def keyW (ws : List (Int × Int)) (j : Nat) : Int × Int := ((pickZ (ws.getD j (0, 0)).1 16 : Nat), (pickZ (ws.getD j (0, 0)).2 200 : Nat))
theorem keyW_at {ws : List (Int × Int)} {i : Nat} (h : i < ws.length) : keyW ws i = (((pickZ ws[i].1 16 : Nat) : Int), ((pickZ ws[i].2 200 : Nat) : Int)) := by
  unfold keyW
  rw [List.getD_eq_getElem?_getD, List.getElem?_eq_getElem h]
  rfl
/-- A put whose row was told of an elder world: what is younger than that stays. -/
theorem bput_row2 {B g gx : Nat} {W0 W : World} {key : Nat → Int × Int} {row : List Nat} (h : Bk B W0 g gx key row) (hbl : Below W0.heap.size W0 W) (hB : B ≤ W.heap.size) (hn : row.length < 100000) (k : Nat) (x y g1 : Int) (hk : (x, y) = key k) (hi : InB (x, y)) :
    Calls Try.prog 6 #[.pointer (some ⟨g, 0, none⟩), .int .i64 x, .agg #[.int .i64 y, .int .i64 g1], .agg #[.int .i64 4, .int .i64 0, .int .i64 0, .int .i64 (k : Int), .slice none 0 0, .slice none 0 0]] W fun e w' => e = .returned (.int .i64 0) ∧ Bk B w' g gx key (row ++ [k]) ∧ Mv W w' (fun j => (j = g ∨ j = gx ∨ B ≤ j) ∧ j < W0.heap.size) := by
  obtain ⟨S, U, n, f, hb, hs, hu⟩ := h
  refine (bput_any (P := fun _ => False) (c := cmR k) (hb.later hbl) x y g1 hi ⟨rfl, .inl rfl⟩ hn).mono ?_
  rintro e w' ⟨rfl, S', U', n', f', c', ⟨-, -, -, -, e5, -⟩, k1, k2, k3, k4⟩
  obtain rfl := e5 rfl
  rw [LK_push key row k hk] at k1
  refine ⟨rfl, ⟨S', U', n', f', by rw [List.length_append]; exact k1, fun j hj => ?_, fun j hj => ?_⟩, k2.mono (fun j _ hj => ⟨hs j hj, hb.bs j hj⟩)⟩
  · rcases k3 j hj with h | h
    · exact hs j h
    · exact .inr (.inr (by omega))
  · rcases k4 j hj with h | h
    · exact hu j h
    · omega
/-- Two numbers of keys, one number: as the keys stand. -/
theorem one_lt {a b : Int × Int} {x y u v : Nat} (ha : a = ((x : Int), (y : Int))) (hb : b = ((u : Int), (v : Int))) (hy : y < 200) (hv : v < 200) {p q : Nat} (h : ltT a b ∨ a = b ∧ p < q) : x * 1000 + y < u * 1000 + v ∨ x * 1000 + y = u * 1000 + v ∧ p < q := by
  rcases h with h | ⟨h, hpq⟩
  · left
    unfold ltT at h
    rw [ha, hb] at h
    simp only at h
    omega
  · right
    rw [ha, hb] at h
    injection h with h1 h2
    exact ⟨by omega, hpq⟩
end Go.Proofs.Ytfjfimmbdnfeiaa
