/-
  What TableKeeps keeps beside the table, and how it goes with it.
-/
import Derived.Test.YtlnjphfkinajdaaShw
namespace Go.Proofs.Ytlnjphfkinajdaa
open Go.RowKit
def Kr (nc : Nat) (th : List Bool) (wi : List Int) (rows : List (Int × Int)) (cols : List (List Int)) : Prop :=
  th.length = 40 ∧ wi.length = 40 ∧ cols.length = nc ∧ (∀ k : Nat, k < 40 → (((k : Int), (5 : Int)) ∈ rows ↔ th.getD k false = true)) ∧ (∀ e ∈ rows, ∃ k : Nat, k < 40 ∧ e = ((k : Int), (5 : Int))) ∧
  (∀ i (hi : i < rows.length) j (hj : j < cols.length), cols[j].getD i 0 = wi.getD rows[i].1.toNat 0 + (j : Int))
section
variable {nc : Nat} {th : List Bool} {wi : List Int} {rows : List (Int × Int)} {cols : List (List Int)}
theorem Kr.start (nc : Nat) : Kr nc (List.replicate 40 false) (List.replicate 40 0) [] (List.replicate nc []) :=
  ⟨List.length_replicate, List.length_replicate, List.length_replicate, fun k hk => ⟨fun h => by simp at h, fun h => by
    rw [List.getD_eq_getElem?_getD, List.getElem?_replicate, if_pos hk] at h
    cases h⟩, fun e he => by simp at he, fun i hi => by simp at hi⟩
theorem getD_setB {l : List Bool} {i j : Nat} {x : Bool} (h : i < l.length) : (l.set i x).getD j false = if i = j then x else l.getD j false := by
  rw [List.getD_eq_getElem?_getD, List.getElem?_set]
  by_cases e : i = j
  · subst e; rw [if_pos rfl, if_pos h, if_pos rfl]; rfl
  · rw [if_neg e, if_neg e, List.getD_eq_getElem?_getD]
theorem getD_setI {l : List Int} {i j : Nat} {x : Int} (h : i < l.length) : (l.set i x).getD j 0 = if i = j then x else l.getD j 0 := by
  rw [List.getD_eq_getElem?_getD, List.getElem?_set]
  by_cases e : i = j
  · subst e; rw [if_pos rfl, if_pos h, if_pos rfl]; rfl
  · rw [if_neg e, if_neg e, List.getD_eq_getElem?_getD]
/-- The numbers of a new row. -/
def nums (nc : Nat) (x : Int) : List Int := (List.range nc).map fun j : Nat => x + (j : Int)
theorem nums_len (nc : Nat) (x : Int) : (nums nc x).length = nc := by simp [nums]
theorem nums_at (nc : Nat) (x : Int) (j : Nat) (hj : j < nc) : (nums nc x).getD j 0 = x + (j : Int) := by simp [nums, hj]
theorem addRow_at (cols : List (List Int)) (vals : List Int) (j : Nat) (hj : j < cols.length) (hj2 : j < (addRow cols vals).length) : (addRow cols vals)[j] = cols[j] ++ [vals.getD j 0] := (pcol_at cols vals cols.length j hj).trans (if_pos hj)
theorem addRow_len (cols : List (List Int)) (vals : List Int) : (addRow cols vals).length = cols.length := pcol_len _ _ _
theorem remCols_len (cols : List (List Int)) (row : Nat) : (remCols cols row).length = cols.length := prem_len _ _ _
theorem remCols_at (cols : List (List Int)) (row j : Nat) (hj : j < cols.length) (hj2 : j < (remCols cols row).length) : (remCols cols row)[j] = rem cols[j] row := (prem_at cols row cols.length j hj).trans (if_pos hj)
theorem Kr.add (h : Kr nc th wi rows cols) {k : Nat} (hk : k < 40) (hn : ((k : Int), (5 : Int)) ∉ rows) (hc : ∀ c ∈ cols, c.length = rows.length) (x : Int) : Kr nc (th.set k true) (wi.set k x) (rows ++ [((k : Int), (5 : Int))]) (addRow cols (nums nc x)) := by
  obtain ⟨h1, h2, h3, h4, h5, h6⟩ := h
  refine ⟨by simp [h1], by simp [h2], by rw [addRow_len]; exact h3, fun q hq => ?_, fun e he => ?_, fun i hi j hj => ?_⟩
  · rw [getD_setB (by omega), List.mem_append]
    by_cases e : k = q
    · subst e; simp
    · rw [if_neg e, ← h4 q hq]
      constructor
      · rintro (h | h)
        · exact h
        · simp at h; omega
      · exact .inl
  · rw [List.mem_append] at he
    rcases he with he | he
    · exact h5 e he
    · simp at he
      exact ⟨k, hk, he⟩
  · have hj' : j < cols.length := by rw [addRow_len] at hj; exact hj
    rw [addRow_at _ _ _ hj']
    have hcl : cols[j].length = rows.length := hc _ (List.getElem_mem hj')
    by_cases hl : i < rows.length
    · have hne : k ≠ rows[i].1.toNat := fun e => by
        obtain ⟨q, hq, he⟩ := h5 _ (List.getElem_mem hl)
        rw [he] at e
        simp at e
        exact hn (by rw [e, ← he]; exact List.getElem_mem hl)
      rw [List.getElem_append_left hl, getD_setI (by omega), if_neg hne, ← h6 i hl j hj', List.getD_eq_getElem?_getD, List.getElem?_append_left (by omega), List.getD_eq_getElem?_getD]
    · have : i = rows.length := by simp at hi; omega
      subst this
      rw [List.getD_eq_getElem?_getD, List.getElem?_append_right (by omega), hcl]
      simp only [Nat.sub_self, List.getElem?_cons_zero, Option.getD_some]
      rw [nums_at _ _ _ (by omega), List.getElem_append_right (by omega)]
      simp only [Nat.sub_self, List.getElem_cons_zero, Int.toNat_natCast]
      rw [getD_setI (by omega), if_pos rfl]
theorem mem_rem {f : Int × Int → Option Nat} (hx : Ix rows f) {row : Nat} (hr : row < rows.length) (e : Int × Int) : e ∈ rem rows row ↔ e ∈ rows ∧ e ≠ rows[row] := by
  constructor
  · intro h
    obtain ⟨i, hi, rfl⟩ := List.getElem_of_mem h
    have hi' : i < rows.length - 1 := by rw [rem_len] at hi; exact hi
    rw [rem_at rows row i hr hi]
    by_cases e : i = row
    · rw [if_pos e]
      exact ⟨List.getElem_mem _, fun e' => by have := hx.inj (by omega) hr e'; omega⟩
    · rw [if_neg e]
      exact ⟨List.getElem_mem _, fun e' => e (hx.inj (by omega) hr e')⟩
  · rintro ⟨h1, h2⟩
    obtain ⟨i, hi, rfl⟩ := List.getElem_of_mem h1
    have hne : i ≠ row := fun e => h2 (by subst e; rfl)
    by_cases hl : i = rows.length - 1
    · have hlt : row < (rem rows row).length := by rw [rem_len]; omega
      have := rem_at rows row row hr hlt
      rw [if_pos rfl] at this
      subst hl
      rw [← this]
      exact List.getElem_mem hlt
    · have hlt : i < (rem rows row).length := by rw [rem_len]; omega
      have := rem_at rows row i hr hlt
      rw [if_neg hne] at this
      rw [← this]
      exact List.getElem_mem hlt
theorem Kr.rem {f : Int × Int → Option Nat} (h : Kr nc th wi rows cols) (hx : Ix rows f) {k row : Nat} (hk : k < 40) (hr : row < rows.length) (he : rows[row] = ((k : Int), (5 : Int))) (hc : ∀ c ∈ cols, c.length = rows.length) : Kr nc (th.set k false) wi (rem rows row) (remCols cols row) := by
  obtain ⟨h1, h2, h3, h4, h5, h6⟩ := h
  refine ⟨by simp [h1], h2, by rw [remCols_len]; exact h3, fun q hq => ?_, fun e he' => h5 e ((mem_rem hx hr e).1 he').1, fun i hi j hj => ?_⟩
  · rw [getD_setB (by omega), mem_rem hx hr, he]
    by_cases e : k = q
    · subst e; simp
    · rw [if_neg e, ← h4 q hq]
      constructor
      · exact fun h => h.1
      · exact fun h => ⟨h, fun e' => by simp at e'; omega⟩
  · have hj' : j < cols.length := by rw [remCols_len] at hj; exact hj
    have hcl : cols[j].length = rows.length := hc _ (List.getElem_mem hj')
    have hi' : i < rows.length - 1 := by rw [rem_len] at hi; exact hi
    rw [remCols_at _ _ _ hj', List.getD_eq_getElem?_getD, List.getElem?_eq_getElem (by rw [rem_len]; omega), rem_at cols[j] row i (by omega) (by rw [rem_len]; omega), rem_at rows row i hr hi]
    simp only [Option.getD_some]
    by_cases e : i = row
    · have := h6 (rows.length - 1) (by omega) j hj'
      rw [List.getD_eq_getElem?_getD, List.getElem?_eq_getElem (by omega)] at this
      rw [if_pos e, if_pos e, ← this]
      simp only [hcl, Option.getD_some]
    · have := h6 i (by omega) j hj'
      rw [List.getD_eq_getElem?_getD, List.getElem?_eq_getElem (by omega)] at this
      rw [if_neg e, if_neg e, ← this]
      rfl
theorem nodup_len : ∀ (n : Nat) (l : List Nat), l.Nodup → (∀ x ∈ l, x < n) → l.length ≤ n
  | 0, l, _, h => by
    cases l with
    | nil => simp
    | cons x t => have := h x (by simp); omega
  | n + 1, l, hn, h => by
    by_cases hm : n ∈ l
    · have := nodup_len n (l.erase n) (hn.erase n) (fun x hx => by
        have h1 := h x (List.mem_of_mem_erase hx)
        have h2 : x ≠ n := fun e => by subst e; exact (List.Nodup.not_mem_erase hn) hx
        omega)
      rw [List.length_erase_of_mem hm] at this
      omega
    · have := nodup_len n l hn (fun x hx => by
        have h1 := h x hx
        have h2 : x ≠ n := fun e => hm (e ▸ hx)
        omega)
      omega
theorem Kr.few {f : Int × Int → Option Nat} (h : Kr nc th wi rows cols) (hx : Ix rows f) : rows.length ≤ 40 := by
  obtain ⟨h1, h2, h3, h4, h5, h6⟩ := h
  have := nodup_len 40 (rows.map fun e => e.1.toNat) ?_ ?_
  · simpa using this
  · rw [List.nodup_iff_pairwise_ne, List.pairwise_map]
    rw [List.pairwise_iff_getElem]
    intro i j hi hj hij e
    obtain ⟨a, ha, ea⟩ := h5 _ (List.getElem_mem hi)
    obtain ⟨b, hb, eb⟩ := h5 _ (List.getElem_mem hj)
    rw [ea, eb] at e
    simp at e
    have := hx.inj hi hj (by rw [ea, eb, e])
    omega
  · intro x hx'
    obtain ⟨e, he, rfl⟩ := List.mem_map.1 hx'
    obtain ⟨k, hk, rfl⟩ := h5 e he
    simpa using hk
end
end Go.Proofs.Ytlnjphfkinajdaa
