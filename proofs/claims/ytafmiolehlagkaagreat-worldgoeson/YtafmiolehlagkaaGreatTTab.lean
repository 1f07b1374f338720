/-
  A table in memory: its rows' entities, a map of their places, a list of numbers for each column.
-/
import Derived.Test.YtafmiolehlagkaaGreatTBase
namespace Go.Proofs.YtafmiolehlagkaaGreat
open Go.RowKit
set_option maxRecDepth 100000
/-- Where each entity lies. -/
def Ix (rows : List (Int × Int)) (f : Int × Int → Option Nat) : Prop := (∀ i (hi : i < rows.length), f rows[i] = some i) ∧ ∀ e i, f e = some i → ∃ hi : i < rows.length, rows[i] = e
theorem Ix.off {rows : List (Int × Int)} {f : Int × Int → Option Nat} (h : Ix rows f) {e : Int × Int} : f e = none ↔ e ∉ rows := by
  constructor
  · intro h1 h2
    obtain ⟨i, hi, rfl⟩ := List.getElem_of_mem h2
    rw [h.1 i hi] at h1
    cases h1
  · intro h1
    cases h2 : f e with
    | none => rfl
    | some i =>
      obtain ⟨hi, rfl⟩ := h.2 e i h2
      exact absurd (List.getElem_mem hi) h1
theorem Ix.inj {rows : List (Int × Int)} {f : Int × Int → Option Nat} (h : Ix rows f) {i j : Nat} (hi : i < rows.length) (hj : j < rows.length) (e : rows[i] = rows[j]) : i = j := by
  have h1 := h.1 i hi
  rw [e, h.1 j hj] at h1
  exact (Option.some.inj h1).symm
theorem Ix.add {rows : List (Int × Int)} {f : Int × Int → Option Nat} (h : Ix rows f) {e0 : Int × Int} (h0 : e0 ∉ rows) : Ix (rows ++ [e0]) (fun e => if e = e0 then some rows.length else f e) := by
  refine ⟨fun i hi => ?_, fun e i he => ?_⟩
  · by_cases hl : i < rows.length
    · rw [List.getElem_append_left hl]
      have n0 : rows[i] ≠ e0 := fun e => h0 (e ▸ List.getElem_mem hl)
      simp only [if_neg n0]
      exact h.1 i hl
    · have : i = rows.length := by simp at hi; omega
      subst this
      simp
  · dsimp only at he
    by_cases e0' : e = e0
    · rw [if_pos e0'] at he
      obtain rfl := Option.some.inj he
      exact ⟨by simp, by simp [e0']⟩
    · rw [if_neg e0'] at he
      obtain ⟨hi, rfl⟩ := h.2 e i he
      exact ⟨by simp; omega, by rw [List.getElem_append_left hi]⟩
/-- What is left where one is taken away: the last one comes in its place. -/
def rem {α : Type} [Inhabited α] (l : List α) (row : Nat) : List α := (l.set row (l.getD (l.length - 1) default)).take (l.length - 1)
theorem rem_len {α : Type} [Inhabited α] (l : List α) (row : Nat) : (rem l row).length = l.length - 1 := by simp [rem]
theorem rem_at {α : Type} [Inhabited α] (l : List α) (row i : Nat) (hr : row < l.length) (hi : i < (rem l row).length) : (rem l row)[i] = if i = row then l[l.length - 1]'(by omega) else l[i]'(by rw [rem_len] at hi; omega) := by
  have hi' : i < l.length - 1 := by rw [rem_len] at hi; exact hi
  simp only [rem, List.getElem_take, List.getElem_set]
  by_cases e : row = i
  · subst e
    rw [if_pos rfl, if_pos rfl, List.getD_eq_getElem?_getD, List.getElem?_eq_getElem (by omega)]
    rfl
  · rw [if_neg e, if_neg (fun e' => e e'.symm)]
theorem Ix.del {rows : List (Int × Int)} {f : Int × Int → Option Nat} (h : Ix rows f) {row : Nat} (hr : row < rows.length) :
    Ix (rem rows row) (fun e => if row = rows.length - 1 then (if e = rows[row] then none else f e) else if e = rows[rows.length - 1]'(by omega) then some row else if e = rows[row] then none else f e) := by
  have hne : ∀ i (hi : i < rows.length), rows[i] = rows[row] → i = row := fun i hi e => h.inj hi hr e
  have hnl : ∀ i (hi : i < rows.length), rows[i] = rows[rows.length - 1]'(by omega) → i = rows.length - 1 := fun i hi e => h.inj hi (by omega) e
  refine ⟨fun i hi => ?_, fun e i he => ?_⟩
  · have hi' : i < rows.length - 1 := by rw [rem_len] at hi; exact hi
    rw [rem_at rows row i hr hi]
    dsimp only
    by_cases e : i = row
    · subst e
      rw [if_pos rfl, if_neg (by omega), if_pos rfl]
    · rw [if_neg e]
      have n1 : rows[i]'(by omega) ≠ rows[row] := fun e' => e (hne i (by omega) e')
      have n2 : rows[i]'(by omega) ≠ rows[rows.length - 1]'(by omega) := fun e' => by have := hnl i (by omega) e'; omega
      simp only [if_neg n1, if_neg n2]
      split <;> exact h.1 i (by omega)
  · dsimp only at he
    by_cases hl : row = rows.length - 1
    · rw [if_pos hl] at he
      by_cases e1 : e = rows[row]
      · rw [if_pos e1] at he; cases he
      · rw [if_neg e1] at he
        obtain ⟨hi, hx⟩ := h.2 e i he
        have : i ≠ row := fun e2 => e1 (by subst e2; exact hx.symm)
        refine ⟨by rw [rem_len]; omega, ?_⟩
        rw [rem_at rows row i hr (by rw [rem_len]; omega), if_neg this]
        exact hx
    · rw [if_neg hl] at he
      by_cases e2 : e = rows[rows.length - 1]'(by omega)
      · rw [if_pos e2] at he
        obtain rfl := Option.some.inj he
        refine ⟨by rw [rem_len]; omega, ?_⟩
        rw [rem_at rows row row hr (by rw [rem_len]; omega), if_pos rfl]
        exact e2.symm
      · rw [if_neg e2] at he
        by_cases e1 : e = rows[row]
        · rw [if_pos e1] at he; cases he
        · rw [if_neg e1] at he
          obtain ⟨hi, hx⟩ := h.2 e i he
          have n1 : i ≠ row := fun e3 => e1 (by subst e3; exact hx.symm)
          have n2 : i ≠ rows.length - 1 := fun e3 => e2 (by subst e3; exact hx.symm)
          refine ⟨by rw [rem_len]; omega, ?_⟩
          rw [rem_at rows row i hr (by rw [rem_len]; omega), if_neg n1]
          exact hx
/-- A table's parts, and whose each block is. -/
def Tm (w : World) (lab : Nat → Nat) (gt : Nat) (vr : Value) (gm n : Nat) (vc : Value) (cs : List Value) (f : Int × Int → Option Nat) (rows : List (Int × Int)) (cols : List (List Int)) : Prop :=
  w.heap[gt]? = some (.cells #[vr, .map (some gm), vc] 197 (0, 0)) ∧ w.ownsRow 0 29 2 vr rows.length (ez rows) ∧ Mp w gm n f ∧ w.ownsRow 0 30 1 vc cs.length cs ∧ cs.length = cols.length ∧
  (∀ j (hj : j < cs.length) (hj2 : j < cols.length), w.ownsRow 0 2 1 cs[j] cols[j].length (zc cols[j])) ∧
  lab gt = 0 ∧ (∀ k, vr.ownBlock = some k → lab k = 1) ∧ lab gm = 2 ∧ (∀ k, vc.ownBlock = some k → lab k = 3) ∧ ∀ j (hj : j < cs.length) k, cs[j].ownBlock = some k → lab k = 4 + j
section
variable {w w' : World} {lab : Nat → Nat} {gt gm n : Nat} {vr vc : Value} {cs : List Value} {f : Int × Int → Option Nat} {rows : List (Int × Int)} {cols : List (List Int)}
theorem Tm.cell (h : Tm w lab gt vr gm n vc cs f rows cols) : w.cell? ⟨gt, 0, none⟩ = some vr ∧ w.cell? ⟨gt, 1, none⟩ = some (.map (some gm)) ∧ w.cell? ⟨gt, 2, none⟩ = some vc := by
  refine ⟨?_, ?_, ?_⟩ <;> rw [cell_of_row w gt _ _ 197 (0, 0) h.1] <;> rfl
theorem Tm.frozen (h : Tm w lab gt vr gm n vc cs f rows cols) (k : Nat) : w.frozen? ⟨gt, k, none⟩ = false := frozen_of_row w gt k _ 197 h.1
theorem Tm.lt (h : Tm w lab gt vr gm n vc cs f rows cols) : gt < w.heap.size := lt_of_block h.1
theorem Tm.frame {T : Nat → Prop} (h : Tm w lab gt vr gm n vc cs f rows cols) (hm : Mv w w' T) (h0 : ¬ T gt) (h1 : ∀ k, vr.ownBlock = some k → ¬ T k) (h2 : ¬ T gm) (h3 : ∀ k, vc.ownBlock = some k → ¬ T k) (h4 : ∀ v ∈ cs, ∀ k, v.ownBlock = some k → ¬ T k) : Tm w' lab gt vr gm n vc cs f rows cols := by
  obtain ⟨a1, a2, a3, a4, a5, a6, a7⟩ := h
  exact ⟨hm.at a1 h0, hm.own a2 h1, a3.same (hm.2.2.2.2 gm a3.lt h2), hm.own a4 h3, a5, fun j hj hj2 => hm.own (a6 j hj hj2) (h4 _ (List.getElem_mem hj)), a7⟩
theorem Tm.later (h : Tm w lab gt vr gm n vc cs f rows cols) (hb : Below w.heap.size w w') : Tm w' lab gt vr gm n vc cs f rows cols :=
  h.frame (Mv.of_below hb (fun _ => False)) (fun e => e) (fun _ _ e => e) (fun e => e) (fun _ _ e => e) (fun _ _ _ _ e => e)
theorem own_slices {w : World} {B g n c : Nat} {l : List Value} (h : w.ownsRow B 30 1 (.slice (some ⟨g, 0, none⟩) n c) n l) (i : Nat) (hi : i < l.length) : w.cell? ⟨g, i, none⟩ = some l[i] := by
  have hl := h.1
  rw [h.cellAt i (by omega), List.getElem?_eq_getElem hi]
end
/-- A table. -/
def Tb (w : World) (S : Nat → Prop) (gt n : Nat) (rows : List (Int × Int)) (cols : List (List Int)) : Prop :=
  ∃ (lab : Nat → Nat) (vr : Value) (gm : Nat) (vc : Value) (cs : List Value) (f : Int × Int → Option Nat), Tm w lab gt vr gm n vc cs f rows cols ∧ Ix rows f ∧ (∀ c ∈ cols, c.length = rows.length) ∧
    (S gt ∧ In S vr ∧ S gm ∧ In S vc ∧ ∀ v ∈ cs, In S v) ∧ (∀ e ∈ rows, InB e) ∧ rows.length ≤ 200 ∧ cols.length ≤ 48
section
variable {w w' : World} {S T : Nat → Prop} {gt n : Nat} {rows : List (Int × Int)} {cols : List (List Int)}
theorem Tb.mono (h : Tb w S gt n rows cols) (hs : ∀ k, S k → T k) : Tb w T gt n rows cols := by
  obtain ⟨lab, vr, gm, vc, cs, f, h1, h2, h3, ⟨s1, s2, s3, s4, s5⟩, h5⟩ := h
  exact ⟨lab, vr, gm, vc, cs, f, h1, h2, h3, ⟨hs _ s1, s2.mono hs, hs _ s3, s4.mono hs, fun v hv => (s5 v hv).mono hs⟩, h5⟩
theorem Tb.frame (h : Tb w S gt n rows cols) (hm : Mv w w' T) (hs : ∀ k, S k → ¬ T k) : Tb w' S gt n rows cols := by
  obtain ⟨lab, vr, gm, vc, cs, f, h1, h2, h3, ⟨s1, s2, s3, s4, s5⟩, h5⟩ := h
  exact ⟨lab, vr, gm, vc, cs, f, h1.frame hm (hs _ s1) (fun k e => hs k (s2 k e)) (hs _ s3) (fun k e => hs k (s4 k e)) (fun v hv k e => hs k (s5 v hv k e)), h2, h3, ⟨s1, s2, s3, s4, s5⟩, h5⟩
theorem Tb.later (h : Tb w S gt n rows cols) (hb : Below w.heap.size w w') : Tb w' S gt n rows cols := h.frame (Mv.of_below hb (fun _ => False)) (fun _ _ e => e)
end
end Go.Proofs.YtafmiolehlagkaaGreat
