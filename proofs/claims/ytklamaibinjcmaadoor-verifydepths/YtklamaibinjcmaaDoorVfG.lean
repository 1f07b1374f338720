/-
  Verify: stepless.
-/
import Derived.Test.YtklamaibinjcmaaDoorVfF
namespace Go.Proofs.YtklamaibinjcmaaDoor
open Go.RowKit
set_option maxRecDepth 100000
/-- The ways on of an instruction, but of those that count a step. -/
def stlI (c : List Ins) (p : Nat) : List Nat := if (iat c p).op ≠ 24 ∧ (iat c p).op ≠ 21 then onwI c p else []
/-- Lists that are owned, each of its own. -/
structure Sx (W : World) (N gs n : Nat) (ls : List (List Nat)) (rs : List Value) : Prop where
  row : W.ownsRow N 32 1 (.slice (some ⟨gs, 0, none⟩) n n) n rs
  len : ls.length = n
  own : ∀ i (h1 : i < rs.length) (h2 : i < ls.length), W.ownsRow N 3 1 rs[i] (ls[i]).length (nz ls[i])
theorem Sx.rl {W : World} {N gs n : Nat} {ls : List (List Nat)} {rs : List Value} (h : Sx W N gs n ls rs) : rs.length = n := by
  have := h.row.1
  omega
theorem Sx.later {W W' : World} {N gs n : Nat} {ls : List (List Nat)} {rs : List Value} (h : Sx W N gs n ls rs) (hb : Below W.heap.size W W') : Sx W' N gs n ls rs :=
  ⟨own_later h.row hb, h.len, fun i h1 h2 => own_later (h.own i h1 h2) hb⟩
theorem Sx.put {W : World} {N gs n p : Nat} {ls : List (List Nat)} {rs : List Value} {v : Value} {l : List Nat} (h : Sx W N gs n ls rs) (hv : W.ownsRow N 3 1 v l.length (nz l)) : Sx (W.setCell ⟨gs, p, none⟩ v) N gs n (ls.set p l) (rs.set p v) where
  row := (h.row.stored p v).1
  len := by rw [List.length_set]; exact h.len
  own := fun i h1 h2 => by
    rw [List.length_set] at h1 h2
    have hap : ∀ {u : Value} {m : Nat} {xs : List Value}, W.ownsRow N 3 1 u m xs → (W.setCell ⟨gs, p, none⟩ v).ownsRow N 3 1 u m xs := fun hu => own_set hu (fun e => own_ap2 h.row hu (by decide) gs rfl e)
    by_cases e : p = i
    · subst e
      simp only [List.getElem_set_self]
      exact hap hv
    · simp only [List.getElem_set_ne e]
      exact hap (h.own i h1 h2)
theorem own_rn0 {W : World} {N : Nat} {v : Value} {l : List Nat} (h : W.ownsRow N 3 1 v l.length (nz l)) : Rn W v l := by
  obtain ⟨ao, c, rfl⟩ := own_len h
  obtain ⟨h1, h2⟩ := own_cap h
  refine ⟨ao, c, rfl, h1, h2, fun h0 => ?_⟩
  obtain ⟨g, c', e, -, -⟩ := own_form h h0
  simp only [Value.slice.injEq, true_and] at e
  obtain ⟨rfl, rfl⟩ := e
  refine ⟨g, 0, rfl, fun i hi => ?_⟩
  rw [Nat.zero_add, h.cellAt i (by omega), nz_at l i hi]
theorem Sx.rr {W : World} {N gs n : Nat} {ls : List (List Nat)} {rs : List Value} (h : Sx W N gs n ls rs) : Rr W (.slice (some ⟨gs, 0, none⟩) n n) ls := by
  obtain ⟨h1, h2⟩ := own_cap h.row
  refine ⟨_, n, rs, by rw [h.len], by rw [h.len]; exact h1, h2, by rw [h.rl, h.len], fun _ => ⟨gs, 0, rfl, fun i hi => ?_⟩, fun i a b => own_rn0 (h.own i a b)⟩
  rw [Nat.zero_add, h.row.cellAt i (by have := h.rl; omega), List.getElem?_eq_getElem hi]
/-- What stands there behind j rounds. -/
def stl (c : List Ins) (j : Nat) : List (List Nat) := (List.range c.length).map fun i => if i < j then stlI c i else []
theorem stl_set {c : List Ins} {j : Nat} : (stl c j).set j (stlI c j) = stl c (j + 1) := by
  apply List.ext_getElem
  · simp [stl]
  · intro i h1 h2
    simp [stl] at h1 h2
    by_cases e : j = i
    · subst e
      simp [stl]
    · rw [List.getElem_set_ne e]
      simp only [stl, List.getElem_map, List.getElem_range]
      by_cases c : i < j
      · rw [if_pos c, if_pos (by omega)]
      · rw [if_neg c, if_neg (by omega)]
theorem stl_skip {c : List Ins} {j : Nat} (h : stlI c j = []) : stl c (j + 1) = stl c j := by
  apply List.ext_getElem
  · simp [stl]
  · intro i h1 h2
    simp only [stl, List.getElem_map, List.getElem_range]
    by_cases c1 : i < j
    · rw [if_pos c1, if_pos (by omega)]
    · rw [if_neg c1]
      by_cases e : i = j
      · subst e
        rw [if_pos (by omega), h]
      · rw [if_neg (by omega)]
theorem infoL : (Tryd.prog.info? 32).map (fun i => (i.zero, i.size, i.bytes)) = some (some (.slice none 0 0), 1, 24) := by kernel_rfl
end Go.Proofs.YtklamaibinjcmaaDoor
