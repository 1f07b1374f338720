/-
  Verify: who calls whom; askCalls.
-/
import Derived.Test.YtklamaibinjcmaaDoorVfS
import Derived.Test.YtklamaibinjcmaaDoorVfG
namespace Go.Proofs.YtklamaibinjcmaaDoor
open Go.RowKit
set_option maxRecDepth 100000
/-- The functions that are called. -/
def clL (c : List Ins) : List Nat := (c.filter fun i => decide (i.op = 21)).map fun i => i.a.toNat
def cls (fns : List Rt) : List (List Nat) := fns.map fun r => clL r.code
/-- Those that are told so far. -/
def clT (fns : List Rt) (j k : Nat) : List (List Nat) := fns.mapIdx fun i r => if i < j then clL r.code else if i = j then clL (r.code.take k) else []
theorem clT_len (fns : List Rt) (j k : Nat) : (clT fns j k).length = fns.length := by simp [clT]
theorem clT_zero (fns : List Rt) : clT fns 0 0 = List.replicate fns.length [] := by
  apply List.ext_getElem
  · simp [clT]
  · intro i h1 h2
    simp [clT, clL]
theorem clT_all (fns : List Rt) : clT fns fns.length 0 = cls fns := by
  apply List.ext_getElem
  · simp [clT, cls]
  · intro i h1 h2
    have : i < fns.length := by simpa [cls] using h2
    simp [clT, cls, this]
theorem clT_next {fns : List Rt} {j : Nat} (hj : j < fns.length) : clT fns j fns[j].code.length = clT fns (j + 1) 0 := by
  apply List.ext_getElem
  · simp [clT]
  · intro i h1 h2
    simp only [clT, List.getElem_mapIdx]
    by_cases c1 : i < j
    · rw [if_pos c1, if_pos (by omega)]
    · rw [if_neg c1]
      by_cases c2 : i = j
      · subst c2
        rw [if_pos rfl, if_pos (by omega), List.take_length]
      · rw [if_neg c2, if_neg (by omega)]
        by_cases c3 : i = j + 1
        · rw [if_pos c3]
          simp [clL]
        · rw [if_neg c3]
theorem clL_take {c : List Ins} {k : Nat} (h : k < c.length) : clL (c.take (k + 1)) = if c[k].op = 21 then clL (c.take k) ++ [c[k].a.toNat] else clL (c.take k) := by
  unfold clL
  rw [List.take_succ_eq_append_getElem h, List.filter_append, List.map_append]
  by_cases e : c[k].op = 21
  · simp [e]
  · simp [e]
theorem clT_at {fns : List Rt} {j k : Nat} (hj : j < fns.length) : (clT fns j k)[j]'(by rw [clT_len]; exact hj) = clL (fns[j].code.take k) := by simp [clT]
theorem clT_put {fns : List Rt} {j k : Nat} (hj : j < fns.length) (hk : k < fns[j].code.length) (ho : fns[j].code[k].op = 21) : (clT fns j k).set j (clL (fns[j].code.take k) ++ [fns[j].code[k].a.toNat]) = clT fns j (k + 1) := by
  apply List.ext_getElem
  · simp [clT]
  · intro i h1 h2
    by_cases e : j = i
    · subst e
      rw [List.getElem_set_self, clT_at hj, clL_take hk, if_pos ho]
    · rw [List.getElem_set_ne e]
      simp only [clT, List.getElem_mapIdx]
      have : ¬ i = j := fun c => e c.symm
      simp [this]
theorem clT_skip {fns : List Rt} {j k : Nat} (hj : j < fns.length) (hk : k < fns[j].code.length) (ho : fns[j].code[k].op ≠ 21) : clT fns j (k + 1) = clT fns j k := by
  apply List.ext_getElem
  · simp [clT]
  · intro i h1 h2
    by_cases e : i = j
    · subst e
      rw [clT_at hj, clT_at hj, clL_take hk, if_neg ho]
    · simp only [clT, List.getElem_mapIdx]
      simp [e]
/-- Lists that are owned, each in a block of its own. -/
structure Cx (W : World) (N gs n : Nat) (ls : List (List Nat)) (rs : List Value) : Prop where
  sx : Sx W N gs n ls rs
  ap : ∀ i j (h1 : i < rs.length) (h2 : j < rs.length), i ≠ j → Ap rs[i] rs[j]
theorem Cx.later {W W' : World} {N gs n : Nat} {ls : List (List Nat)} {rs : List Value} (h : Cx W N gs n ls rs) (hb : Below W.heap.size W W') : Cx W' N gs n ls rs := ⟨h.sx.later hb, h.ap⟩
theorem Cx.grow {W W' : World} {N gs n p : Nat} {ls : List (List Nat)} {rs : List Value} {l : List Nat} {g' m c' : Nat} (h : Cx W N gs n ls rs) (hp : p < rs.length) (hg : W.grownBy W' (rs[p]).ownBlock) (hm : m = l.length) (ho : W'.ownsRow N 3 1 (.slice (some ⟨g', 0, none⟩) m c') m (nz l)) (hw : (rs[p]).ownBlock = some g' ∨ W.heap.size ≤ g') :
    Cx (W'.setCell ⟨gs, p, none⟩ (.slice (some ⟨g', 0, none⟩) m c')) N gs n (ls.set p l) (rs.set p (.slice (some ⟨g', 0, none⟩) m c')) := by
  have hpl : p < ls.length := by rw [h.sx.len, ← h.sx.rl]; exact hp
  have hop := h.sx.own p hp hpl
  have hrow : W'.ownsRow N 32 1 (.slice (some ⟨gs, 0, none⟩) n n) n rs := own_kept h.sx.row hg (fun k e e' => own_ap2 h.sx.row hop (by decide) k e e')
  have hoth : ∀ i (h1 : i < rs.length) (h2 : i < ls.length), i ≠ p → W'.ownsRow N 3 1 rs[i] (ls[i]).length (nz ls[i]) := fun i h1 h2 hip => own_kept (h.sx.own i h1 h2) hg (fun k e e' => h.ap i p h1 hp hip k e e')
  have hap : ∀ {u : Value} {k : Nat} {xs : List Value}, W'.ownsRow N 3 1 u k xs → (W'.setCell ⟨gs, p, none⟩ (.slice (some ⟨g', 0, none⟩) m c')).ownsRow N 3 1 u k xs := fun hu => own_set hu (fun e => own_ap2 hrow hu (by decide) gs rfl e)
  have hfar : ∀ i (h1 : i < rs.length), i ≠ p → (rs[i]).ownBlock ≠ some g' := fun i h1 hip e => by
    rcases hw with hw | hw
    · exact h.ap i p h1 hp hip g' e hw
    · have := ((h.sx.own i h1 (by rw [h.sx.len, ← h.sx.rl]; exact h1)).lt g' e).2
      omega
  refine ⟨⟨(hrow.stored p _).1, by rw [List.length_set]; exact h.sx.len, fun i h1 h2 => ?_⟩, fun i j h1 h2 hij => ?_⟩
  · rw [List.length_set] at h1 h2
    by_cases e : p = i
    · subst e
      simp only [List.getElem_set_self]
      rw [← hm]
      exact hap ho
    · simp only [List.getElem_set_ne e]
      exact hap (hoth i h1 h2 (fun c => e c.symm))
  · rw [List.length_set] at h1 h2
    by_cases e : p = i
    · subst e
      simp only [List.getElem_set_self, List.getElem_set_ne hij]
      intro k e1 e2
      simp only [Value.ownBlock, Option.some.injEq] at e1
      exact hfar j h2 (fun c => hij c.symm) (e1 ▸ e2)
    · simp only [List.getElem_set_ne e]
      by_cases e' : p = j
      · subst e'
        simp only [List.getElem_set_self]
        intro k e1 e2
        simp only [Value.ownBlock, Option.some.injEq] at e2
        exact hfar i h1 (fun c => e c.symm) (e2 ▸ e1)
      · simp only [List.getElem_set_ne e']
        exact h.ap i j h1 h2 hij
end Go.Proofs.YtklamaibinjcmaaDoor
