/-
  What is written into a table's parts.
-/
import Derived.Test.YtafmiolehlagkaaGreatTTab
namespace Go.Proofs.YtafmiolehlagkaaGreat
open Go.RowKit
set_option maxRecDepth 100000
def ext (lab : Nat → Nat) (n i : Nat) : Nat → Nat := fun k => if k < n then lab k else i
theorem ext_old {lab : Nat → Nat} {n i k : Nat} (h : k < n) : ext lab n i k = lab k := by unfold ext; rw [if_pos h]
theorem ext_new {lab : Nat → Nat} {n i k : Nat} (h : n ≤ k) : ext lab n i k = i := by unfold ext; rw [if_neg (by omega)]
section
variable {w W1 W' : World} {lab : Nat → Nat} {gt gm n : Nat} {vr vc v' : Value} {cs : List Value} {f f' : Int × Int → Option Nat} {rows rows' : List (Int × Int)} {cols : List (List Int)}
theorem lab_kept {v : Value} {i l : Nat} {B e s m : Nat} {xs : List Value} (h : w.ownsRow B e s v m xs) (hw : w.heap.size ≤ W1.heap.size) (hl : ∀ k, v.ownBlock = some k → lab k = l) : ∀ k, v.ownBlock = some k → ext lab W1.heap.size i k = l := fun k e => by
  rw [ext_old (Nat.lt_of_lt_of_le (h.lt k e).2 hw)]
  exact hl k e
theorem lab_put {v : Value} {l : Nat} {B e s m : Nat} {xs : List Value} (h : w.ownsRow B e s v m xs) (hw : w.heap.size ≤ W1.heap.size) (hl : ∀ k, v.ownBlock = some k → lab k = l) (ha : v'.ownBlock = v.ownBlock ∨ v'.ownBlock = some W1.heap.size) : ∀ k, v'.ownBlock = some k → ext lab W1.heap.size l k = l := fun k e => by
  rcases ha with ha | ha
  · exact lab_kept h hw hl k (ha ▸ e)
  · rw [e] at ha
    obtain rfl := Option.some.inj ha
    exact ext_new (Nat.le_refl _)
theorem Tm.rows_put (h : Tm w lab gt vr gm n vc cs f rows cols) (hb : Below w.heap.size w W1) (ho : W'.ownsRow 0 29 2 v' rows'.length (ez rows')) (hg : W1.grownBy W' vr.ownBlock) (ha : v'.ownBlock = vr.ownBlock ∨ v'.ownBlock = some W1.heap.size) :
    Tm (W'.setCell ⟨gt, 0, none⟩ v') (ext lab W1.heap.size 1) gt v' gm n vc cs f rows' cols ∧ Mv w (W'.setCell ⟨gt, 0, none⟩ v') (fun k => k = gt ∨ vr.ownBlock = some k) ∧ W'.cell? ⟨gt, 0, none⟩ = some vr ∧ W'.frozen? ⟨gt, 0, none⟩ = false := by
  have hsz := hb.size
  have hgt := h.lt
  have h1 := h.later hb
  obtain ⟨b1, b2, b3, b4, b5, b6, b7, b8, b9, b10, b11⟩ := h
  have hm : Mv W1 W' (fun k => vr.ownBlock = some k) := (Mv.refl _ _).grown hg (fun _ _ e => e)
  have ng : vr.ownBlock ≠ some gt := fun e => by have := b8 gt e; omega
  have hv' : v'.ownBlock ≠ some gt := fun e => by
    rcases ha with ha | ha
    · exact ng (ha ▸ e)
    · rw [e] at ha; have := Option.some.inj ha; omega
  obtain ⟨a1, a2, a3, a4, a5, a6, -⟩ := h1
  have hr : W'.heap[gt]? = some (.cells #[vr, .map (some gm), vc] 197 (0, 0)) := hm.at a1 (fun e => ng e)
  have hset : Mv W' (W'.setCell ⟨gt, 0, none⟩ v') (fun k => k = gt) := Mv.set (S := fun k => k = gt) (Mv.refl _ _) rfl _ _
  have hall : Mv W1 (W'.setCell ⟨gt, 0, none⟩ v') (fun k => k = gt ∨ vr.ownBlock = some k) := (hm.mono (fun k _ e => .inr e)).trans hset (fun k _ e => .inl e)
  refine ⟨⟨heap_setCell_same W' gt 0 _ 197 v' hr, own_set ho hv', a3.same (hall.2.2.2.2 gm a3.lt (fun e => ?_)), hall.own a4 (fun k e e' => ?_), a5, fun j hj hj2 => hall.own (a6 j hj hj2) (fun k e e' => ?_), ?_, lab_put b2 hsz b8 ha, ?_, lab_kept b4 hsz b10, fun j hj => lab_kept (b6 j hj (by omega)) hsz (b11 j hj)⟩, (Mv.of_below hb _).trans hall (fun k _ e => e), ?_, frozen_of_row W' gt 0 _ 197 hr⟩
  · rcases e with e | e
    · subst e; omega
    · have := b8 gm e; omega
  · have := b10 k e
    rcases e' with e' | e'
    · subst e'; omega
    · have := b8 k e'; omega
  · have := b11 j hj k e
    rcases e' with e' | e'
    · subst e'; omega
    · have := b8 k e'; omega
  · rw [ext_old (by omega)]; exact b7
  · rw [ext_old (Nat.lt_of_lt_of_le b3.lt hsz)]; exact b9
  · rw [cell_of_row W' gt _ _ 197 (0, 0) hr]; rfl
theorem Tm.map_put {n' : Nat} (h : Tm w lab gt vr gm n vc cs f rows cols) (hp : Mp W' gm n' f') (hg : w.grownBy W' (some gm)) : Tm W' lab gt vr gm n' vc cs f' rows cols ∧ Mv w W' (fun k => k = gm) := by
  have hm : Mv w W' (fun k => k = gm) := (Mv.refl _ _).grown hg (fun k _ e => (Option.some.inj e).symm)
  obtain ⟨b1, b2, b3, b4, b5, b6, b7, b8, b9, b10, b11⟩ := h
  refine ⟨⟨hm.at b1 (fun e => ?_), hm.own b2 (fun k e e' => ?_), hp, hm.own b4 (fun k e e' => ?_), b5, fun j hj hj2 => hm.own (b6 j hj hj2) (fun k e e' => ?_), b7, b8, b9, b10, b11⟩, hm⟩
  · subst e; omega
  · subst e'; have := b8 _ e; omega
  · subst e'; have := b10 _ e; omega
  · subst e'; have := b11 j hj _ e; omega
theorem Tm.col_put {gc c j : Nat} {col : List Int} (h : Tm w lab gt vr gm n (.slice (some ⟨gc, 0, none⟩) cs.length c) cs f rows cols) (hj : j < cs.length) (hb : Below w.heap.size w W1) (ho : W'.ownsRow 0 2 1 v' col.length (zc col)) (hg : W1.grownBy W' (cs[j]).ownBlock) (ha : v'.ownBlock = (cs[j]).ownBlock ∨ v'.ownBlock = some W1.heap.size) :
    Tm (W'.setCell ⟨gc, j, none⟩ v') (ext lab W1.heap.size (4 + j)) gt vr gm n (.slice (some ⟨gc, 0, none⟩) cs.length c) (cs.set j v') f rows (cols.set j col) ∧ Mv w (W'.setCell ⟨gc, j, none⟩ v') (fun k => k = gc ∨ (cs[j]).ownBlock = some k) ∧ W'.cell? ⟨gc, j, none⟩ = some cs[j] ∧ W'.frozen? ⟨gc, j, none⟩ = false := by
  have hsz := hb.size
  have hgt := h.lt
  have h1 := h.later hb
  obtain ⟨b1, b2, b3, b4, b5, b6, b7, b8, b9, b10, b11⟩ := h
  have hm : Mv W1 W' (fun k => (cs[j]).ownBlock = some k) := (Mv.refl _ _).grown hg (fun _ _ e => e)
  have lc : lab gc = 3 := b10 gc rfl
  have hgc : gc < w.heap.size := (b4.lt gc rfl).2
  have ng : (cs[j]).ownBlock ≠ some gc := fun e => by have := b11 j hj gc e; omega
  have hv' : v'.ownBlock ≠ some gc := fun e => by
    rcases ha with ha | ha
    · exact ng (ha ▸ e)
    · rw [e] at ha; have := Option.some.inj ha; omega
  obtain ⟨a1, a2, a3, a4, a5, a6, -⟩ := h1
  have hr : W'.ownsRow 0 30 1 (.slice (some ⟨gc, 0, none⟩) cs.length c) cs.length cs := hm.own a4 (fun k e e' => by
    simp only [Value.ownBlock, Option.some.injEq] at e
    subst e
    exact ng e')
  have hset : Mv W' (W'.setCell ⟨gc, j, none⟩ v') (fun k => k = gc) := Mv.set (S := fun k => k = gc) (Mv.refl _ _) rfl _ _
  have hall : Mv W1 (W'.setCell ⟨gc, j, none⟩ v') (fun k => k = gc ∨ (cs[j]).ownBlock = some k) := (hm.mono (fun k _ e => .inr e)).trans hset (fun k _ e => .inl e)
  refine ⟨⟨hall.at a1 (fun e => ?_), hall.own a2 (fun k e e' => ?_), a3.same (hall.2.2.2.2 gm a3.lt (fun e => ?_)), ?_, by simp [a5], fun i hi hi2 => ?_, ?_, lab_kept b2 hsz b8, ?_, lab_kept b4 hsz b10, fun i hi => ?_⟩, (Mv.of_below hb _).trans hall (fun k _ e => e), own_slices hr j hj, hr.frozenAt j⟩
  · rcases e with e | e
    · subst e; omega
    · have := b11 j hj gt e; omega
  · have := b8 k e
    rcases e' with e' | e'
    · subst e'; omega
    · have := b11 j hj k e'; omega
  · rcases e with e | e
    · subst e; omega
    · have := b11 j hj gm e; omega
  · have := (hr.stored j v').1
    rw [List.length_set]
    exact this
  · have hi' : i < cs.length := by simpa using hi
    have hi2' : i < cols.length := by simpa using hi2
    by_cases e : j = i
    · subst e
      simp only [List.getElem_set_self]
      exact own_set ho hv'
    · simp only [List.getElem_set_ne e]
      refine hall.own (a6 i hi' hi2') (fun k e1 e2 => ?_)
      have := b11 i hi' k e1
      rcases e2 with e2 | e2
      · subst e2; omega
      · have := b11 j hj k e2; omega
  · rw [ext_old (by omega)]; exact b7
  · rw [ext_old (Nat.lt_of_lt_of_le b3.lt hsz)]; exact b9
  · have hi' : i < cs.length := by simpa using hi
    by_cases e : j = i
    · subst e
      simp only [List.getElem_set_self]
      exact lab_put (b6 j hj (by omega)) hsz (b11 j hj) ha
    · simp only [List.getElem_set_ne e]
      exact lab_kept (b6 i hi' (by omega)) hsz (b11 i hi')
end
end Go.Proofs.YtafmiolehlagkaaGreat
