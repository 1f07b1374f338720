/-
  Two pairs of pools, and what the law holds: each block is labelled by whose it is.
-/
import Derived.Test.YtejbdhbphbgckaaFil1
import Derived.Test.YtejbdhbphbgckaaLawFrom
import Derived.Test.YtejbdhbphbgckaaFence
namespace Go.Proofs.Ytejbdhbphbgckaa
open Go.RowKit
abbrev St := Nat × List Nat × List Nat
def PlS (w : World) (S : Nat → Prop) (g : Nat) (s : St) : Prop := Pl w S g s.1 s.2.1 s.2.2
def DlS (w : World) (S : Nat → Prop) (g : Nat) (s : St) : Prop := Dl w S g s.1 s.2.1 s.2.2
def Lb (own : Nat → Nat) (w : World) (i : Nat) : Nat → Prop := fun k => k < w.heap.size ∧ own k = i
def ptr (g : Nat) : Value := .pointer (some ⟨g, 0, none⟩)
def four (G : Nat → Nat × Nat) : Four := (ptr (G 0).1, ptr (G 0).2, ptr (G 1).1, ptr (G 1).2)
def Bw (w : World) (gw : Nat) (own : Nat → Nat) (G : Nat → Nat × Nat) (C D : Nat → St) (L : List Held) : Prop :=
  (∀ i, i < 2 → PlS w (Lb own w (2 * i)) (G i).1 (C i)) ∧ (∀ i, i < 2 → DlS w (Lb own w (2 * i + 1)) (G i).2 (D i)) ∧ Wl w gw (four G) (Lb own w 4) (Lb own w 5) L
/-- All that lies below B is nobody's. -/
def Fe (own : Nat → Nat) (B : Nat) (w : World) : Prop := B ≤ w.heap.size ∧ ∀ k, k < B → own k = 6
def Bu (w : World) (gw B : Nat) (G : Nat → Nat × Nat) (C D : Nat → St) (L : List Held) : Prop := ∃ own, Fe own B w ∧ Bw w gw own G C D L
def upd {α : Type} (C : Nat → α) (i : Nat) (s : α) : Nat → α := fun j => if j = i then s else C j
theorem upd_same {α : Type} (C : Nat → α) (i : Nat) : upd C i (C i) = C := by
  funext j
  unfold upd
  split
  · rename_i h; rw [h]
  · rfl
theorem upd_at {α : Type} (C : Nat → α) (i : Nat) (s : α) : upd C i s i = s := by simp [upd]
def ext (own : Nat → Nat) (n i : Nat) : Nat → Nat := fun k => if k < n then own k else i
section
variable {w w' : World} {own own' : Nat → Nat} {gw i B : Nat} {G : Nat → Nat × Nat} {C D : Nat → St} {L L' : List Held} {x : Four} {S H S' H' T : Nat → Prop}
theorem Wl.frame (h : Wl w gw x S H L) (hm : Mv w w' T) (hs : ∀ k, S k → ¬ T k) (hh : ∀ k, H k → ¬ T k) : Wl w' gw x S H L := by
  obtain ⟨vl, h1, h2, h3, h4, h5, h6⟩ := h
  have hsz := hm.size
  refine ⟨vl, h1.frame hm (hs gw h2) (fun k e => hs k (h3 k e)), h2, h3, fun k e => ⟨Nat.lt_of_lt_of_le (h4 k e).1 hsz, (h4 k e).2⟩, fun k e => Nat.lt_of_lt_of_le (h5 k e) hsz, fun y hy => ?_⟩
  obtain ⟨a1, a2, a3, a4⟩ := h6 y hy
  exact ⟨a1.frame hm (fun q e => hh q (a3 q e)), a2.frame hm (fun q e => hh q (a4 q e)), a3, a4⟩
theorem Wl.sets (h : Wl w gw x S H L) (hs : ∀ k, S k → S' k) (hh : ∀ k, H k → H' k) (h1 : ∀ k, S' k → k < w.heap.size ∧ ¬ H' k) (h2 : ∀ k, H' k → k < w.heap.size) : Wl w gw x S' H' L := by
  obtain ⟨vl, k1, k2, k3, k4, k5, k6⟩ := h
  exact ⟨vl, k1, hs _ k2, k3.mono hs, h1, h2, fun y hy => ⟨(k6 y hy).1, (k6 y hy).2.1, (k6 y hy).2.2.1.mono hh, (k6 y hy).2.2.2.mono hh⟩⟩
theorem Lb.ne {i j k : Nat} (h : Lb own w i k) (e : i ≠ j) : ¬ Lb own w' j k := fun h' => e (h.2.symm.trans h'.2)
theorem Wl.label (h : Wl w gw x (Lb own w 4) (Lb own w 5) L) (hm : Mv w w' T) (ht : ∀ k, (Lb own w 4 k ∨ Lb own w 5 k) → ¬ T k) (hu : ∀ k, k < w.heap.size → (own k = 4 → own' k = 4) ∧ (own k = 5 → own' k = 5)) : Wl w' gw x (Lb own' w' 4) (Lb own' w' 5) L := by
  have hsz := hm.size
  refine (h.frame hm (fun k e => ht k (.inl e)) (fun k e => ht k (.inr e))).sets (fun k e => ⟨Nat.lt_of_lt_of_le e.1 hsz, (hu k e.1).1 e.2⟩) (fun k e => ⟨Nat.lt_of_lt_of_le e.1 hsz, (hu k e.1).2 e.2⟩) (fun k e => ⟨e.1, e.ne (by decide)⟩) (fun k e => e.1)
theorem Fe.ext (h : Fe own B w) (hsz : w.heap.size ≤ w'.heap.size) (i : Nat) : Fe (ext own w.heap.size i) B w' :=
  ⟨Nat.le_trans h.1 hsz, fun k hk => by unfold Go.Proofs.Ytejbdhbphbgckaa.ext; rw [if_pos (Nat.lt_of_lt_of_le hk h.1)]; exact h.2 k hk⟩
theorem Fe.le (h : Fe own B w) {k : Nat} (hk : own k ≠ 6) : B ≤ k := Nat.le_of_not_lt fun e => hk (h.2 k e)
theorem Fe.below (h : Fe own B w) (hm : Mv w w' (Lb own w i)) (hi : i ≠ 6) : Below B w w' := hm.below h.1 (fun k e => h.le (by rw [e.2]; exact hi))
/-- A call on one of the program's pools. -/
theorem Bw.turnC (h : Bw w gw own G C D L) (hi : i < 2) {st : St} (hp : PlS w' (Nw w (Lb own w (2 * i))) (G i).1 st) (hm : Mv w w' (Lb own w (2 * i))) : Bw w' gw (ext own w.heap.size (2 * i)) G (upd C i st) D L := by
  obtain ⟨h1, h2, h3⟩ := h
  have hsz := hm.size
  have up : ∀ j k, Lb own w j k → Lb (ext own w.heap.size (2 * i)) w' j k := fun j k e => ⟨Nat.lt_of_lt_of_le e.1 hsz, by unfold ext; rw [if_pos e.1]; exact e.2⟩
  refine ⟨fun j hj => ?_, fun j hj => ?_, h3.label hm (fun k e => ?_) (fun k hk => by unfold ext; rw [if_pos hk]; exact ⟨id, id⟩)⟩
  · by_cases e : j = i
    · subst e
      rw [upd_at]
      refine (Pl.tight hp).mono (fun k e => ⟨e.2, ?_⟩)
      unfold ext
      rcases e.1 with h | h
      · rw [if_pos h.1]; exact h.2
      · rw [if_neg (by omega)]
    · have := ((h1 j hj).frame hm (fun k e' => e'.ne (by omega))).mono (up _)
      unfold upd
      rw [if_neg e]
      exact this
  · exact ((h2 j hj).frame hm (fun k e' => e'.ne (by omega))).mono (up _)
  · rcases e with e | e
    · exact e.ne (by omega)
    · exact e.ne (by omega)
/-- A call on one of the document's. -/
theorem Bw.turnD (h : Bw w gw own G C D L) (hi : i < 2) {st : St} (hp : DlS w' (Nw w (Lb own w (2 * i + 1))) (G i).2 st) (hm : Mv w w' (Lb own w (2 * i + 1))) : Bw w' gw (ext own w.heap.size (2 * i + 1)) G C (upd D i st) L := by
  obtain ⟨h1, h2, h3⟩ := h
  have hsz := hm.size
  have up : ∀ j k, Lb own w j k → Lb (ext own w.heap.size (2 * i + 1)) w' j k := fun j k e => ⟨Nat.lt_of_lt_of_le e.1 hsz, by unfold ext; rw [if_pos e.1]; exact e.2⟩
  refine ⟨fun j hj => ?_, fun j hj => ?_, h3.label hm (fun k e => ?_) (fun k hk => by unfold ext; rw [if_pos hk]; exact ⟨id, id⟩)⟩
  · exact ((h1 j hj).frame hm (fun k e' => e'.ne (by omega))).mono (up _)
  · by_cases e : j = i
    · subst e
      rw [upd_at]
      refine (Dl.tight hp).mono (fun k e => ⟨e.2, ?_⟩)
      unfold ext
      rcases e.1 with h | h
      · rw [if_pos h.1]; exact h.2
      · rw [if_neg (by omega)]
    · have := ((h2 j hj).frame hm (fun k e' => e'.ne (by omega))).mono (up _)
      unfold upd
      rw [if_neg e]
      exact this
  · rcases e with e | e
    · exact e.ne (by omega)
    · exact e.ne (by omega)
/-- New memory that is nobody's. -/
theorem Bw.later (h : Bw w gw own G C D L) (hb : Below w.heap.size w w') : Bw w' gw (ext own w.heap.size 6) G C D L := by
  obtain ⟨h1, h2, h3⟩ := h
  have hsz := hb.size
  have up : ∀ j k, Lb own w j k → Lb (ext own w.heap.size 6) w' j k := fun j k e => ⟨Nat.lt_of_lt_of_le e.1 hsz, by unfold ext; rw [if_pos e.1]; exact e.2⟩
  exact ⟨fun j hj => ((h1 j hj).later hb).mono (up _), fun j hj => ((h2 j hj).later hb).mono (up _), h3.label (Mv.of_below hb (fun _ => False)) (fun _ _ e => e) (fun k hk => by unfold ext; rw [if_pos hk]; exact ⟨id, id⟩)⟩
/-- Rows that are nobody's come to be held. -/
theorem Bw.filled {Vs : List (Value × Nat)} (h : Bw w gw own G C D L) (hr : ∀ k, Rb Vs k → own k = 6) (hw : Wl w' gw (four G) S' H' L') (hs : ∀ k, S' k → Lb own w 4 k ∨ w.heap.size ≤ k) (hh : ∀ k, H' k → Lb own w 5 k ∨ Rb Vs k ∨ w.heap.size ≤ k) (hm : Mv w w' (fun k => Lb own w 4 k ∨ Rb Vs k)) (hF : Fe own B w) (hR : ∀ k, Rb Vs k → B ≤ k) : Bu w' gw B G C D L' ∧ Below B w w' := by
  classical
  obtain ⟨h1, h2, h3⟩ := h
  have hsz := hm.size
  obtain ⟨o', ho'⟩ : ∃ o', o' = fun k => if S' k then 4 else if H' k then 5 else if k < w.heap.size ∧ own k < 4 then own k else 6 := ⟨_, rfl⟩
  have up : ∀ j k, j < 4 → Lb own w j k → Lb o' w' j k := fun j k hj e => by
    have n1 : ¬ S' k := fun e' => by
      rcases hs k e' with a | a
      · have := a.2; have := e.2; omega
      · have := e.1; omega
    have n2 : ¬ H' k := fun e' => by
      rcases hh k e' with a | a | a
      · have := a.2; have := e.2; omega
      · have := hr k a; have := e.2; omega
      · have := e.1; omega
    refine ⟨Nat.lt_of_lt_of_le e.1 hsz, ?_⟩
    rw [ho']
    simp only [if_neg n1, if_neg n2]
    rw [if_pos ⟨e.1, by have := e.2; omega⟩]
    exact e.2
  have nt : ∀ j k, j < 4 → Lb own w j k → ¬ (Lb own w 4 k ∨ Rb Vs k) := fun j k hj e r => by
    rcases r with r | r
    · have := r.2; have := e.2; omega
    · have := hr k r; have := e.2; omega
  refine ⟨⟨o', ⟨Nat.le_trans hF.1 hsz, fun k hk => ?_⟩, fun j hj => ((h1 j hj).frame hm (fun k => nt _ k (by omega))).mono (fun k => up _ k (by omega)), fun j hj => ((h2 j hj).frame hm (fun k => nt _ k (by omega))).mono (fun k => up _ k (by omega)), ?_⟩, hm.below hF.1 (fun k e => ?_)⟩
  · have h6 := hF.2 k hk
    have hks := hF.1
    have n1 : ¬ S' k := fun e' => by
      rcases hs k e' with a | a
      · have := a.2; omega
      · omega
    have n2 : ¬ H' k := fun e' => by
      rcases hh k e' with a | a | a
      · have := a.2; omega
      · have := hR k a; omega
      · omega
    rw [ho']
    simp only [if_neg n1, if_neg n2]
    rw [if_neg (by omega)]
  rotate_left
  · rcases e with e | e
    · exact hF.le (by rw [e.2]; decide)
    · exact hR k e
  obtain ⟨vl, k1, k2, k3, k4, k5, k6⟩ := id hw
  refine hw.sets (fun k e => ⟨(k4 k e).1, by rw [ho']; simp [e]⟩) (fun k e => ⟨k5 k e, ?_⟩) (fun k e => ⟨e.1, e.ne (by decide)⟩) (fun k e => e.1)
  have : ¬ S' k := fun e' => (k4 k e').2 e
  rw [ho']
  simp [e, this]
theorem Bw.bu (h : Bw w gw own G C D L) (hF : Fe own B w) : Bu w gw B G C D L := ⟨own, hF, h⟩
theorem Bu.later (h : Bu w gw B G C D L) (hb : Below w.heap.size w w') : Bu w' gw B G C D L := by
  obtain ⟨own, hF, h⟩ := h
  exact ⟨_, hF.ext hb.size 6, h.later hb⟩
theorem Bu.pair (h : Bu w gw B G C D L) (hi : i < 2) : w.cell? ⟨gw, i * 2, none⟩ = some (ptr (G i).1) ∧ w.cell? ⟨gw, i * 2 + 1, none⟩ = some (ptr (G i).2) := by
  obtain ⟨own, -, h1, h2, vl, k1, -⟩ := h
  match i, hi with
  | 0, _ => exact ⟨by rw [cell_of_row w gw _ _ 32 (0, 0) k1.1]; rfl, by rw [cell_of_row w gw _ _ 32 (0, 0) k1.1]; rfl⟩
  | 1, _ => exact ⟨by rw [cell_of_row w gw _ _ 32 (0, 0) k1.1]; rfl, by rw [cell_of_row w gw _ _ 32 (0, 0) k1.1]; rfl⟩
/-- Another pair at a place. -/
theorem Bw.place (h : Bw w gw own G C D L) (hi : i < 2) {g r : Nat} {st : St} {T U : Nat → Prop} (hb : Below w.heap.size w w') (hp : PlS w' T g st) (hd : DlS w' U r st) (hT : ∀ k, T k → w.heap.size ≤ k) (hU : ∀ k, U k → w.heap.size ≤ k) (hTU : ∀ k, T k → ¬ U k) (hF : Fe own B w) :
    Bu ((w'.setCell ⟨gw, i * 2, none⟩ (ptr g)).setCell ⟨gw, i * 2 + 1, none⟩ (ptr r)) gw B (upd G i (g, r)) (upd C i st) (upd D i st) L ∧ Below B w ((w'.setCell ⟨gw, i * 2, none⟩ (ptr g)).setCell ⟨gw, i * 2 + 1, none⟩ (ptr r)) := by
  classical
  have h' := h.later hb
  obtain ⟨h1, h2, h3⟩ := h'
  obtain ⟨vl, k1, k2, k3, k4, k5, k6⟩ := id h3
  have hgw : gw < w.heap.size := by
    obtain ⟨_, _, vl, k1, -⟩ := h
    exact k1.lt
  have hown : own gw = 4 := by have := k2.2; unfold ext at this; rwa [if_pos hgw] at this
  obtain ⟨W, hW⟩ : ∃ W, W = (w'.setCell ⟨gw, i * 2, none⟩ (ptr g)).setCell ⟨gw, i * 2 + 1, none⟩ (ptr r) := ⟨_, rfl⟩
  have hm : Mv w' W (fun k => k = gw) := by rw [hW]; exact Mv.set (S := fun k => k = gw) (Mv.set (S := fun k => k = gw) (Mv.refl _ _) rfl _ _) rfl _ _
  have hsz := hm.size
  obtain ⟨o', ho'⟩ : ∃ o' : Nat → Nat, o' = fun k => if k < w.heap.size then (if own k = 2 * i ∨ own k = 2 * i + 1 then 6 else own k) else if T k then 2 * i else if U k then 2 * i + 1 else 6 := ⟨_, rfl⟩
  rw [← hW]
  have ee : ∀ j k, j < 6 → Lb (ext own w.heap.size 6) w' j k → k < w.heap.size ∧ own k = j := fun j k hj e => by
    have := e.2
    unfold ext at this
    split at this
    · exact ⟨by assumption, this⟩
    · omega
  have up : ∀ j k, j < 6 → j ≠ 2 * i → j ≠ 2 * i + 1 → Lb (ext own w.heap.size 6) w' j k → Lb o' W j k := fun j k hj n1 n2 e => by
    obtain ⟨e1, e2⟩ := ee j k hj e
    refine ⟨Nat.lt_of_lt_of_le e.1 hsz, ?_⟩
    rw [ho']
    simp only [if_pos e1]
    rw [if_neg (by omega)]
    exact e2
  have ng : ∀ j k, j < 4 → Lb (ext own w.heap.size 6) w' j k → ¬ k = gw := fun j k hj e e' => by
    obtain ⟨e1, e2⟩ := ee j k (by omega) e
    subst e'
    omega
  have hBg : B ≤ gw := hF.le (by omega)
  have hBW : Below B w W := (hb.mono hF.1).trans (hm.below (Nat.le_trans hF.1 hb.size) (fun k e => by omega))
  refine ⟨⟨o', ⟨Nat.le_trans (Nat.le_trans hF.1 hb.size) hsz, fun k hk => ?_⟩, fun j hj => ?_, fun j hj => ?_, ?_⟩, hBW⟩
  · have h6 := hF.2 k hk
    have := hF.1
    rw [ho']
    simp only [if_pos (show k < w.heap.size by omega)]
    rw [h6]
    split <;> rfl
  · by_cases e : j = i
    · subst e
      rw [upd_at, upd_at]
      refine (Pl.tight (Pl.frame hp hm (fun k e e' => by have := hT k e; omega))).mono (fun k e => ⟨e.2, ?_⟩)
      have := hT k e.1
      rw [ho']
      simp only [if_neg (show ¬ k < w.heap.size by omega), if_pos e.1]
    · have := ((h1 j hj).frame hm (fun k => ng _ k (by omega))).mono (fun k => up _ k (by omega) (by omega) (by omega))
      unfold upd
      rw [if_neg e, if_neg e]
      exact this
  · by_cases e : j = i
    · subst e
      rw [upd_at, upd_at]
      refine (Dl.tight (Dl.frame hd hm (fun k e e' => by have := hU k e; omega))).mono (fun k e => ⟨e.2, ?_⟩)
      have h1 := hU k e.1
      have h2 : ¬ T k := fun t => hTU k t e.1
      rw [ho']
      simp only [if_neg (show ¬ k < w.heap.size by omega), if_neg h2, if_pos e.1]
    · have := ((h2 j hj).frame hm (fun k => ng _ k (by omega))).mono (fun k => up _ k (by omega) (by omega) (by omega))
      unfold upd
      rw [if_neg e, if_neg e]
      exact this
  · have hvl : ∀ k, vl.ownBlock = some k → ¬ k = gw := fun k e e' => k1.2.2 (e' ▸ e)
    have hH : ∀ k, Lb (ext own w.heap.size 6) w' 5 k → ¬ k = gw := fun k e e' => by
      obtain ⟨e1, e2⟩ := ee 5 k (by omega) e
      subst e'
      omega
    refine Wl.sets (S := Lb (ext own w.heap.size 6) w' 4) (H := Lb (ext own w.heap.size 6) w' 5) ⟨vl, ⟨?_, hm.own k1.2.1 hvl, k1.2.2⟩, k2, k3, fun k e => ⟨Nat.lt_of_lt_of_le e.1 hsz, e.ne (by decide)⟩, fun k e => Nat.lt_of_lt_of_le e.1 hsz, fun y hy => ?_⟩ (fun k => up _ k (by omega) (by omega) (by omega)) (fun k => up _ k (by omega) (by omega) (by omega)) (fun k e => ⟨e.1, e.ne (by decide)⟩) (fun k e => e.1)
    · have a1 := heap_setCell_same w' gw (i * 2) _ 32 (ptr g) k1.1
      have a2 := heap_setCell_same _ gw (i * 2 + 1) _ 32 (ptr r) a1
      rw [hW, a2]
      match i, hi with
      | 0, _ => rfl
      | 1, _ => rfl
    · obtain ⟨a1, a2, a3, a4⟩ := k6 y hy
      exact ⟨a1.frame hm (fun q e => hH q (a3 q e)), a2.frame hm (fun q e => hH q (a4 q e)), a3, a4⟩
end
end Go.Proofs.Ytejbdhbphbgckaa
