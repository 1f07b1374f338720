/-
  DiceBounds: what falls lies where it must; three dice and a cup beside one another.
-/
import Derived.Test.YtihlhidpiehehaaShown
namespace Go.Proofs.Ytihlhidpiehehaa
open Go.RowKit
theorem wid_pos {a b : Int} (ha : -9223372036854775808 ≤ a) (hb : b ≤ 9223372036854775807) (h : ¬ b < a) : (0 < wid a b → wid a b = b - a + 1) ∧ (wid a b = 0 → b - a + 1 = 18446744073709551616) ∧ (wid a b < 0 → wid a b + 18446744073709551616 = b - a + 1) := by
  unfold wid
  simp only [wrap64]
  omega
theorem btwA_b {a b : Int} (s : Int) (ha : -9223372036854775808 ≤ a ∧ a ≤ 9223372036854775807) (hb : -9223372036854775808 ≤ b ∧ b ≤ 9223372036854775807) : a ≤ btwA a b s ∧ (a ≤ b → btwA a b s ≤ b) ∧ (b < a → btwA a b s = a) := by
  by_cases h : b < a
  · have e : btwA a b s = a := if_pos h
    rw [e]
    exact ⟨Int.le_refl _, fun h' => absurd h (by omega), fun _ => rfl⟩
  · obtain ⟨p1, p2, p3⟩ := wid_pos ha.1 hb.2 h
    refine (fun (x : a ≤ btwA a b s ∧ btwA a b s ≤ b) => ⟨x.1, fun _ => x.2, fun h' => absurd h' h⟩) ?_
    unfold btwA
    rw [if_neg h]
    by_cases h1 : 0 < wid a b
    · rw [if_pos h1]
      obtain ⟨q0, q1⟩ := belA_b (n := wid a b) s (by omega)
      have e := p1 h1
      generalize belA (wid a b) s = r at *
      generalize wid a b = n at *
      simp only [wrap64]
      omega
    · rw [if_neg h1]
      by_cases h2 : wid a b = 0
      · rw [if_pos h2]
        have e := p2 h2
        have := w64_b (mixI s)
        omega
      · rw [if_neg h2]
        have e := p3 (by omega)
        have q0 := Int.emod_nonneg (mixI s) (b := wid a b + 18446744073709551616) (by omega)
        have q1 := Int.emod_lt_of_pos (mixI s) (b := wid a b + 18446744073709551616) (by omega)
        rw [e] at q0 q1 ⊢
        generalize mixI s % (b - a + 1) = r at *
        clear p1 p2 p3 h1 h2 e
        generalize wid a b = n at *
        simp only [wrap64]
        omega
/-- Shuffle of up to 1000. -/
theorem shuffle_k {w : World} {g : Nat} {s : Int} (h : Dz w g s) (k : Nat) (hk : k ≤ 1000) : Calls Try.prog 18 #[.pointer (some ⟨g, 0, none⟩), .int .i64 (k : Int)] w fun e w' => ∃ ao, e = .returned (.slice ao k k) ∧ (1 ≤ k → ∃ gs, ao = some ⟨gs, 0, none⟩ ∧ w.heap.size ≤ gs ∧ Ir w' gs (ordL k s)) ∧ Dz w' g (ordS k s) ∧ Mv w w' (fun k => k = g) := by
  by_cases h1 : 1 ≤ k
  · refine (shuffle_any h k h1 hk).mono ?_
    rintro e w' ⟨rfl, h2, h3, h4⟩
    exact ⟨_, rfl, fun _ => ⟨_, rfl, Nat.le_refl _, h2⟩, h3, h4⟩
  · obtain rfl : k = 0 := by omega
    refine (shuffle_bad _ (.inl (by omega))).mono ?_
    rintro e w' ⟨rfl, rfl⟩
    exact ⟨none, rfl, fun h => absurd h (by omega), h, Mv.refl _ _⟩
/-- A cup, and three dice. -/
def Cp (w0 w : World) (kc gd ge gb : Nat) (c0 c1 c2 c3 s s' : Int) : Prop :=
  w.heap[kc]? = some (.cells #[.int .i64 c0, .int .i64 c1, .int .i64 c2, .int .i64 c3] 27 (0, 0)) ∧ Dz w gd s ∧ Dz w ge s' ∧ (∃ sb, Dz w gb sb) ∧ Below w0.heap.size w0 w ∧
  (w0.heap.size ≤ kc ∧ w0.heap.size ≤ gd ∧ w0.heap.size ≤ ge ∧ w0.heap.size ≤ gb) ∧ gd ≠ kc ∧ ge ≠ kc ∧ gb ≠ kc ∧ gd ≠ ge ∧ gd ≠ gb ∧ ge ≠ gb
section
variable {w0 w w' : World} {kc gd ge gb : Nat} {c0 c1 c2 c3 s s' t : Int}
theorem Cp.later (h : Cp w0 w kc gd ge gb c0 c1 c2 c3 s s') (hb : Below w.heap.size w w') : Cp w0 w' kc gd ge gb c0 c1 c2 c3 s s' := by
  obtain ⟨h1, h2, h3, ⟨sb, h4⟩, h5, h6⟩ := h
  exact ⟨(hb.block kc (lt_of_block h1)).trans h1, h2.later hb, h3.later hb, ⟨sb, h4.later hb⟩, h5.trans (hb.mono h5.size), h6⟩
theorem Cp.turnD (h : Cp w0 w kc gd ge gb c0 c1 c2 c3 s s') (hd : Dz w' gd t) (hm : Mv w w' (fun k => k = gd)) : Cp w0 w' kc gd ge gb c0 c1 c2 c3 t s' := by
  obtain ⟨h1, h2, h3, ⟨sb, h4⟩, h5, h6, n1, n2, n3, n4, n5, n6⟩ := h
  exact ⟨hm.at h1 (fun e => n1 e.symm), hd, h3.frame hm (fun e => n4 e.symm), ⟨sb, h4.frame hm (fun e => n5 e.symm)⟩, h5.trans (hm.below h5.size (fun k e => by rw [e]; exact h6.2.1)), h6, n1, n2, n3, n4, n5, n6⟩
theorem Cp.turnE (h : Cp w0 w kc gd ge gb c0 c1 c2 c3 s s') (hd : Dz w' ge t) (hm : Mv w w' (fun k => k = ge)) : Cp w0 w' kc gd ge gb c0 c1 c2 c3 s t := by
  obtain ⟨h1, h2, h3, ⟨sb, h4⟩, h5, h6, n1, n2, n3, n4, n5, n6⟩ := h
  exact ⟨hm.at h1 (fun e => n2 e.symm), h2.frame hm n4, hd, ⟨sb, h4.frame hm (fun e => n6 e.symm)⟩, h5.trans (hm.below h5.size (fun k e => by rw [e]; exact h6.2.2.1)), h6, n1, n2, n3, n4, n5, n6⟩
theorem Cp.turnB (h : Cp w0 w kc gd ge gb c0 c1 c2 c3 s s') (hd : Dz w' gb t) (hm : Mv w w' (fun k => k = gb)) : Cp w0 w' kc gd ge gb c0 c1 c2 c3 s s' := by
  obtain ⟨h1, h2, h3, ⟨sb, h4⟩, h5, h6, n1, n2, n3, n4, n5, n6⟩ := h
  exact ⟨hm.at h1 (fun e => n3 e.symm), h2.frame hm n5, h3.frame hm n6, ⟨t, hd⟩, h5.trans (hm.below h5.size (fun k e => by rw [e]; exact h6.2.2.2)), h6, n1, n2, n3, n4, n5, n6⟩
theorem Cp.cells (h : Cp w0 w kc gd ge gb c0 c1 c2 c3 s s') : w.cell? ⟨kc, 0, none⟩ = some (.int .i64 c0) ∧ w.cell? ⟨kc, 1, none⟩ = some (.int .i64 c1) ∧ w.cell? ⟨kc, 2, none⟩ = some (.int .i64 c2) ∧ w.cell? ⟨kc, 3, none⟩ = some (.int .i64 c3) := by
  refine ⟨?_, ?_, ?_, ?_⟩ <;> rw [cell_of_row w kc _ _ 27 (0, 0) h.1] <;> rfl
end
/-- Who was seen. -/
def Sn (w : World) (g k : Nat) (p : Nat → Bool) : Prop := w.heap[g]? = some (.cells ((List.range k).map fun i => Value.bool (p i)).toArray 4 (0, 0))
section
variable {w w' : World} {g k : Nat} {p : Nat → Bool}
theorem Sn.lt (h : Sn w g k p) : g < w.heap.size := lt_of_block h
theorem Sn.cell (h : Sn w g k p) (i : Nat) (hi : i < k) : w.cell? ⟨g, i, none⟩ = some (.bool (p i)) := by
  rw [cell_of_row w g i _ 4 (0, 0) h]
  simp [hi]
theorem Sn.frozen (h : Sn w g k p) (i : Nat) : w.frozen? ⟨g, i, none⟩ = false := frozen_of_row w g i _ 4 h
theorem Sn.set (h : Sn w g k p) (i : Nat) : Sn (w.setCell ⟨g, i, none⟩ (.bool true)) g k (fun x => decide (x = i) || p x) := by
  have := heap_setCell_same w g i _ 4 (.bool true) h
  unfold Sn
  rw [this]
  simp only [List.setIfInBounds_toArray, Option.some.injEq, Obj.cells.injEq, and_true]
  apply congrArg List.toArray
  apply List.ext_getElem
  · simp
  · intro n h1 h2
    simp only [List.getElem_set, List.getElem_map, List.getElem_range]
    by_cases e : i = n
    · subst e
      simp
    · rw [if_neg e]
      have : decide (n = i) = false := decide_eq_false (fun e' => e e'.symm)
      rw [this]
      rfl
theorem Sn.made (w : World) (k : Nat) : Sn (w.alloc (.cells (madeCells #[.bool false] k) 4)) w.heap.size k (fun _ => false) := by
  unfold Sn
  rw [heap_alloc_new]
  have e : madeCells #[(.bool false : Value)] k = ((List.range k).map fun _ => Value.bool false).toArray := by
    apply Array.toList_inj.1
    rw [toList_madeCells_one]
    show List.replicate k _ = List.map _ _
    rw [List.map_const', List.length_range]
  rw [e]
end
theorem iota_nodup (n : Nat) : (iota n).Nodup := by
  unfold iota
  refine List.pairwise_map.2 ((List.nodup_range (n := n)).imp ?_)
  intro a b h e
  exact h (by exact_mod_cast e)
theorem ord_at (k : Nat) (s : Int) (hk : 1 ≤ k) (i : Nat) (hi : i < k) : ∃ x : Nat, x < k ∧ (ordL k s).getD i 0 = (x : Int) ∧ ∀ j, j < i → (ordL k s).getD j 0 ≠ (x : Int) := by
  have hp := ordL_perm k s hk
  have hl := ordL_len k s hk
  have hm : (ordL k s)[i]'(by omega) ∈ iota k := hp.mem_iff.1 (List.getElem_mem _)
  simp only [iota, List.mem_map, List.mem_range] at hm
  obtain ⟨x, hx, e⟩ := hm
  have g1 : ∀ j (hj : j < k), (ordL k s).getD j 0 = (ordL k s)[j]'(by omega) := fun j hj => by
    rw [List.getD_eq_getElem?_getD, List.getElem?_eq_getElem (by omega)]
    rfl
  refine ⟨x, hx, by rw [g1 i hi, ← e], fun j hj e' => ?_⟩
  have hn : (ordL k s).Nodup := hp.nodup_iff.2 (iota_nodup k)
  rw [g1 j (by omega), e] at e'
  exact absurd e' (List.pairwise_iff_getElem.1 hn j i (by omega) (by omega) hj)
end Go.Proofs.Ytihlhidpiehehaa
