/-
  What the law's adds holds on its way.
-/
import Derived.Test.YtlnjphfkinajdaaBoth
namespace Go.Proofs.Ytlnjphfkinajdaa
open Go.RowKit
section
variable {w w' : World} {own own' : Nat → Nat} {gw i n M M' : Nat} {G : Nat → Nat × Nat} {C D C' D' : Nat → Ts} {L : List Held}
/-- What is nobody's is written. -/
theorem Bw.free (h : Bw w gw M own G n C D L) (hm : Mv w w' (fun k => own k = 0)) : Bw w' gw M (ext own w.heap.size 0) G n C D L := by
  obtain ⟨h1, h2, h3⟩ := h
  have up := fun j => lb_up (own := own) hm.size 0 j
  have nz : ∀ j k, j ≠ 0 → Lb own w j k → ¬ own k = 0 := fun j k hj e e' => by have := e.2; omega
  exact ⟨fun j hj => ((h1 j hj).frame hm (fun k => nz _ k (by omega))).mono (up _), fun j hj => Dt.mono (Dt.frame (h2 j hj) hm (fun k => nz _ k (by omega))) (up _), (h3.frame hm (fun k => nz _ k (by omega)) (fun k => nz _ k (by omega))).sets (up _) (up _)⟩
end
/-- The pair, the entity, the list o; and all that the law knows. -/
def Ad (w : World) (own : Nat → Nat) (gw : Nat) (G : Nat → Nat × Nat) (n i : Nat) (L : List Held) (kp ke go : Nat) (a b : Int) (W : World) (M : Nat) (C D : Nat → Ts) (X : List Int) : Prop :=
  ∃ ownx, Bw W gw M ownx G n C D L ∧ K0 own w ownx W ∧ ((ownx kp = 0 ∧ ownx ke = 0 ∧ ownx go = 0) ∧ w.heap.size ≤ go ∧ go ≠ kp ∧ go ≠ ke) ∧ W.heap[kp]? = some (.cells #[ptr (G i).1, ptr (G i).2] 64 (0, 0)) ∧ W.heap[ke]? = some (.cells #[.int .i64 a, .int .i64 b] 32 (0, 0)) ∧ W.heap[go]? = some (.cells (zc X).toArray 2 (0, 0))
section
variable {w W W' : World} {own own' : Nat → Nat} {gw i n M M' kp ke go : Nat} {a b : Int} {G : Nat → Nat × Nat} {C D C' D' : Nat → Ts} {L : List Held} {X : List Int}
theorem Ad.cells (h : Ad w own gw G n i L kp ke go a b W M C D X) : W.cell? ⟨kp, 0, none⟩ = some (.pointer (some ⟨(G i).1, 0, none⟩)) ∧ W.cell? ⟨kp, 1, none⟩ = some (.pointer (some ⟨(G i).2, 0, none⟩)) ∧ W.cell? ⟨ke, 0, none⟩ = some (.int .i64 a) ∧ W.cell? ⟨ke, 1, none⟩ = some (.int .i64 b) := by
  obtain ⟨ownx, -, -, -, h1, h2, -⟩ := h
  refine ⟨?_, ?_, ?_, ?_⟩
  · rw [cell_of_row W kp _ _ 64 (0, 0) h1]; rfl
  · rw [cell_of_row W kp _ _ 64 (0, 0) h1]; rfl
  · rw [cell_of_row W ke _ _ 32 (0, 0) h2]; rfl
  · rw [cell_of_row W ke _ _ 32 (0, 0) h2]; rfl
theorem Ad.later (h : Ad w own gw G n i L kp ke go a b W M C D X) (hb : Below W.heap.size W W') : Ad w own gw G n i L kp ke go a b W' M C D X := by
  obtain ⟨ownx, h1, h2, ⟨⟨l1, l2, l3⟩, h4⟩, h5, h6, h7⟩ := h
  exact ⟨_, h1.later hb, h2.trans (K0.later hb), ⟨⟨by rw [ext_old (lt_of_block h5)]; exact l1, by rw [ext_old (lt_of_block h6)]; exact l2, by rw [ext_old (lt_of_block h7)]; exact l3⟩, h4⟩, (hb.block kp (lt_of_block h5)).trans h5, (hb.block ke (lt_of_block h6)).trans h6, (hb.block go (lt_of_block h7)).trans h7⟩
theorem Ad.call (h : Ad w own gw G n i L kp ke go a b W M C D X) (hc : ∀ ownx, Bw W gw M ownx G n C D L → ownx go = 0 → (∀ k, k < w.heap.size → own k = 0 → ownx k = 0) → ∃ own', Bw W' gw M' own' G n C' D' L ∧ K0 ownx W own' W') : Ad w own gw G n i L kp ke go a b W' M' C' D' X := by
  obtain ⟨ownx, h1, h2, ⟨⟨l1, l2, l3⟩, h4⟩, h5, h6, h7⟩ := h
  obtain ⟨own', b1, b2⟩ := hc ownx h1 l3 h2.2
  exact ⟨own', b1, h2.trans b2, ⟨⟨b2.2 kp (lt_of_block h5) l1, b2.2 ke (lt_of_block h6) l2, b2.2 go (lt_of_block h7) l3⟩, h4⟩, b2.1.at h5 (fun e => e l1), b2.1.at h6 (fun e => e l2), b2.1.at h7 (fun e => e l3)⟩
theorem Ad.fz {v : Value} {vals : List Int} (h : Ad w own gw G n i L kp ke go a b W M C D X) (hv : Fz w v vals) (hv0 : 0 < vals.length → ∀ k, v.ownBlock = some k → own k = 0) : Fz W v vals := by
  obtain ⟨ownx, h1, h2, -⟩ := h
  exact hv.frame h2.1 (fun h0 k e e' => e' (hv0 h0 k e))
theorem Ad.at (h : Ad w own gw G n i L kp ke go a b W M C D X) (j : Nat) (hj : j < X.length) : W.cell? ⟨go, j, none⟩ = some (.int .i64 X[j]) ∧ W.frozen? ⟨go, j, none⟩ = false := by
  obtain ⟨ownx, -, -, -, -, -, h7⟩ := h
  refine ⟨?_, frozen_of_row W go _ _ 2 h7⟩
  rw [cell_of_row W go _ _ 2 (0, 0) h7]
  simp [zc, hj]
theorem Ad.set (h : Ad w own gw G n i L kp ke go a b W M C D X) (j : Nat) (x : Int) : Ad w own gw G n i L kp ke go a b (W.setCell ⟨go, j, none⟩ (.int .i64 x)) M C D (X.set j x) := by
  obtain ⟨ownx, h1, h2, ⟨⟨l1, l2, l3⟩, h3, h4⟩, h5, h6, h7⟩ := h
  have hm : Mv W (W.setCell ⟨go, j, none⟩ (.int .i64 x)) (fun k => k = go) := Mv.set (S := fun k => k = go) (Mv.refl _ _) rfl _ _
  refine ⟨_, h1.free (hm.mono (fun k _ e => e ▸ l3)), ⟨h2.1.trans hm (fun q hq e => by omega), fun q hq e => ?_⟩, ⟨⟨by rw [ext_old (lt_of_block h5)]; exact l1, by rw [ext_old (lt_of_block h6)]; exact l2, by rw [ext_old (lt_of_block h7)]; exact l3⟩, h3, h4⟩, hm.at h5 (fun e => h4.1 e.symm), hm.at h6 (fun e => h4.2 e.symm), ?_⟩
  · rw [ext_old (Nat.lt_of_lt_of_le hq h2.1.size)]
    exact h2.2 q hq e
  · rw [heap_setCell_same W go j _ 2 _ h7]
    simp [← zc_set]
/-- The beginning of o, as numbers. -/
theorem Ad.iz (h : Ad w own gw G n i L kp ke go a b W M C D X) (m c : Nat) (hm : m ≤ X.length) (hc : m ≤ c) (hc2 : c ≤ maxLen) : Iz W (.slice (some ⟨go, 0, none⟩) m c) (X.take m) := by
  have e : (X.take m).length = m := by rw [List.length_take]; omega
  refine ⟨some ⟨go, 0, none⟩, c, by rw [e], by omega, hc2, fun j hj => ⟨go, 0, rfl, ?_⟩⟩
  rw [Nat.zero_add, (h.at j (by omega)).1, List.getElem_take]
/-- Add of the program's table. -/
theorem Ad.add (h : Ad w own gw G n i L kp ke go a b W M C D X) (hi : i < n) (a' b' : Int) (hb : InB (a', b')) (m c : Nat) (hm : m ≤ X.length) (hc : m ≤ c) (hc2 : c ≤ maxLen) (hM : M ≤ 1000000) :
    Calls Try.prog 12 #[.pointer (some ⟨(G i).1, 0, none⟩), .agg #[.int .i64 a', .int .i64 b'], .slice (some ⟨go, 0, none⟩) m c] W fun e w' => ∃ r x st, addS (C i) (a', b') (X.take m) = (r, x, st) ∧ e = .returned (.tuple #[.int .i64 r, .int .i64 x]) ∧ Ad w own gw G n i L kp ke go a b w' (M + 1) (upd C i st) D X := by
  have hz := h.iz m c hm hc hc2
  have hlt : go < W.heap.size := by
    obtain ⟨ownx, -, -, -, -, -, h7⟩ := h
    exact lt_of_block h7
  have h' := h
  obtain ⟨ownx, h1, h2, ⟨⟨l1, l2, l3⟩, h4⟩, h5, h6, h7⟩ := h
  refine (add_code h1 hi a' b' _ (X.take m) hz (fun k e => ?_) hb hM).mono ?_
  · simp only [Value.ownBlock, Option.some.injEq] at e
    subst e
    exact ⟨l3, hlt⟩
  · rintro e w' ⟨rfl, own', b1, b2⟩
    exact ⟨_, _, _, rfl, rfl, own', b1, h2.trans b2, ⟨⟨b2.2 kp (lt_of_block h5) l1, b2.2 ke (lt_of_block h6) l2, b2.2 go (lt_of_block h7) l3⟩, h4⟩, b2.1.at h5 (fun e => e l1), b2.1.at h6 (fun e => e l2), b2.1.at h7 (fun e => e l3)⟩
/-- Add of the document's. -/
theorem Ad.dadd {v : Value} {vals : List Int} (h : Ad w own gw G n i L kp ke go a b W M C D X) (hi : i < n) (a' b' : Int) (hv : Fz W v vals) :
    Calls Try.prog 31 #[.pointer (some ⟨(G i).2, 0, none⟩), .agg #[.int .i64 a', .int .i64 b'], v] W fun e w' => ∃ r x st, addS (D i) (a', b') vals = (r, x, st) ∧ e = .returned (.tuple #[.int .i64 r, .int .i64 x]) ∧ Ad w own gw G n i L kp ke go a b w' M C (upd D i st) X := by
  obtain ⟨ownx, h1, h2, ⟨⟨l1, l2, l3⟩, h4⟩, h5, h6, h7⟩ := h
  refine (add_doc h1 hi a' b' v vals hv).mono ?_
  rintro e w' ⟨rfl, own', b1, b2⟩
  exact ⟨_, _, _, rfl, rfl, own', b1, h2.trans b2, ⟨⟨b2.2 kp (lt_of_block h5) l1, b2.2 ke (lt_of_block h6) l2, b2.2 go (lt_of_block h7) l3⟩, h4⟩, b2.1.at h5 (fun e => e l1), b2.1.at h6 (fun e => e l2), b2.1.at h7 (fun e => e l3)⟩
end
/-- The list o, j of whose last eight numbers are -77. -/
def Xa (vals : List Int) (j : Nat) : List Int := vals ++ (List.replicate j (-77) ++ List.replicate (8 - j) 0)
theorem Xa_len (vals : List Int) (j : Nat) (h : j ≤ 8) : (Xa vals j).length = vals.length + 8 := by simp [Xa]; omega
theorem Xa_set (vals : List Int) (j : Nat) (h : j < 8) : (Xa vals j).set (vals.length + j) (-77) = Xa vals (j + 1) := by
  unfold Xa
  rw [List.set_append_right _ _ (by omega), Nat.add_sub_cancel_left, List.set_append_right _ _ (by simp), List.length_replicate, Nat.sub_self, show 8 - j = (8 - (j + 1)) + 1 by omega, List.replicate_succ, List.set_cons_zero, List.replicate_succ' (n := j), List.append_assoc]
  rfl
theorem Xa_take (vals : List Int) (j : Nat) : (Xa vals j).take vals.length = vals := by simp [Xa]
/-- The list o, written over up to k. -/
def Xb (vals : List Int) (k : Nat) : List Int := List.replicate k 88 ++ (Xa vals 8).drop k
theorem Xb_len (vals : List Int) (k : Nat) (h : k ≤ vals.length + 8) : (Xb vals k).length = vals.length + 8 := by
  have := Xa_len vals 8 (Nat.le_refl _)
  simp [Xb, this]; omega
theorem Xb_zero (vals : List Int) : Xb vals 0 = Xa vals 8 := by simp [Xb]
theorem Xb_set (vals : List Int) (k : Nat) (h : k < vals.length + 8) : (Xb vals k).set k 88 = Xb vals (k + 1) := by
  have := Xa_len vals 8 (Nat.le_refl _)
  exact rep_set 88 (Xa vals 8) k (by omega)
theorem Xb_at (vals : List Int) (k : Nat) (h : k < vals.length + 8) : (Xb vals k)[k]'(by rw [Xb_len vals k (by omega)]; exact h) = if h : k < vals.length then vals[k] else -77 := by
  have hl := Xa_len vals 8 (Nat.le_refl _)
  have e1 : (Xb vals k)[k]'(by rw [Xb_len vals k (by omega)]; exact h) = (Xa vals 8)[k]'(by omega) := by
    unfold Xb
    rw [List.getElem_append_right (by simp)]
    simp
  rw [e1]
  unfold Xa
  by_cases hk : k < vals.length
  · rw [dif_pos hk, List.getElem_append_left hk]
  · rw [dif_neg hk, List.getElem_append_right (by omega), List.getElem_append_left (by simp only [List.length_replicate]; omega), List.getElem_replicate]
theorem Xb_end (vals : List Int) : Xb vals (vals.length + 8) = List.replicate (vals.length + 8) 88 := by
  have := Xa_len vals 8 (Nat.le_refl _)
  unfold Xb
  rw [List.drop_eq_nil_of_le (by omega), List.append_nil]
end Go.Proofs.Ytlnjphfkinajdaa
