/-
  A4's third form, as the document writes it: each run where it begins. No program in this text.
-/
import Derived.Test.YtoccbeefmagklaaRow
namespace Go.Proofs.Ytoccbeefmagklaa.Rw

theorem runsTo_succ (l : List Int) (k : Nat) : runsTo l (k + 1) = if ends l k then ⟨(runsTo l k).bytes ++ (Lib.uvarint ((runsTo l k).len + 1) ++ ivar (l.getD k 0)), (runsTo l k).count + 1, 0⟩ else ⟨(runsTo l k).bytes, (runsTo l k).count, (runsTo l k).len + 1⟩ := rfl
/-- Within a run nothing is written. -/
theorem runs_mid {l : List Int} {i : Nat} (h0 : (runsTo l i).len = 0) : ∀ m, (∀ j, i ≤ j → j < i + m → ends l j = false) → runsTo l (i + m) = ⟨(runsTo l i).bytes, (runsTo l i).count, m⟩
  | 0, _ => by
    show runsTo l i = _
    rw [← h0]
  | m + 1, h => by
    rw [← Nat.add_assoc, runsTo_succ, h (i + m) (by omega) (by omega), runs_mid h0 m (fun j h1 h2 => h j h1 (by omega))]
    rfl
theorem ends_false {l : List Int} {j : Nat} (h : j + 1 < l.length) (he : l.getD (j + 1) 0 = l.getD j 0) : ends l j = false := by
  unfold ends
  simp only [Bool.or_eq_false_iff, beq_eq_false_iff_ne, bne_eq_false_iff_eq]
  exact ⟨by omega, he.symm⟩
theorem ends_true {l : List Int} {j : Nat} (h : j + 1 = l.length ∨ l.getD j 0 ≠ l.getD (j + 1) 0) : ends l j = true := by
  unfold ends
  rcases h with h | h
  · simp [h]
  · rw [Bool.or_eq_true]; exact .inr (bne_iff_ne.2 h)
/-- A run that begins at i, of m + 1 numbers, whole: what runsTo has behind it. -/
theorem runs_run {l : List Int} {i m : Nat} (h0 : (runsTo l i).len = 0) (hm : i + m < l.length) (hall : ∀ j, j ≤ m → l.getD (i + j) 0 = l.getD i 0)
    (hend : i + m + 1 = l.length ∨ l.getD (i + m + 1) 0 ≠ l.getD i 0) :
    runsTo l (i + (m + 1)) = ⟨(runsTo l i).bytes ++ (Lib.uvarint (m + 1) ++ ivar (l.getD i 0)), (runsTo l i).count + 1, 0⟩ := by
  have h1 := runs_mid h0 m (fun j ha hb => ends_false (by omega) (by
    have e1 := hall (j - i) (by omega)
    have e2 := hall (j + 1 - i) (by omega)
    rw [show i + (j - i) = j by omega] at e1
    rw [show i + (j + 1 - i) = j + 1 by omega] at e2
    rw [e1, e2]))
  have h2 : ends l (i + m) = true := ends_true (by
    rcases hend with h | h
    · exact .inl h
    · exact .inr (fun e => h (by rw [← e, hall m (Nat.le_refl _)])))
  rw [← Nat.add_assoc, runsTo_succ, h2, h1, hall m (Nat.le_refl _)]
  rfl
/-- The document's loop at place i: e is where the run that i lies in ends (i itself, where a run begins). -/
def Begun (l : List Int) (i e : Nat) : Prop :=
  i ≤ e ∧ e ≤ l.length ∧ (runsTo l e).len = 0 ∧ (i < e → 0 < i ∧ ∀ j, i ≤ j → j < e → l.getD j 0 = l.getD (i - 1) 0) ∧ (e < l.length → 0 < e → l.getD e 0 ≠ l.getD (e - 1) 0)
theorem Begun.start (l : List Int) : Begun l 0 0 := ⟨Nat.le_refl _, Nat.zero_le _, rfl, fun h => by omega, fun _ h => by omega⟩
/-- Inside a run. -/
theorem Begun.mid {l : List Int} {i e : Nat} (h : Begun l i e) (hi : i < e) : 0 < i ∧ l.getD (i - 1) 0 = l.getD i 0 ∧ Begun l (i + 1) e := by
  obtain ⟨h1, h2, h3, h4, h5⟩ := h
  obtain ⟨h6, h7⟩ := h4 hi
  have e0 := h7 i (Nat.le_refl _) hi
  refine ⟨h6, e0.symm, by omega, h2, h3, fun hlt => ⟨by omega, fun j ha hb => ?_⟩, h5⟩
  rw [Nat.add_sub_cancel, h7 j (by omega) hb, e0]
/-- A run begins, of m + 1 numbers. -/
theorem Begun.next {l : List Int} {i m : Nat} (h : Begun l i i) (hm : i + m < l.length) (hall : ∀ j, j ≤ m → l.getD (i + j) 0 = l.getD i 0)
    (hend : i + m + 1 = l.length ∨ l.getD (i + m + 1) 0 ≠ l.getD i 0) : Begun l (i + 1) (i + (m + 1)) := by
  have hr := runs_run h.2.2.1 hm hall hend
  refine ⟨by omega, by omega, by rw [hr], fun hlt => ⟨by omega, fun j ha hb => ?_⟩, fun hlt _ => ?_⟩
  · have := hall (j - i) (by omega)
    rw [show i + (j - i) = j by omega] at this
    rw [Nat.add_sub_cancel, this]
  · rcases hend with hx | hx
    · omega
    · rw [show i + (m + 1) - 1 = i + m by omega, hall m (Nat.le_refl _), ← Nat.add_assoc]
      exact hx
theorem Begun.fresh {l : List Int} {i : Nat} (h : Begun l i i) (hi : i < l.length) : i = 0 ∨ l.getD (i - 1) 0 ≠ l.getD i 0 := by
  rcases Nat.eq_zero_or_pos i with h0 | h0
  · exact .inl h0
  · exact .inr (fun e => h.2.2.2.2 hi h0 e.symm)
theorem Begun.over {l : List Int} {e : Nat} (h : Begun l l.length e) : e = l.length := by have h1 := h.1; have h2 := h.2.1; omega
end Go.Proofs.Ytoccbeefmagklaa.Rw
