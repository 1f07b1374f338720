/-
  DiceRolls: one roll: what it stands on.
-/
import Derived.Test.YtihlhidpiehehaaBook
namespace Go.Proofs.Ytihlhidpiehehaa
open Go.RowKit
set_option maxRecDepth 100000
def ordR (n s : Int) : List Int := if 1 ≤ n ∧ n ≤ 1000 then ordL n.toNat s else []
def ordT (n s : Int) : Int := if 1 ≤ n ∧ n ≤ 1000 then ordS n.toNat s else s
theorem ordR_len (n s : Int) : (ordR n s).length ≤ 1000 := by
  unfold ordR
  split
  · rw [ordL_len _ _ (by omega)]; omega
  · simp
theorem shuffle_tr {w : World} {g : Nat} {s : Int} (h : Dz w g s) (n : Int) : Calls Try.prog 18 #[.pointer (some ⟨g, 0, none⟩), .int .i64 n] w fun e w' => ∃ v, e = .returned v ∧ Tr w' v (ordR n s) ∧ (∀ k, v.ownBlock = some k → w.heap.size ≤ k) ∧ Dz w' g (ordT n s) ∧ Mv w w' (fun k => k = g) := by
  by_cases hn : 1 ≤ n ∧ n ≤ 1000
  · obtain ⟨k, rfl⟩ : ∃ k : Nat, n = (k : Int) := ⟨n.toNat, by omega⟩
    have e1 : ordR (k : Int) s = ordL k s := by unfold ordR; rw [if_pos hn]; rfl
    have e2 : ordT (k : Int) s = ordS k s := by unfold ordT; rw [if_pos hn]; rfl
    rw [e1, e2]
    refine (shuffle_any h k (by omega) (by omega)).mono ?_
    rintro e w' ⟨rfl, h2, h3, h4⟩
    have hl := ordL_len k s (by omega)
    exact ⟨_, rfl, .inr ⟨w.heap.size, by rw [hl], by omega, h2⟩, fun k' e => by simp [Value.ownBlock] at e; omega, h3, h4⟩
  · have e1 : ordR n s = [] := if_neg hn
    have e2 : ordT n s = s := if_neg hn
    rw [e1, e2]
    refine (shuffle_bad n (by omega)).mono ?_
    rintro e w' ⟨rfl, rfl⟩
    exact ⟨_, rfl, .inl ⟨rfl, rfl⟩, fun k' e => by simp [Value.ownBlock] at e, h, Mv.refl _ _⟩
theorem dshuffle_tr {w : World} {g : Nat} {s : Int} (h : Rz w g s) (n : Int) : Calls Try.prog 22 #[.pointer (some ⟨g, 0, none⟩), .int .i64 n] w fun e w' => ∃ v, e = .returned v ∧ Tr w' v (ordR n s) ∧ (∀ k, v.ownBlock = some k → w.heap.size ≤ k) ∧ Rz w' g (ordT n s) ∧ Mv w w' (fun k => k = g) := by
  by_cases hn : 1 ≤ n ∧ n ≤ 1000
  · obtain ⟨k, rfl⟩ : ∃ k : Nat, n = (k : Int) := ⟨n.toNat, by omega⟩
    have e1 : ordR (k : Int) s = ordL k s := by unfold ordR; rw [if_pos hn]; rfl
    have e2 : ordT (k : Int) s = ordS k s := by unfold ordT; rw [if_pos hn]; rfl
    rw [e1, e2]
    refine (dshuffle_any h k (by omega) (by omega)).mono ?_
    rintro e w' ⟨rfl, h2, h3, h4⟩
    have hl := ordL_len k s (by omega)
    exact ⟨_, rfl, .inr ⟨w.heap.size, by rw [hl], by omega, h2⟩, fun k' e => by simp [Value.ownBlock] at e; omega, h3, h4⟩
  · have e1 : ordR n s = [] := if_neg hn
    have e2 : ordT n s = s := if_neg hn
    rw [e1, e2]
    refine (dshuffle_bad n (by omega)).mono ?_
    rintro e w' ⟨rfl, rfl⟩
    exact ⟨_, rfl, .inl ⟨rfl, rfl⟩, fun k' e => by simp [Value.ownBlock] at e, h, Mv.refl _ _⟩
/-- Two orders that are the same come into the book's care. -/
theorem Bk.care {w : World} {B : Nat} {own : Nat → Nat} {kb : Nat} {vl vw : Value} {ls ms : List Value} {ρ : Nat → List Int} (h : Bk w B own kb vl vw ls ms ρ) {u u2 : Value} {R : List Int} (hu : Tr w u R) (hu2 : Tr w u2 R) (h0 : ∀ k, u.ownBlock = some k → own k = 0 ∧ B ≤ k) (h02 : ∀ k, u2.ownBlock = some k → own k = 0 ∧ B ≤ k) (hne : ∀ k, u.ownBlock = some k → u2.ownBlock = some k → False) :
    ∃ own', Bk w B own' kb vl vw ls ms ρ ∧ (∀ k, u.ownBlock = some k → own' k = 10 + ls.length) ∧ (∀ k, u2.ownBlock = some k → own' k = 4) ∧ ∀ k, ¬ u.ownBlock = some k → ¬ u2.ownBlock = some k → own' k = own k := by
  obtain ⟨h1, h2, h3, h4, h5, h6, h7⟩ := h
  have hk : ∀ k, own k ≠ 0 → (if u.ownBlock = some k then 10 + ls.length else if u2.ownBlock = some k then 4 else own k) = own k := fun k e => by
    rw [if_neg (fun e' => e (h0 k e').1), if_neg (fun e' => e (h02 k e').1)]
  refine ⟨fun k => if u.ownBlock = some k then 10 + ls.length else if u2.ownBlock = some k then 4 else own k, ⟨h1, h2.relab (fun k _ e => hk k ?_), h3.relab (fun k _ e => hk k ?_), h4, ?_, fun k e => ?_, h7⟩, fun k e => if_pos e, fun k e => ?_, fun k n1 n2 => by dsimp only; rw [if_neg n1, if_neg n2]⟩
  · rcases e with e | ⟨i, _, e⟩ <;> omega
  · rcases e with e | ⟨i, _, e⟩ <;> omega
  · dsimp only; rw [hk kb (by omega)]; exact h5
  · dsimp only at e
    by_cases c : u.ownBlock = some k
    · exact ⟨(h0 k c).2, hu.lt k c⟩
    · rw [if_neg c] at e
      by_cases c2 : u2.ownBlock = some k
      · exact ⟨(h02 k c2).2, hu2.lt k c2⟩
      · rw [if_neg c2] at e
        exact h6 k e
  · dsimp only
    rw [if_neg (fun e' => hne k e' e), if_pos e]
/-- The book, with one order more in its first list alone. -/
def Bm (w : World) (B : Nat) (own : Nat → Nat) (kb : Nat) (vl vw : Value) (ls ms : List Value) (ρ : Nat → List Int) (u2 : Value) (R : List Int) : Prop :=
  w.heap[kb]? = some (.cells #[vl, vw] 36 (0, 0)) ∧ Hf w own vl ls ρ 2 (fun i => 10 + i) ∧ Hf w own vw ms ρ 3 (fun _ => 4) ∧ ls.length = ms.length + 1 ∧ own kb = 1 ∧ (∀ k, own k ≠ 0 → B ≤ k ∧ k < w.heap.size) ∧ ls.length ≤ 40 ∧ (∀ i, (ρ i).length ≤ 1000) ∧ Tr w u2 R ∧ (∀ k, u2.ownBlock = some k → own k = 4) ∧ ρ ms.length = R
section
variable {w w' : World} {B : Nat} {own : Nat → Nat} {kb : Nat} {vl vw vl' : Value} {ls ms : List Value} {ρ : Nat → List Int} {u u2 : Value} {R : List Int}
theorem mv_grown {row : Option Nat} (hg : w.grownBy w' row) : Mv w w' (fun k => row = some k) := ⟨hg.1, hg.2, hg.3, hg.size, fun k hk e => hg.block k hk (fun e' => e e'.symm)⟩
theorem Bk.add1 (h : Bk w B own kb vl vw ls ms ρ) (hB : B ≤ w.heap.size) (hu : Tr w u R) (hul : ∀ k, u.ownBlock = some k → own k = 10 + ls.length) (hu2 : Tr w u2 R) (hul2 : ∀ k, u2.ownBlock = some k → own k = 4) (hR : R.length ≤ 1000) (h40 : ls.length < 40)
    (ho : w'.ownsRow 0 45 1 vl' (ls.length + 1) (ls ++ [u])) (hg : w.grownBy w' vl.ownBlock) (hv : vl'.ownBlock = vl.ownBlock ∨ vl'.ownBlock = some w.heap.size) :
    Bm (w'.setCell ⟨kb, 0, none⟩ vl') B (fun k => if vl'.ownBlock = some k then 2 else own k) kb vl' vw (ls ++ [u]) ms (fun i => if i = ls.length then R else ρ i) u2 R := by
  obtain ⟨h1, h2, h3, h4, h5, h6, h7, h8⟩ := h
  have hm := mv_grown hg
  have hkb : ∀ k, vl.ownBlock = some k → own k = 2 := h2.2.2.1
  have hkn : ¬ vl.ownBlock = some kb := fun e => by have := hkb kb e; omega
  have ha := h2.add ho hg hv hu hul (fun i _ => by omega)
  have k1 := hm.at h1 hkn
  have hms : Mv w' (w'.setCell ⟨kb, 0, none⟩ vl') (fun k => k = kb) := (Mv.refl w' (fun k => k = kb)).set rfl _ _
  have hklt := lt_of_block h1
  have off : ∀ k, k < w.heap.size → own k ≠ 2 → ¬ vl'.ownBlock = some k := fun k hk hn e => by
    rcases hv with hv | hv
    · rw [hv] at e
      exact hn (hkb k e)
    · rw [hv] at e
      simp only [Option.some.injEq] at e
      omega
  have own0 : ∀ k, w.heap.size ≤ k → own k = 0 := fun k hk => by
    by_cases c : own k = 0
    · exact c
    · have := h6 k c; omega
  have hmm : Mv w (w'.setCell ⟨kb, 0, none⟩ vl') (fun k => vl.ownBlock = some k ∨ k = kb) := (hm.mono (fun _ _ e => .inl e)).trans hms (fun k _ e => .inr e)
  refine ⟨?_, ?_, ?_, by simp; omega, ?_, fun k e => ?_, by simp; omega, fun i => ?_, ?_, fun k e => ?_, if_pos h4⟩
  · have := heap_setCell_same w' kb 0 _ 36 vl' k1
    rw [this]
    rfl
  · refine ha.frame hms (fun k e => ?_)
    subst e
    rw [if_neg (off _ hklt (by omega)), h5]
    exact ⟨by omega, fun i _ => by omega⟩
  · have t1 : Hf w (fun k => if vl'.ownBlock = some k then 2 else own k) vw ms (fun i => if i = ls.length then R else ρ i) 3 (fun _ => 4) := by
      have t0 := h3.relab (own' := fun k => if vl'.ownBlock = some k then 2 else own k) (fun k hk e => if_neg (off k hk (by rcases e with e | ⟨i, _, e⟩ <;> omega)))
      exact ⟨t0.1, fun i hi => by dsimp only; rw [if_neg (by omega)]; exact t0.2.1 i hi, t0.2.2⟩
    refine t1.frame hmm (fun k e => ?_)
    rcases e with e | rfl
    · have : (if vl'.ownBlock = some k then 2 else own k) = 2 := by
        split
        · rfl
        · exact hkb k e
      rw [this]
      exact ⟨by omega, fun i _ => by omega⟩
    · rw [if_neg (off _ hklt (by omega)), h5]
      exact ⟨by omega, fun i _ => by omega⟩
  · dsimp only; rw [if_neg (off _ hklt (by omega))]; exact h5
  · have hsz : (w'.setCell ⟨kb, 0, none⟩ vl').heap.size = w'.heap.size := by simp
    rw [hsz]
    by_cases c : vl'.ownBlock = some k
    · refine ⟨?_, (ho.lt k c).2⟩
      rcases hv with hv | hv
      · rw [hv] at c
        exact (h6 k (by rw [hkb k c]; omega)).1
      · rw [hv] at c
        simp only [Option.some.injEq] at c
        omega
    · dsimp only at e
      rw [if_neg c] at e
      exact ⟨(h6 k e).1, Nat.lt_of_lt_of_le (h6 k e).2 hg.size⟩
  · dsimp only
    split
    · exact hR
    · exact h8 i
  · refine hu2.frame hmm (fun k e e' => ?_)
    have h9 := hul2 k e
    rcases e' with e' | rfl
    · have := hkb k e'; omega
    · omega
  · dsimp only
    rw [if_neg (off k (hu2.lt k e) (by have := hul2 k e; omega))]
    exact hul2 k e
theorem Bm.later (h : Bm w B own kb vl vw ls ms ρ u2 R) (hb : Below w.heap.size w w') : Bm w' B own kb vl vw ls ms ρ u2 R := by
  obtain ⟨h1, h2, h3, h4, h5, h6, h7, h8, h9, h10, h11⟩ := h
  have hm := Mv.of_below hb (fun _ => False)
  exact ⟨hm.at h1 (fun e => e), h2.frame hm (fun _ e => e.elim), h3.frame hm (fun _ e => e.elim), h4, h5, fun k e => ⟨(h6 k e).1, Nat.lt_of_lt_of_le (h6 k e).2 hb.size⟩, h7, h8, h9.later hb, h10, h11⟩
theorem Bm.cells (h : Bm w B own kb vl vw ls ms ρ u2 R) : w.cell? ⟨kb, 0, none⟩ = some vl ∧ w.cell? ⟨kb, 1, none⟩ = some vw := by
  refine ⟨?_, ?_⟩ <;> rw [cell_of_row w kb _ _ 36 (0, 0) h.1] <;> rfl
theorem Bk.last (h : Bk w B own kb vl vw (ls ++ [u]) (ms ++ [u2]) ρ) (hl : ms.length = ls.length) : Tr w u (ρ ls.length) ∧ Tr w u2 (ρ ls.length) := by
  have h1 := h.2.1.2.1 ls.length (by simp)
  have h2 := h.2.2.1.2.1 ms.length (by simp)
  rw [List.getElem_append_right (Nat.le_refl _)] at h1 h2
  have h3 : Tr w u2 (ρ ms.length) := by simpa using h2
  rw [hl] at h3
  exact ⟨by simpa using h1, h3⟩
theorem Bm.add2 (h : Bm w B own kb vl vw ls ms ρ u2 R) (hB : B ≤ w.heap.size) (ho : w'.ownsRow 0 45 1 vl' (ms.length + 1) (ms ++ [u2])) (hg : w.grownBy w' vw.ownBlock) (hv : vl'.ownBlock = vw.ownBlock ∨ vl'.ownBlock = some w.heap.size) :
    Bk (w'.setCell ⟨kb, 1, none⟩ vl') B (fun k => if vl'.ownBlock = some k then 3 else own k) kb vl vl' ls (ms ++ [u2]) ρ := by
  obtain ⟨h1, h2, h3, h4, h5, h6, h7, h8, h9, h10, h11⟩ := h
  have hm := mv_grown hg
  have hkb : ∀ k, vw.ownBlock = some k → own k = 3 := h3.2.2.1
  have hkn : ¬ vw.ownBlock = some kb := fun e => by have := hkb kb e; omega
  have ha := h3.add ho hg hv h9 h10 (fun i _ => by omega)
  have k1 := hm.at h1 hkn
  have hms : Mv w' (w'.setCell ⟨kb, 1, none⟩ vl') (fun k => k = kb) := (Mv.refl w' (fun k => k = kb)).set rfl _ _
  have hklt := lt_of_block h1
  have off : ∀ k, k < w.heap.size → own k ≠ 3 → ¬ vl'.ownBlock = some k := fun k hk hn e => by
    rcases hv with hv | hv
    · rw [hv] at e
      exact hn (hkb k e)
    · rw [hv] at e
      simp only [Option.some.injEq] at e
      omega
  have hmm : Mv w (w'.setCell ⟨kb, 1, none⟩ vl') (fun k => vw.ownBlock = some k ∨ k = kb) := (hm.mono (fun _ _ e => .inl e)).trans hms (fun k _ e => .inr e)
  have hρ : (fun i => if i = ms.length then R else ρ i) = ρ := by
    funext i
    by_cases c : i = ms.length
    · rw [if_pos c, c, h11]
    · rw [if_neg c]
  rw [hρ] at ha
  refine ⟨?_, ?_, ?_, by simp; omega, ?_, fun k e => ?_, h7, h8⟩
  · have := heap_setCell_same w' kb 1 _ 36 vl' k1
    rw [this]
    rfl
  · refine (h2.relab (own' := fun k => if vl'.ownBlock = some k then 3 else own k) (fun k hk e => if_neg (off k hk (by rcases e with e | ⟨i, _, e⟩ <;> omega)))).frame hmm (fun k e => ?_)
    rcases e with e | rfl
    · have : (if vl'.ownBlock = some k then 3 else own k) = 3 := by
        split
        · rfl
        · exact hkb k e
      rw [this]
      exact ⟨by omega, fun i _ => by omega⟩
    · rw [if_neg (off _ hklt (by omega)), h5]
      exact ⟨by omega, fun i _ => by omega⟩
  · refine ha.frame hms (fun k e => ?_)
    subst e
    rw [if_neg (off _ hklt (by omega)), h5]
    exact ⟨by omega, fun i _ => by omega⟩
  · dsimp only; rw [if_neg (off _ hklt (by omega))]; exact h5
  · have hsz : (w'.setCell ⟨kb, 1, none⟩ vl').heap.size = w'.heap.size := by simp
    rw [hsz]
    by_cases c : vl'.ownBlock = some k
    · refine ⟨?_, (ho.lt k c).2⟩
      rcases hv with hv | hv
      · rw [hv] at c
        exact (h6 k (by rw [hkb k c]; omega)).1
      · rw [hv] at c
        simp only [Option.some.injEq] at c
        omega
    · dsimp only at e
      rw [if_neg c] at e
      exact ⟨(h6 k e).1, Nat.lt_of_lt_of_le (h6 k e).2 hg.size⟩
end
end Go.Proofs.Ytihlhidpiehehaa
