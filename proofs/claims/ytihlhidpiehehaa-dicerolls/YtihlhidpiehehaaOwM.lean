/-
  DiceRolls: owned: what it stands on.
-/
import Derived.Test.YtihlhidpiehehaaBook
namespace Go.Proofs.Ytihlhidpiehehaa
open Go.RowKit
set_option maxRecDepth 100000
section
variable {w w' : World}
/-- append onto a row without room: all that was there stays. -/
theorem run_append_tight {v : Value} {R : List Int} (h : Tr w v R) (hR : R.length ≤ 1000000) (x : Int) (a : Addr) (hx : w.cell? a = some (.int .i64 x)) (ty : TypeId) :
    ∃ v' w', (Builtin.append_ #[45, 45] ty #[v, .slice (some a) 1 1]).run Try.prog w = .ok v' w' ∧ w'.ownsRow w.heap.size 3 1 v' (R.length + 1) (zc (R ++ [x])) ∧ Below w.heap.size w w' := by
  obtain ⟨i0, hi, hz0, hz1, hz2⟩ := info_parts info3
  have hnews : ∀ j u, [Value.int .i64 x][j]? = some u → w.cell? (a.add j) = some u := by
    intro j u hj
    match j, hj with
    | 0, hj =>
      simp at hj
      subst hj
      simpa [Addr.add] using hx
  rcases h with ⟨rfl, rfl⟩ | ⟨g, rfl, h0, hI⟩
  · obtain ⟨v', w', hr, h2, h3, -, -⟩ := run_append_own_at (P := Try.prog) w w.heap.size 45 ty 3 i0 (.int .i64 0) 1 8 Try.underlying45 hi hz0 hz1 hz2 rfl (by decide) (.slice none 0 0) 0 [] (World.ownsRow_nil w _ _ _) a 1 1 [.int .i64 x] rfl hnews (by intro u hu; simp at hu; subst hu; rfl) (by unfold maxLen; omega) (by omega) (Nat.le_refl _)
    exact ⟨v', w', hr, by simpa [zc] using h2, ⟨h3.1, h3.2, h3.3, h3.size, fun k hk => h3.block k hk (by simp [Value.ownBlock])⟩⟩
  · have hown := hI.owns (B := 0) (Nat.zero_le _) hR
    have hr := run_append_grow (P := Try.prog) w 45 ty 3 i0 (.int .i64 0) Try.underlying45 hi hz0 ⟨g, 0, none⟩ R.length R.length (zc R) (by rw [zc_len, hz1, Nat.mul_one]) (hown.cells (g := g) rfl) a 1 1 [.int .i64 x] (by rw [hz1]; rfl) hnews (by omega) (by omega) (by rw [hz2]; exact growslice_fits (by omega) (by omega))
    have hge := grownCap_ge w (R.length + 1) R.length 3
    have hcm : grownCap w (R.length + 1) R.length 3 ≤ maxLen := grownCap_le_maxLen w (R.length + 1) R.length 3 (by unfold maxLen; omega)
    refine ⟨_, _, hr, ⟨by simp [zc], .inr ⟨w.heap.size, _, _, rfl, Nat.le_refl _, heap_alloc_new w.drew _, hge, hcm, ?_, ?_⟩⟩, (below_drew w).trans ((below_alloc w.drew _).mono (by simp))⟩
    · simp only [Array.size_append, List.size_toArray, size_zeroCells, zc_len, Nat.mul_one]
      have : (Value.int IntKind.i64 0).cells.size = 1 := rfl
      rw [this]
      simp
      omega
    · simp only [Array.toList_append, Nat.mul_one]
      have e : (zc (R ++ [x])).length = R.length + 1 := by simp [zc]
      rw [← e]
      have : zc (R ++ [x]) = zc R ++ [.int .i64 x] := by simp [zc]
      rw [this]
      exact List.take_left
theorem wpList_append_tight {ops : Array Oper} {rest : List Oper} {o : Oper} {ac : Act} {Q : Exit → Act → World → Prop} (hgd : o.guard = none) (s y : Operand) (ho : o.op = .call { callee := .builtin .append, args := #[s, y], argTypes := #[45, 45] })
    {v : Value} {R : List Int} (h : Tr w v R) (hR : R.length ≤ 1000000) (x : Int) (a : Addr) (hx : w.cell? a = some (.int .i64 x)) (hs : ac.eval s = v) (hy : ac.eval y = .slice (some a) 1 1)
    (hh : ∀ v' w', w'.ownsRow w.heap.size 3 1 v' (R.length + 1) (zc (R ++ [x])) → Below w.heap.size w w' → wpList Try.prog ops Q rest (ac.put o.dst v') w') : wpList Try.prog ops Q (o :: rest) ac w :=
  wpList_plain hgd fun _ hK => by
    obtain ⟨v', w', hr, h2, h3⟩ := run_append_tight h hR x a hx o.type
    unfold Oper.wp execOp
    simp only [ho, resolve, invoke, builtin, Sem.run_bind, Sem.run_pure, Result.andThen_ok, List.map_toArray, List.map_cons, List.map_nil, hs, hy, hr]
    exact hK _ _ (hh v' w' h2 h3)
end
/-- The book's first list alone. -/
def Oq (w : World) (own : Nat → Nat) (kb : Nat) (vl vw : Value) (ls : List Value) (ρ : Nat → List Int) : Prop := w.heap[kb]? = some (.cells #[vl, vw] 36 (0, 0)) ∧ Hf w own vl ls ρ 2 (fun i => 10 + i) ∧ own kb = 1 ∧ ls.length ≤ 40
section
variable {w w' : World} {own : Nat → Nat} {kb : Nat} {vl vw : Value} {ls : List Value} {ρ ρ' : Nat → List Int}
theorem Oq.later (h : Oq w own kb vl vw ls ρ) (hb : Below w.heap.size w w') : Oq w' own kb vl vw ls ρ := by
  have hm := Mv.of_below hb (fun _ => False)
  exact ⟨hm.at h.1 (fun e => e), h.2.1.frame hm (fun _ e => e.elim), h.2.2⟩
theorem Oq.congr (h : Oq w own kb vl vw ls ρ) (e : ∀ i, i < ls.length → ρ i = ρ' i) : Oq w own kb vl vw ls ρ' := by
  obtain ⟨h1, ⟨h2, h3, h4⟩, h5⟩ := h
  exact ⟨h1, ⟨h2, fun i hi => by rw [← e i hi]; exact h3 i hi, h4⟩, h5⟩
theorem Oq.cell (h : Oq w own kb vl vw ls ρ) : w.cell? ⟨kb, 0, none⟩ = some vl := by
  rw [cell_of_row w kb _ _ 36 (0, 0) h.1]
  rfl
/-- A number of an order is written over. -/
theorem Oq.set (h : Oq w own kb vl vw ls ρ) (i j g : Nat) (hi : i < ls.length) (x : Int) (hg : ls[i].ownBlock = some g) (hI : Ir w g (ρ i)) (h0 : 0 < (ρ i).length) (hl : ls[i] = .slice (some ⟨g, 0, none⟩) (ρ i).length (ρ i).length) : Oq (w.setCell ⟨g, j, none⟩ (.int .i64 x)) own kb vl vw ls (fun y => if y = i then (ρ i).set j x else ρ y) := by
  obtain ⟨h1, ⟨h2, h3, h4, h5⟩, h6⟩ := h
  have hm : Mv w (w.setCell ⟨g, j, none⟩ (.int .i64 x)) (fun k => k = g) := (Mv.refl w (fun k => k = g)).set rfl _ _
  have hog : own g = 10 + i := h5 i hi g hg
  refine ⟨hm.at h1 (fun e => by rw [← e, h6.1] at hog; omega), ⟨hm.own h2 (fun k e e' => by have := h4 k e; rw [e'] at this; omega), fun y hy => ?_, h4, h5⟩, h6⟩
  dsimp only
  by_cases c : y = i
  · subst c
    rw [if_pos rfl]
    exact .inr ⟨g, by rw [List.length_set]; exact hl, by rw [List.length_set]; exact h0, hI.set j x⟩
  · rw [if_neg c]
    exact (h3 y hy).frame hm (fun k e e' => by have : own k = 10 + y := h5 y hy k e; rw [e'] at this; omega)
end
def rowA (ρ : Nat → List Int) (i j : Nat) : Nat → List Int := fun x => if x < i then List.replicate (ρ x).length (-1 - (x : Int)) else if x = i then List.replicate j (-1 - (x : Int)) ++ (ρ x).drop j else ρ x
theorem rowA_at (ρ : Nat → List Int) (i j : Nat) (hj : j ≤ (ρ i).length) : rowA ρ i j i = List.replicate j (-1 - (i : Int)) ++ (ρ i).drop j ∧ (rowA ρ i j i).length = (ρ i).length := by
  have e : rowA ρ i j i = List.replicate j (-1 - (i : Int)) ++ (ρ i).drop j := by unfold rowA; rw [if_neg (by omega), if_pos rfl]
  refine ⟨e, ?_⟩
  rw [e]
  simp
  omega
theorem rowA_set (ρ : Nat → List Int) (i j : Nat) (hj : j < (ρ i).length) : ∀ x, (if x = i then (rowA ρ i j i).set j (-1 - (i : Int)) else rowA ρ i j x) = rowA ρ i (j + 1) x := by
  intro x
  by_cases c : x = i
  · subst c
    rw [if_pos rfl, (rowA_at ρ x j (by omega)).1, (rowA_at ρ x (j + 1) (by omega)).1, List.set_append_right _ _ (by simp), List.length_replicate, Nat.sub_self, List.drop_eq_getElem_cons hj, List.set_cons_zero, List.replicate_succ', List.append_assoc]
    rfl
  · rw [if_neg c]
    unfold rowA
    rw [if_neg c, if_neg c]
theorem rowA_next (ρ : Nat → List Int) (i : Nat) : ∀ x, rowA ρ i (ρ i).length x = rowA ρ (i + 1) 0 x := by
  intro x
  unfold rowA
  by_cases c : x < i
  · rw [if_pos c, if_pos (by omega)]
  · rw [if_neg c]
    by_cases c2 : x = i
    · subst c2
      rw [if_pos rfl, if_pos (by omega)]
      simp
    · rw [if_neg c2, if_neg (by omega)]
      split <;> simp
theorem rowA_zero (ρ : Nat → List Int) : ∀ x, rowA ρ 0 0 x = ρ x := by
  intro x
  unfold rowA
  rw [if_neg (by omega)]
  split <;> simp
end Go.Proofs.Ytihlhidpiehehaa
