/-
  'append' of a list of lists onto one of the call's own; a list of lists copied.
-/
import Derived.Test.YtkohlhnkaklnpaaSets
import Derived.Laws.AppendOwnNone
import Derived.Maps.AppendAt
namespace Go.Proofs.Ytkohlhnkaklnpaa
open Go.RowKit
theorem run_append_ll {w : World} (base B2 : Nat) (ty : TypeId) (v : Value) (n : Nat) (xs : List Value) (hown : w.ownsRow base 22 1 v n xs) (vb : Value) (m : Nat) (us : List Value) (hu : w.ownsRow B2 22 1 vb m us) (hone : ∀ u ∈ us, u.oneCell' = true) (hlim : n + m ≤ 1000000000000) (hbase : base ≤ w.heap.size) :
    ∃ v' w', (Builtin.append_ #[34, 34] ty #[v, vb]).run Try.prog w = .ok v' w' ∧ w'.ownsRow base 22 1 v' (n + m) (xs ++ us) ∧ w.grownBy w' v.ownBlock ∧ (v'.ownBlock = v.ownBlock ∨ v'.ownBlock = some w.heap.size) := by
  obtain ⟨i0, hi, hz0, hz1, hz2⟩ := info_parts info22
  have hul : us.length = m := by have := hu.1; omega
  rcases id hu.2 with ⟨rfl, rfl⟩ | ⟨g, c, cur, rfl, _⟩
  · obtain rfl : us = [] := List.eq_nil_of_length_eq_zero hul
    refine ⟨v, w, run_append_owned_none w base 34 ty 22 i0 1 Try.underlying34 hi v n xs hown, ?_, ⟨rfl, rfl, rfl, Nat.le_refl _, fun _ _ _ => rfl⟩, .inl rfl⟩
    simpa using hown
  · obtain ⟨v', w', hr, q2, q3, _, q5⟩ := run_append_own_at (P := Try.prog) w base 34 ty 22 i0 (.slice none 0 0) 1 24 Try.underlying34 hi hz0 hz1 hz2 rfl (by decide) v n xs hown ⟨g, 0, none⟩ m c us (by omega) (fun j u hj => hu.cells (g := g) rfl j u hj) hone (by unfold maxLen; omega) (by omega) hbase
    exact ⟨v', w', hr, q2, q3, q5⟩
theorem wpList_append_ll (w : World) {ops : Array Oper} {rest : List Oper} {o : Oper} {a : Act} {Q : Exit → Act → World → Prop} (hgd : o.guard = none) (s x : Operand)
    (ho : o.op = .call { callee := .builtin .append, args := #[s, x], argTypes := #[34, 34] })
    (base B2 : Nat) (v : Value) (n : Nat) (xs : List Value) (hs : a.eval s = v) (hown : w.ownsRow base 22 1 v n xs)
    (vb : Value) (m : Nat) (us : List Value) (hx : a.eval x = vb) (hu : w.ownsRow B2 22 1 vb m us) (hone : ∀ u ∈ us, u.oneCell' = true) (hlim : n + m ≤ 1000000000000) (hbase : base ≤ w.heap.size)
    (h : ∀ v' w', w'.ownsRow base 22 1 v' (n + m) (xs ++ us) → w.grownBy w' v.ownBlock → (v'.ownBlock = v.ownBlock ∨ v'.ownBlock = some w.heap.size) → wpList Try.prog ops Q rest (a.put o.dst v') w') : wpList Try.prog ops Q (o :: rest) a w :=
  wpList_plain hgd fun _ hK => by
    obtain ⟨v', w', hr, h2, h3, h4⟩ := run_append_ll (w := w) base B2 o.type v n xs hown vb m us hu hone hlim hbase
    unfold Oper.wp execOp
    simp only [ho, resolve, invoke, builtin, Sem.run_bind, Sem.run_pure, Result.andThen_ok, List.map_toArray, List.map_cons, List.map_nil, hs, hx, hr]
    exact hK _ _ (h v' w' h2 h3 h4)
/-- A slice takes one cell. -/
theorem pieces_one {w : World} {B : Nat} {vs : List Value} {ds : List (List UInt8)} (h : Pieces w B vs ds) : ∀ u ∈ vs, u.oneCell' = true := by
  intro u hu
  obtain ⟨i, hi, rfl⟩ := List.getElem_of_mem hu
  obtain ⟨a, b, c, e⟩ := (h.2.1 i hi (by rw [← h.1]; exact hi)).1.shape
  rw [e]
  rfl
/-- A copy of a list of lists: the row is new, what it holds is the same. -/
theorem own_empty (w : World) : (w.alloc (.cells #[] 22)).ownsRow w.heap.size 22 1 (.slice (some ⟨w.heap.size, 0, none⟩) 0 0) 0 [] :=
  ⟨rfl, .inr ⟨w.heap.size, 0, #[], rfl, Nat.le_refl _, heap_alloc_new w _, Nat.le_refl _, Nat.zero_le _, rfl, rfl⟩⟩
end Go.Proofs.Ytkohlhnkaklnpaa
