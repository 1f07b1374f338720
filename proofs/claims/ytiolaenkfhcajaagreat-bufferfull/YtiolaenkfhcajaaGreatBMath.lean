/-
  Buffer: rows of numbers, by their keys.
-/
import Derived.Test.YtiolaenkfhcajaaGreatBTog
namespace Go.Proofs.YtiolaenkfhcajaaGreat
set_option maxRecDepth 100000
section
variable {α : Type} [DecidableEq α] (key : Nat → α)
/-- The numbers of one key, in their order. -/
def byK (row : List Nat) (x : α) : List Nat := row.filter (fun i => decide (key i = x))
theorem byK_push (row : List Nat) (i : Nat) (x : α) : byK key (row ++ [i]) x = if x = key i then byK key row x ++ [i] else byK key row x := by
  unfold byK
  rw [List.filter_append]
  by_cases h : x = key i
  · subst h
    simp
  · rw [if_neg h]
    have : ¬ key i = x := fun e => h e.symm
    simp [this]
/-- Neighbours with unlike keys change places. -/
theorem byK_swap (a b : List Nat) (p q : Nat) (hne : key p ≠ key q) (x : α) : byK key (a ++ q :: p :: b) x = byK key (a ++ p :: q :: b) x := by
  unfold byK
  rw [List.filter_append, List.filter_append]
  congr 1
  by_cases h1 : key p = x
  · have h2 : ¬ key q = x := fun e => hne (h1.trans e.symm)
    simp [h1, h2]
  · by_cases h2 : key q = x <;> simp [h1, h2]
theorem swap_split (row : List Nat) (k : Nat) (h : k + 1 < row.length) : row = row.take k ++ row[k] :: row[k + 1] :: row.drop (k + 2) ∧ (row.set k row[k + 1]).set (k + 1) row[k] = row.take k ++ row[k + 1] :: row[k] :: row.drop (k + 2) := by
  have e : row = row.take k ++ row[k] :: row[k + 1] :: row.drop (k + 2) := by
    conv => lhs; rw [← List.take_append_drop k row]
    rw [List.drop_eq_getElem_cons (by omega), List.drop_eq_getElem_cons (by omega)]
  refine ⟨e, ?_⟩
  have hl : (row.take k).length = k := by rw [List.length_take]; omega
  generalize row[k + 1] = q at *
  generalize row[k] = p at *
  generalize hA : row.take k = A at *
  generalize row.drop (k + 2) = B at *
  subst e
  rw [← hl]
  simp
theorem byK_set (row : List Nat) (k : Nat) (h : k + 1 < row.length) (hne : key row[k] ≠ key row[k + 1]) (x : α) : byK key ((row.set k row[k + 1]).set (k + 1) row[k]) x = byK key row x := by
  obtain ⟨e1, e2⟩ := swap_split row k h
  rw [e2]
  conv => rhs; rw [e1]
  exact byK_swap key _ _ _ _ hne x
theorem byK_sorted {row : List Nat} (h : row.Pairwise (· < ·)) (x : α) : (byK key row x).Pairwise (· < ·) := h.filter _
theorem byK_mem {row : List Nat} {x : α} {i : Nat} : i ∈ byK key row x ↔ i ∈ row ∧ key i = x := by
  unfold byK
  rw [List.mem_filter]
  simp
end
theorem flat_count {α : Type} [DecidableEq α] (key : Nat → α) : ∀ (row : List Nat) (ss : List α), ss.Nodup → (∀ i ∈ row, key i ∈ ss) → (ss.flatMap (byK key row)).length = row.length
  | [], ss, _, _ => by
    have : ss.flatMap (byK key []) = [] := List.flatMap_eq_nil_iff.2 (fun _ _ => rfl)
    rw [this]
  | i :: t, ss, hn, hm => by
    have ih := flat_count key t ss hn (fun j hj => hm j (List.mem_cons_of_mem _ hj))
    have key1 : ∀ ss : List α, ss.Nodup → (ss.flatMap (byK key (i :: t))).length = (ss.flatMap (byK key t)).length + (if key i ∈ ss then 1 else 0) := by
      intro ss
      induction ss with
      | nil => intro _; rfl
      | cons x r ih2 =>
        intro hn
        have h1 := ih2 (List.nodup_cons.1 hn).2
        have h2 := (List.nodup_cons.1 hn).1
        rw [List.flatMap_cons, List.flatMap_cons, List.length_append, List.length_append, h1]
        by_cases ex : key i = x
        · subst ex
          rw [if_neg h2, if_pos List.mem_cons_self]
          have : (byK key (i :: t) (key i)).length = (byK key t (key i)).length + 1 := by simp [byK]
          omega
        · have : (byK key (i :: t) x).length = (byK key t x).length := by simp [byK, ex]
          rw [this]
          by_cases er : key i ∈ r
          · rw [if_pos er, if_pos (List.mem_cons_of_mem _ er)]
            omega
          · rw [if_neg er, if_neg (fun h => (List.mem_cons.1 h).elim ex er)]
            omega
    rw [key1 ss hn, if_pos (hm i List.mem_cons_self), ih, List.length_cons]
/-- Two rising lists of the same turns are one. -/
theorem sorted_one {a b : List (Int × Int)} (ha : a.Pairwise ltT) (hb : b.Pairwise ltT) (h : ∀ x, x ∈ a ↔ x ∈ b) : a = b := by
  have hp : a.Perm b := (List.perm_ext_iff_of_nodup (nodup_lt ha) (nodup_lt hb)).2 h
  exact hp.eq_of_pairwise (fun x y _ _ h1 h2 => by unfold ltT at h1 h2; omega) ha hb
/-- All by rising keys, then by rising numbers. -/
theorem flat_sorted (key : Nat → Int × Int) {row : List Nat} (hr : row.Pairwise (· < ·)) {ss : List (Int × Int)} (hs : ss.Pairwise ltT) : (ss.flatMap (byK key row)).Pairwise (fun p q => ltT (key p) (key q) ∨ key p = key q ∧ p < q) := by
  rw [List.pairwise_flatMap]
  refine ⟨fun x _ => ?_, hs.imp (fun {x y} h p hp q hq => ?_)⟩
  · refine (List.Pairwise.and_mem.1 (byK_sorted key hr x)).imp (fun ⟨h1, h2, h3⟩ => .inr ⟨?_, h3⟩)
    rw [((byK_mem key).1 h1).2, ((byK_mem key).1 h2).2]
  · left
    rw [((byK_mem key).1 hp).2, ((byK_mem key).1 hq).2]
    exact h
end Go.Proofs.YtiolaenkfhcajaaGreat
