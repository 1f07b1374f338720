/-
  Plan, plain: sets of kinds, conflicts, marks; the stages.
-/
namespace Go.Proofs.Ythgjdmomcpcolaa
abbrev Sy := List Int × List Int
def meets (a b : List Int) : Bool := a.any fun x => b.contains x
theorem meets_iff {a b : List Int} : meets a b = true ↔ ∃ x, x ∈ a ∧ x ∈ b := by
  simp [meets]
def cf (s t : Sy) : Bool := meets s.2 t.2 || meets s.2 t.1 || meets s.1 t.2
theorem cf_iff {s t : Sy} : cf s t = true ↔ ∃ x, (x ∈ s.2 ∧ x ∈ t.2) ∨ (x ∈ s.2 ∧ x ∈ t.1) ∨ (x ∈ s.1 ∧ x ∈ t.2) := by
  simp only [cf, Bool.or_eq_true, meets_iff]
  constructor
  · rintro ((⟨x, h⟩ | ⟨x, h⟩) | ⟨x, h⟩)
    · exact ⟨x, .inl h⟩
    · exact ⟨x, .inr (.inl h)⟩
    · exact ⟨x, .inr (.inr h)⟩
  · rintro ⟨x, h | h | h⟩
    · exact .inl (.inl ⟨x, h⟩)
    · exact .inl (.inr ⟨x, h⟩)
    · exact .inr ⟨x, h⟩
theorem cf_symm (s t : Sy) : cf s t = cf t s := by
  rw [Bool.eq_iff_iff, cf_iff, cf_iff]
  constructor
  all_goals
    rintro ⟨x, h | h | h⟩
    · exact ⟨x, .inl ⟨h.2, h.1⟩⟩
    · exact ⟨x, .inr (.inr ⟨h.2, h.1⟩)⟩
    · exact ⟨x, .inr (.inl ⟨h.2, h.1⟩)⟩
/-- Two systems whose sets hold the same kinds. -/
def Alike (s t : Sy) : Prop := (∀ x, x ∈ s.1 ↔ x ∈ t.1) ∧ ∀ x, x ∈ s.2 ↔ x ∈ t.2
theorem cf_alike {s s' t t' : Sy} (h : Alike s s') (k : Alike t t') : cf s t = cf s' t' := by
  rw [Bool.eq_iff_iff, cf_iff, cf_iff]
  simp only [h.1, h.2, k.1, k.2]
/-! ### Marks -/
abbrev Mk := List (Sy × Nat)
def gt (ms : Mk) (p : Sy → Bool) : Nat := ms.foldr (fun x m => if p x.1 then max x.2 m else m) 0
theorem gt_le {ms : Mk} {p : Sy → Bool} {B : Nat} : gt ms p ≤ B ↔ ∀ x ∈ ms, p x.1 = true → x.2 ≤ B := by
  induction ms with
  | nil => simp [gt]
  | cons x t ih =>
    simp only [gt, List.foldr_cons, List.mem_cons, forall_eq_or_imp] at ih ⊢
    rw [← ih]
    by_cases h : p x.1 = true
    · simp only [h, if_true, true_implies]
      omega
    · simp only [h, if_false, false_implies, true_and, Bool.false_eq_true]
theorem le_gt {ms : Mk} {p : Sy → Bool} {x : Sy × Nat} (h : x ∈ ms) (hp : p x.1 = true) : x.2 ≤ gt ms p := gt_le.1 (Nat.le_refl _) x h hp
theorem gt_mem {ms : Mk} {p : Sy → Bool} : gt ms p = 0 ∨ ∃ x ∈ ms, p x.1 = true ∧ x.2 = gt ms p := by
  induction ms with
  | nil => exact .inl rfl
  | cons x t ih =>
    simp only [gt, List.foldr_cons] at ih ⊢
    by_cases h : p x.1 = true
    · simp only [h, if_true]
      by_cases hm : x.2 ≤ gt t p
      · rw [show max x.2 (List.foldr (fun x m => if p x.1 = true then max x.2 m else m) 0 t) = gt t p from by simp only [gt] at hm ⊢; omega]
        rcases ih with ih | ⟨y, h1, h2, h3⟩
        · exact .inl ih
        · exact .inr ⟨y, List.mem_cons_of_mem _ h1, h2, h3⟩
      · exact .inr ⟨x, List.mem_cons_self, h, by simp only [gt] at hm; omega⟩
    · simp only [h, if_false, Bool.false_eq_true]
      rcases ih with ih | ⟨y, h1, h2, h3⟩
      · exact .inl ih
      · exact .inr ⟨y, List.mem_cons_of_mem _ h1, h2, h3⟩
theorem gt_add (ms : Mk) (p : Sy → Bool) (s : Sy) (m : Nat) : gt (ms ++ [(s, m)]) p = if p s then max (gt ms p) m else gt ms p := by
  apply Nat.le_antisymm
  · rw [gt_le]
    intro x hx hp
    rcases List.mem_append.1 hx with hx | hx
    · have := le_gt hx hp
      split <;> omega
    · obtain rfl := List.mem_singleton.1 hx
      rw [if_pos hp]
      dsimp only
      omega
  · have h1 : gt ms p ≤ gt (ms ++ [(s, m)]) p := gt_le.2 fun x hx hp => le_gt (List.mem_append_left _ hx) hp
    split
    · have h2 := le_gt (ms := ms ++ [(s, m)]) (p := p) (x := (s, m)) (by simp) (by assumption)
      dsimp only at h2
      omega
    · exact h1
def wt (ms : Mk) (k : Int) : Nat := gt ms fun t => t.2.contains k
def tc (ms : Mk) (k : Int) : Nat := gt ms fun t => t.1.contains k || t.2.contains k
def grt (ms : Mk) (s : Sy) : Nat := gt ms fun t => cf t s
def sup (l : List Int) (f : Int → Nat) : Nat := l.foldr (fun k m => max (f k) m) 0
theorem sup_le {l : List Int} {f : Int → Nat} {B : Nat} : sup l f ≤ B ↔ ∀ k ∈ l, f k ≤ B := by
  induction l with
  | nil => simp [sup]
  | cons x t ih =>
    simp only [sup, List.foldr_cons, List.mem_cons, forall_eq_or_imp] at ih ⊢
    rw [← ih]
    omega
theorem le_sup {l : List Int} {f : Int → Nat} {k : Int} (h : k ∈ l) : f k ≤ sup l f := sup_le.1 (Nat.le_refl _) k h
theorem sup_add (l : List Int) (f : Int → Nat) (k : Int) : sup (l ++ [k]) f = max (sup l f) (f k) := by
  apply Nat.le_antisymm
  · rw [sup_le]
    intro x hx
    rcases List.mem_append.1 hx with hx | hx
    · have := le_sup (f := f) hx
      omega
    · obtain rfl := List.mem_singleton.1 hx
      omega
  · have h1 : sup l f ≤ sup (l ++ [k]) f := sup_le.2 fun x hx => le_sup (List.mem_append_left _ hx)
    have h2 : f k ≤ sup (l ++ [k]) f := le_sup (by simp)
    omega
theorem sup_take_le (l : List Int) (f : Int → Nat) (i : Nat) : sup (l.take i) f ≤ sup l f := sup_le.2 fun _ hx => le_sup (List.mem_of_mem_take hx)
theorem grt_eq (ms : Mk) (s : Sy) : grt ms s = max (sup s.1 (wt ms)) (sup s.2 (tc ms)) := by
  apply Nat.le_antisymm
  · refine gt_le.2 fun x hx hp => ?_
    obtain ⟨k, h | h | h⟩ := cf_iff.1 hp
    · have h1 : x.2 ≤ tc ms k := le_gt hx (by simp [h.1])
      have h2 := le_sup (f := tc ms) h.2
      omega
    · have h1 : x.2 ≤ wt ms k := le_gt hx (by simp [h.1])
      have h2 := le_sup (f := wt ms) h.2
      omega
    · have h1 : x.2 ≤ tc ms k := le_gt hx (by simp [h.1])
      have h2 := le_sup (f := tc ms) h.2
      omega
  · have h1 : sup s.1 (wt ms) ≤ grt ms s := sup_le.2 fun k hk => gt_le.2 fun x hx hp => le_gt hx (cf_iff.2 ⟨k, .inr (.inl ⟨by simpa using hp, hk⟩)⟩)
    have h2 : sup s.2 (tc ms) ≤ grt ms s := sup_le.2 fun k hk => gt_le.2 fun x hx hp => le_gt hx (cf_iff.2 ⟨k, by
      simp only [Bool.or_eq_true, List.contains_iff_mem] at hp
      rcases hp with hp | hp
      · exact .inr (.inr ⟨hp, hk⟩)
      · exact .inl ⟨hp, hk⟩⟩)
    omega
/-! ### Stages -/
def mks (l : List Sy) : Mk := l.foldl (fun ms s => ms ++ [(s, grt ms s + 1)]) []
theorem mks_add (l : List Sy) (s : Sy) : mks (l ++ [s]) = mks l ++ [(s, grt (mks l) s + 1)] := by simp [mks]
/-- Induction at the end of a list. -/
theorem snoc_ind {α : Type} {P : List α → Prop} (h0 : P []) (h1 : ∀ l x, P l → P (l ++ [x])) : ∀ l, P l := fun l => by
  have : ∀ l : List α, P l.reverse := fun l => by
    induction l with
    | nil => exact h0
    | cons x t ih => rw [List.reverse_cons]; exact h1 _ _ ih
  simpa using this l.reverse
theorem mks_len (l : List Sy) : (mks l).length = l.length := by
  induction l using snoc_ind with
  | h0 => rfl
  | h1 l s ih => rw [mks_add]; simp [ih]
theorem mks_fst (l : List Sy) : ∀ i (h : i < (mks l).length), (mks l)[i].1 = l[i]'(by rw [← mks_len]; exact h) := by
  induction l using snoc_ind with
  | h0 => intro i h; simp [mks] at h
  | h1 l s ih =>
    intro i h
    have h' : i < l.length + 1 := by rw [mks_len] at h; simpa using h
    by_cases c : i < l.length
    · have e : (mks (l ++ [s]))[i] = (mks l)[i]'(by rw [mks_len]; exact c) := by
        simp only [mks_add]
        rw [List.getElem_append_left]
      rw [e, ih, List.getElem_append_left c]
    · have e : i = l.length := by omega
      subst e
      have e : (mks (l ++ [s]))[l.length] = (s, grt (mks l) s + 1) := by
        simp only [mks_add]
        rw [List.getElem_append_right (by rw [mks_len]; omega)]
        simp [mks_len]
      rw [e]
      simp
/-- The stage of each system. -/
def stL (l : List Sy) : List Nat := (mks l).map fun x => x.2 - 1
theorem stL_len (l : List Sy) : (stL l).length = l.length := by simp [stL, mks_len]
theorem stL_add (l : List Sy) (s : Sy) : stL (l ++ [s]) = stL l ++ [grt (mks l) s] := by simp [stL, mks_add]
theorem mks_pos (l : List Sy) : ∀ x ∈ mks l, 1 ≤ x.2 := by
  induction l using snoc_ind with
  | h0 => intro x hx; simp [mks] at hx
  | h1 l s ih =>
    intro x hx
    rw [mks_add] at hx
    rcases List.mem_append.1 hx with hx | hx
    · exact ih x hx
    · rw [List.mem_singleton.1 hx]
      dsimp only
      omega
theorem mks_at (l : List Sy) (i : Nat) (h : i < l.length) : (l[i], (stL l)[i]'(by rw [stL_len]; exact h) + 1) ∈ mks l := by
  have hm : i < (mks l).length := by rw [mks_len]; exact h
  have h1 := mks_fst l i hm
  have h2 := mks_pos l _ (List.getElem_mem hm)
  have e : (stL l)[i]'(by rw [stL_len]; exact h) + 1 = (mks l)[i].2 := by
    simp only [stL, List.getElem_map]
    omega
  rw [e, ← h1]
  exact List.getElem_mem hm
theorem mks_mem {l : List Sy} {x : Sy × Nat} (h : x ∈ mks l) : ∃ (i : Nat) (hi : i < l.length), x = (l[i], (stL l)[i]'(by rw [stL_len]; exact hi) + 1) := by
  obtain ⟨i, hi, rfl⟩ := List.getElem_of_mem h
  have hl : i < l.length := by rw [← mks_len]; exact hi
  refine ⟨i, hl, ?_⟩
  have h1 := mks_fst l i hi
  have h2 := mks_pos l _ (List.getElem_mem hi)
  apply Prod.ext
  · exact h1
  · simp only [stL, List.getElem_map]
    omega
/-- The stage of the number i. -/
def sg (l : List Sy) (i : Nat) : Nat := (stL l).getD i 0
theorem sg_at (l : List Sy) (i : Nat) (h : i < l.length) : sg l i = (stL l)[i]'(by rw [stL_len]; exact h) := by
  rw [sg, List.getD_eq_getElem?_getD, List.getElem?_eq_getElem (by rw [stL_len]; exact h)]
  rfl
def cn (l : List Sy) (i k : Nat) : Bool := cf (l.getD i default) (l.getD k default)
theorem cn_symm (l : List Sy) (i k : Nat) : cn l i k = cn l k i := cf_symm _ _
theorem cn_at (l : List Sy) (i k : Nat) (hi : i < l.length) (hk : k < l.length) : cn l i k = cf l[i] l[k] := by
  simp only [cn, List.getD_eq_getElem?_getD, List.getElem?_eq_getElem hi, List.getElem?_eq_getElem hk]
  rfl
theorem sg_old (l : List Sy) (s : Sy) (i : Nat) (h : i < l.length) : sg (l ++ [s]) i = sg l i := by
  rw [sg_at _ _ (by simp; omega), sg_at _ _ h]
  simp only [stL_add]
  rw [List.getElem_append_left]
theorem cn_old (l : List Sy) (s : Sy) (i k : Nat) (h : i < l.length) (hk : k < l.length) : cn (l ++ [s]) i k = cn l i k := by
  rw [cn_at _ _ _ (by simp; omega) (by simp; omega), cn_at _ _ _ h hk, List.getElem_append_left h, List.getElem_append_left hk]
theorem sg_last (l : List Sy) (s : Sy) : sg (l ++ [s]) l.length = grt (mks l) s := by
  rw [sg_at _ _ (by simp)]
  simp only [stL_add]
  rw [List.getElem_append_right (by rw [stL_len]; omega)]
  simp [stL_len]
theorem cn_last (l : List Sy) (s : Sy) (k : Nat) (h : k < l.length) : cn (l ++ [s]) k l.length = cf l[k] s := by
  rw [cn_at _ _ _ (by simp; omega) (by simp), List.getElem_append_left h]
  simp
/-- One behind those ahead of it with which it conflicts. -/
theorem sg_lt (l : List Sy) : ∀ k x, k < x → x < l.length → cn l k x = true → sg l k < sg l x := by
  induction l using snoc_ind with
  | h0 => intro k x _ h; simp at h
  | h1 l s ih =>
    intro k x hk hx hc
    simp only [List.length_append, List.length_singleton] at hx
    by_cases c : x < l.length
    · rw [sg_old _ _ _ (by omega), sg_old _ _ _ c]
      rw [cn_old _ _ _ _ (by omega) c] at hc
      exact ih k x hk c hc
    · obtain rfl : x = l.length := by omega
      rw [sg_last, sg_old _ _ _ hk]
      rw [cn_last _ _ _ hk] at hc
      have := le_gt (p := fun t => cf t s) (mks_at l k hk) hc
      rw [← sg_at l k hk] at this
      exact this
theorem sg_why (l : List Sy) : ∀ x, x < l.length → sg l x = 0 ∨ ∃ k, k < x ∧ cn l k x = true ∧ sg l k + 1 = sg l x := by
  induction l using snoc_ind with
  | h0 => intro x h; simp at h
  | h1 l s ih =>
    intro x hx
    simp only [List.length_append, List.length_singleton] at hx
    by_cases c : x < l.length
    · rw [sg_old _ _ _ c]
      rcases ih x c with h | ⟨k, h1, h2, h3⟩
      · exact .inl h
      · refine .inr ⟨k, h1, ?_, ?_⟩
        · rw [cn_old _ _ _ _ (by omega) c]; exact h2
        · rw [sg_old _ _ _ (by omega)]; exact h3
    · obtain rfl : x = l.length := by omega
      rw [sg_last]
      rcases gt_mem (ms := mks l) (p := fun t => cf t s) with h | ⟨y, h1, h2, h3⟩
      · exact .inl h
      · obtain ⟨i, hi, rfl⟩ := mks_mem h1
        refine .inr ⟨i, hi, ?_, ?_⟩
        · rw [cn_last _ _ _ hi]; exact h2
        · rw [sg_old _ _ _ hi, sg_at _ _ hi]; exact h3
/-- A system joins its stage. -/
def joinS (sts : List (List Nat)) (own k : Nat) : List (List Nat) := if own = sts.length then sts ++ [[k]] else sts.modify own (· ++ [k])
def stagesL (l : List Sy) : List (List Nat) := ((List.range l.length).foldl (fun sts k => joinS sts (sg l k) k) [])
/-- What the stages of the first n are. -/
def StOf (l : List Sy) (n : Nat) (sts : List (List Nat)) : Prop :=
  (∀ k, k < n → sg l k < sts.length) ∧ ∀ j (hj : j < sts.length), sts[j] = (List.range n).filter (fun k => sg l k == j) ∧ sts[j] ≠ []
theorem StOf.nil (l : List Sy) : StOf l 0 [] := ⟨fun _ h => by omega, fun j h => by simp at h⟩
theorem StOf.add {l : List Sy} {n : Nat} {sts : List (List Nat)} (h : StOf l n sts) (hb : sg l n ≤ sts.length) : StOf l (n + 1) (joinS sts (sg l n) n) := by
  unfold joinS
  by_cases c : sg l n = sts.length
  · rw [if_pos c]
    refine ⟨fun k hk => ?_, fun j hj => ?_⟩
    · rw [List.length_append, List.length_singleton]
      by_cases e : k = n
      · subst e; omega
      · have := h.1 k (by omega); omega
    · rw [List.length_append, List.length_singleton] at hj
      by_cases e : j < sts.length
      · rw [List.getElem_append_left e, List.range_succ, List.filter_append]
        have hn : (sg l n == j) = false := by rw [beq_eq_false_iff_ne]; omega
        simp only [List.filter_cons, hn, List.filter_nil, List.append_nil, Bool.false_eq_true, if_false]
        exact h.2 j e
      · obtain rfl : j = sts.length := by omega
        rw [List.getElem_append_right (Nat.le_refl _), List.range_succ, List.filter_append]
        have hn : (sg l n == sts.length) = true := by rw [beq_iff_eq]; exact c
        have he : (List.range n).filter (fun k => sg l k == sts.length) = [] := by
          rw [List.filter_eq_nil_iff]
          intro k hk
          have := h.1 k (List.mem_range.1 hk)
          rw [beq_iff_eq]
          omega
        simp [he, hn]
  · rw [if_neg c]
    refine ⟨fun k hk => ?_, fun j hj => ?_⟩
    · rw [List.length_modify]
      by_cases e : k = n
      · subst e; omega
      · exact h.1 k (by omega)
    · rw [List.length_modify] at hj
      rw [List.getElem_modify, List.range_succ, List.filter_append]
      by_cases e : sg l n = j
      · subst e
        rw [if_pos rfl, ← (h.2 _ hj).1]
        simp
      · have hn : (sg l n == j) = false := by rw [beq_eq_false_iff_ne]; exact e
        rw [if_neg e]
        simp only [List.filter_cons, hn, List.filter_nil, List.append_nil, Bool.false_eq_true, if_false]
        exact h.2 j hj
theorem sg_bound {l : List Sy} {n : Nat} {sts : List (List Nat)} (h : StOf l n sts) (hn : n < l.length) : sg l n ≤ sts.length := by
  rcases sg_why l n hn with h1 | ⟨k, h1, h2, h3⟩
  · omega
  · have := h.1 k h1
    omega
end Go.Proofs.Ythgjdmomcpcolaa
