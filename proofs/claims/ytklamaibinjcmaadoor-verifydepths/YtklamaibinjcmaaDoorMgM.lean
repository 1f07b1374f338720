import Derived.Test.YtklamaibinjcmaaDoorVgN
import Derived.Great.Walk
import Derived.Test.YtklamaibinjcmaaDoorMgP
import Derived.Deep.MidRow
/-
  Verify: the document's own reckoning of depths, plain.
-/
namespace Go.Proofs.YtklamaibinjcmaaDoor
/-- What the document calls next. -/
def nextD (c : List Ins) (p : Nat) : List Int :=
  if (iat c p).op = 22 ∨ (iat c p).op = 23 then [] else if (iat c p).op = 19 then (if thereI c (iat c p).a then [(iat c p).a] else []) else if (iat c p).op = 20 then (if thereI c (iat c p).a then [(iat c p).a, (p : Int) + 1] else [(p : Int) + 1]) else [(p : Int) + 1]
theorem nextD_nn {c : List Ins} {p : Nat} : ∀ x ∈ nextD c p, 0 ≤ x ∧ x ≤ (c.length : Int) + p + 1 := fun x hx => by
  unfold nextD thereI at hx
  repeat' split at hx
  all_goals (try simp only [decide_eq_true_eq] at *)
  all_goals (simp only [List.mem_cons, List.not_mem_nil, or_false] at hx)
  all_goals (try omega)
theorem nextD_len (c : List Ins) (p : Nat) : (nextD c p).length ≤ 2 := by
  unfold nextD
  repeat' split
  all_goals simp
theorem onwI_iff {c : List Ins} {p y : Nat} : y ∈ onwI c p ↔ (y : Int) ∈ nextI c p ∧ y < c.length := by
  unfold onwI
  rw [List.mem_map]
  constructor
  · rintro ⟨x, hx, rfl⟩
    obtain ⟨h1, h2⟩ := List.mem_filter.1 hx
    rw [decide_eq_true_iff] at h2
    have e : ((x.toNat : Nat) : Int) = x := by omega
    rw [e]
    exact ⟨h1, by omega⟩
  · rintro ⟨h1, h2⟩
    exact ⟨(y : Int), List.mem_filter.2 ⟨h1, decide_eq_true ⟨by omega, by omega⟩⟩, by omega⟩
theorem onwD_iff {c : List Ins} {p y : Nat} : y ∈ onwI c p ↔ (y : Int) ∈ nextD c p ∧ y < c.length := by
  rw [onwI_iff]
  constructor
  · rintro ⟨h1, h2⟩
    refine ⟨?_, h2⟩
    unfold nextI at h1
    unfold nextD thereI
    by_cases a1 : (iat c p).op = 22 ∨ (iat c p).op = 23
    · rw [if_pos a1] at h1
      cases h1
    · rw [if_neg a1] at h1 ⊢
      by_cases a2 : (iat c p).op = 20
      · rw [if_pos a2] at h1
        rw [if_neg (by omega), if_pos a2]
        simp only [List.mem_cons, List.not_mem_nil, or_false] at h1
        rcases h1 with h1 | h1
        · split <;> simp [h1]
        · rw [if_pos (by rw [decide_eq_true_iff]; omega)]
          simp [h1]
      · rw [if_neg a2] at h1
        by_cases a3 : (iat c p).op = 19
        · rw [if_pos a3] at h1 ⊢
          simp only [List.mem_cons, List.not_mem_nil, or_false] at h1
          rw [if_pos (by rw [decide_eq_true_iff]; omega)]
          simp [h1]
        · rw [if_neg a3] at h1 ⊢
          rw [if_neg a2]
          exact h1
  · rintro ⟨h1, h2⟩
    refine ⟨?_, h2⟩
    unfold nextD thereI at h1
    unfold nextI
    by_cases a1 : (iat c p).op = 22 ∨ (iat c p).op = 23
    · rw [if_pos a1] at h1
      cases h1
    · rw [if_neg a1] at h1 ⊢
      by_cases a2 : (iat c p).op = 20
      · rw [if_pos a2]
        rw [if_neg (by omega), if_pos a2] at h1
        split at h1
        · simp only [List.mem_cons, List.not_mem_nil, or_false] at h1 ⊢
          omega
        · simp only [List.mem_cons, List.not_mem_nil, or_false] at h1 ⊢
          omega
      · rw [if_neg a2]
        by_cases a3 : (iat c p).op = 19
        · rw [if_pos a3] at h1 ⊢
          split at h1
          · exact h1
          · cases h1
        · rw [if_neg a3] at h1 ⊢
          rw [if_neg a2] at h1
          exact h1
theorem onw_less {c : List Ins} {p : Nat} : (onwI c p).length < (nextI c p).length ↔ ∃ x ∈ nextI c p, ¬ (0 ≤ x ∧ x < (c.length : Int)) := by
  unfold onwI
  rw [List.length_map]
  have hle := List.length_filter_le (fun x : Int => decide (0 ≤ x ∧ x < (c.length : Int))) (nextI c p)
  constructor
  · intro h
    apply Classical.byContradiction
    intro hc
    have : ((nextI c p).filter fun x : Int => decide (0 ≤ x ∧ x < (c.length : Int))).length = (nextI c p).length := List.length_filter_eq_length_iff.2 (fun x hx => decide_eq_true (Classical.byContradiction fun e => hc ⟨x, hx, e⟩))
    omega
  · rintro ⟨x, hx, hn⟩
    apply Classical.byContradiction
    intro hc
    have := List.length_filter_eq_length_iff.1 (show ((nextI c p).filter fun x : Int => decide (0 ≤ x ∧ x < (c.length : Int))).length = (nextI c p).length by omega) x hx
    exact hn (of_decide_eq_true this)
theorem endD_iff {c : List Ins} {p : Nat} (hj : (isJ (iat c p) && !thereI c (iat c p).a) = false) : (onwI c p).length < (nextI c p).length ↔ ∃ x ∈ nextD c p, (c.length : Int) ≤ x := by
  rw [onw_less]
  have hj' : ((iat c p).op = 19 ∨ (iat c p).op = 20) → 0 ≤ (iat c p).a ∧ (iat c p).a < (c.length : Int) := fun e => by
    unfold isJ thereI at hj
    rw [decide_eq_true e] at hj
    simp at hj
    omega
  unfold nextI nextD thereI
  by_cases a1 : (iat c p).op = 22 ∨ (iat c p).op = 23
  · rw [if_pos a1, if_pos a1]
    simp
  · rw [if_neg a1, if_neg a1]
    by_cases a2 : (iat c p).op = 20
    · have := hj' (.inr a2)
      rw [if_pos a2, if_neg (by omega), if_pos a2, if_pos (by rw [decide_eq_true_iff]; omega)]
      simp only [List.mem_cons, List.not_mem_nil, or_false, exists_eq_or_imp, exists_eq_left]
      omega
    · rw [if_neg a2]
      by_cases a3 : (iat c p).op = 19
      · have := hj' (.inl a3)
        rw [if_pos a3, if_pos a3, if_pos (by rw [decide_eq_true_iff]; omega)]
        simp only [List.mem_cons, List.not_mem_nil, or_false, exists_eq_left]
        omega
      · rw [if_neg a3, if_neg a3, if_neg a2]
        simp only [List.mem_cons, List.not_mem_nil, or_false, exists_eq_left]
        omega
/-- A table of places and depths, one more of them told. -/
def putT (T : Nat → Nat → Bool) (p d : Nat) : Nat → Nat → Bool := fun q e => T q e || (decide (q = p) && decide (e = d))
theorem putT_iff {T : Nat → Nat → Bool} {p d q e : Nat} : putT T p d q e = true ↔ T q e = true ∨ (q = p ∧ e = d) := by
  unfold putT
  simp
def unT (T : Nat → Nat → Bool) (p k : Nat) : Nat := ((List.range k).filter fun d => !T p d).length
theorem unT_succ (T : Nat → Nat → Bool) (p k : Nat) : unT T p (k + 1) = unT T p k + if T p k then 0 else 1 := by
  unfold unT
  rw [List.range_succ, List.filter_append, List.length_append]
  cases h : T p k <;> simp [h]
theorem unT_le (T : Nat → Nat → Bool) (p k : Nat) : unT T p k ≤ k := by
  unfold unT
  exact Nat.le_trans (List.length_filter_le _ _) (by simp)
theorem unT_put {T : Nat → Nat → Bool} {p d : Nat} (h : T p d = false) : ∀ k, unT (putT T p d) p k + (if d < k then 1 else 0) = unT T p k
  | 0 => by simp [unT]
  | k + 1 => by
    have ih := unT_put h k
    rw [unT_succ, unT_succ]
    by_cases e : k = d
    · subst e
      have h1 : putT T p k p k = true := putT_iff.2 (.inr ⟨rfl, rfl⟩)
      rw [h1, h]
      simp at ih ⊢
      omega
    · have h1 : putT T p d p k = T p k := by unfold putT; simp [e]
      rw [h1]
      have h2 : (d < k + 1) ↔ d < k := by omega
      simp only [h2]
      omega
theorem unT_other {T : Nat → Nat → Bool} {p d q k : Nat} (h : q ≠ p) : unT (putT T p d) q k = unT T q k := by
  unfold unT putT
  simp [h]
section
variable {fs : List Rt} {c : List Ins}
/-- What the document's search holds. -/
structure Dke (fs : List Rt) (c : List Ins) (T : Nat → Nat → Bool) (op : List (Nat × Nat)) : Prop where
  sound : ∀ p d, T p d = true → Rch fs c p d
  osound : ∀ m ∈ op, T m.1 m.2 = true
  first : T 0 0 = true
  next : ∀ p d, T p d = true → (p, d) ∈ op ∨ ∀ m ∈ momI fs c p d, T m.1 m.2 = true
/-- Within a turn of it: the places that are still to be looked at. -/
structure Dje (fs : List Rt) (c : List Ins) (T : Nat → Nat → Bool) (op : List (Nat × Nat)) (p d b : Nat) (ys : List Int) : Prop where
  sound : ∀ p d, T p d = true → Rch fs c p d
  osound : ∀ m ∈ op, T m.1 m.2 = true
  first : T 0 0 = true
  next : ∀ p' d', T p' d' = true → (p', d') ∈ op ∨ (∀ m ∈ momI fs c p' d', T m.1 m.2 = true) ∨ (p' = p ∧ d' = d)
  cur : ∀ m ∈ momI fs c p d, T m.1 m.2 = true ∨ (m.1 : Int) ∈ ys
  beh : behI fs c p d = some b
  here : Rch fs c p d
  sub : ∀ y ∈ ys, 0 ≤ y ∧ (y < c.length → y.toNat ∈ onwI c p)
def Tz0 : Nat → Nat → Bool := fun p d => decide (p = 0) && decide (d = 0)
theorem Dke.init : Dke fs c Tz0 [(0, 0)] where
  sound := fun p d h => by
    simp [Tz0] at h
    obtain ⟨rfl, rfl⟩ := h
    exact Rch.zero
  osound := fun m hm => by rw [List.mem_singleton.1 hm]; rfl
  first := rfl
  next := fun p d h => by
    simp [Tz0] at h
    obtain ⟨rfl, rfl⟩ := h
    exact .inl (by simp)
theorem Dke.none {T : Nat → Nat → Bool} {op : List (Nat × Nat)} {p d : Nat} (h : Dke fs c T ((p, d) :: op)) (hb : behI fs c p d = none) : Dke fs c T op where
  sound := h.sound
  osound := fun m hm => h.osound m (by simp [hm])
  first := h.first
  next := fun p' d' hT => by
    rcases h.next p' d' hT with e | e
    · rw [List.mem_cons, Prod.mk.injEq] at e
      rcases e with ⟨rfl, rfl⟩ | e
      · refine .inr fun m hm => ?_
        unfold momI at hm
        rw [hb] at hm
        cases hm
      · exact .inl e
    · exact .inr e
theorem Dke.enter {T : Nat → Nat → Bool} {op : List (Nat × Nat)} {p d b : Nat} (h : Dke fs c T ((p, d) :: op)) (hb : behI fs c p d = some b) : Dje fs c T op p d b (nextD c p) where
  sound := h.sound
  osound := fun m hm => h.osound m (by simp [hm])
  first := h.first
  next := fun p' d' hT => by
    rcases h.next p' d' hT with e | e
    · rw [List.mem_cons, Prod.mk.injEq] at e
      rcases e with e | e
      · exact .inr (.inr e)
      · exact .inl e
    · exact .inr (.inl e)
  cur := fun m hm => .inr (onwD_iff.1 (momI_mem hm).2).1
  beh := hb
  here := h.sound p d (h.osound (p, d) (by simp))
  sub := fun y hy => ⟨(nextD_nn y hy).1, fun h2 => onwD_iff.2 ⟨by have := (nextD_nn y hy).1; rw [show ((y.toNat : Nat) : Int) = y by omega]; exact hy, by have := (nextD_nn y hy).1; omega⟩⟩
theorem Dje.skip {T : Nat → Nat → Bool} {op : List (Nat × Nat)} {p d b : Nat} {y : Int} {ys : List Int} (h : Dje fs c T op p d b (y :: ys)) (hy : (c.length : Int) ≤ y ∨ T y.toNat b = true) : Dje fs c T op p d b ys where
  sound := h.sound
  osound := h.osound
  first := h.first
  next := h.next
  cur := fun m hm => by
    rcases h.cur m hm with e | e
    · exact .inl e
    · rw [List.mem_cons] at e
      rcases e with e | e
      · obtain ⟨h1, h2⟩ := momI_mem hm
        have hlt := onwI_lt h2
        rcases hy with hy | hy
        · omega
        · left
          have hb := h.beh
          rw [h1] at hb
          obtain rfl : m.2 = b := by injection hb
          rw [← e] at hy
          exact hy
      · exact .inr e
  beh := h.beh
  here := h.here
  sub := fun z hz => h.sub z (by simp [hz])
theorem Dje.put {T : Nat → Nat → Bool} {op : List (Nat × Nat)} {p d b : Nat} {y : Int} {ys : List Int} (h : Dje fs c T op p d b (y :: ys)) (hy : y < (c.length : Int)) : Dje fs c (putT T y.toNat b) (op ++ [(y.toNat, b)]) p d b ys where
  sound := fun q e he => by
    rcases putT_iff.1 he with he | ⟨rfl, rfl⟩
    · exact h.sound q e he
    · exact h.here.on h.beh ((h.sub y (by simp)).2 hy)
  osound := fun m hm => by
    rw [List.mem_append, List.mem_singleton] at hm
    rcases hm with hm | rfl
    · exact putT_iff.2 (.inl (h.osound m hm))
    · exact putT_iff.2 (.inr ⟨rfl, rfl⟩)
  first := putT_iff.2 (.inl h.first)
  next := fun q e he => by
    rcases putT_iff.1 he with he | ⟨rfl, rfl⟩
    · rcases h.next q e he with x | x | x
      · exact .inl (by simp [x])
      · exact .inr (.inl fun m hm => putT_iff.2 (.inl (x m hm)))
      · exact .inr (.inr x)
    · exact .inl (by simp)
  cur := fun m hm => by
    rcases h.cur m hm with e | e
    · exact .inl (putT_iff.2 (.inl e))
    · rw [List.mem_cons] at e
      rcases e with e | e
      · left
        obtain ⟨h1, h2⟩ := momI_mem hm
        have hb := h.beh
        rw [h1] at hb
        refine putT_iff.2 (.inr ⟨by omega, by injection hb⟩)
      · exact .inr e
  beh := h.beh
  here := h.here
  sub := fun z hz => h.sub z (by simp [hz])
theorem Dje.leave {T : Nat → Nat → Bool} {op : List (Nat × Nat)} {p d b : Nat} (h : Dje fs c T op p d b []) : Dke fs c T op where
  sound := h.sound
  osound := h.osound
  first := h.first
  next := fun q e he => by
    rcases h.next q e he with x | x | ⟨rfl, rfl⟩
    · exact .inl x
    · exact .inr x
    · refine .inr fun m hm => ?_
      rcases h.cur m hm with x | x
      · exact x
      · cases x
theorem Dke.done {T : Nat → Nat → Bool} (h : Dke fs c T []) {p d : Nat} : T p d = true ↔ Rch fs c p d := by
  have all : ∀ k p d, rch fs c k p d → T p d = true := by
    intro k
    induction k with
    | zero =>
      rintro p d ⟨rfl, rfl⟩
      exact h.first
    | succ k ih =>
      rintro p d ⟨p', d', h1, h2, h3⟩
      rcases h.next p' d' (ih p' d' h1) with e | e
      · cases e
      · exact e (p, d) (momI_of h2 h3)
  exact ⟨h.sound p d, fun ⟨k, hk⟩ => all k p d hk⟩
/-- How much is left to do. -/
def dkM (c : List Ins) (T : Nat → Nat → Bool) (op : List (Nat × Nat)) : Nat := 2 * sumU c.length (fun p => unT T p 65) + op.length
theorem dkM_put {T : Nat → Nat → Bool} {op : List (Nat × Nat)} {p d : Nat} (hp : p < c.length) (hd : d < 65) (h : T p d = false) : dkM c (putT T p d) (op ++ [(p, d)]) + 1 = dkM c T op := by
  unfold dkM
  have := sumU_less (n := c.length) (x := p) (c := 1) (f := fun p => unT T p 65) (g := fun q => unT (putT T p d) q 65) hp (fun y hy => (unT_other hy).symm) (by have := unT_put h 65; rw [if_pos hd] at this; exact this)
  rw [List.length_append, List.length_singleton]
  omega
theorem dkM_le (T : Nat → Nat → Bool) (op : List (Nat × Nat)) : dkM c T op ≤ 130 * c.length + op.length := by
  have h : ∀ n, sumU n (fun p => unT T p 65) ≤ n * 65 := by
    intro n
    induction n with
    | zero => simp [sumU]
    | succ n ih =>
      rw [sumU_succ]
      have := unT_le T n 65
      omega
  have := h c.length
  unfold dkM
  omega
/-- How many depths of a place are told, of the first so many. -/
def cnT (T : Nat → Bool) (k : Nat) : Nat := ((List.range k).filter fun d => T d).length
theorem cnT_succ (T : Nat → Bool) (k : Nat) : cnT T (k + 1) = cnT T k + if T k then 1 else 0 := by
  unfold cnT
  rw [List.range_succ, List.filter_append, List.length_append]
  cases h : T k <;> simp [h]
theorem cnT_zero {T : Nat → Bool} : ∀ {k : Nat}, cnT T k = 0 ↔ ∀ d, d < k → T d = false
  | 0 => by simp [cnT]
  | k + 1 => by
    rw [cnT_succ]
    have ih := cnT_zero (T := T) (k := k)
    constructor
    · intro h d hd
      have h1 : cnT T k = 0 := by omega
      by_cases e : d = k
      · subst e
        cases hT : T d with
        | false => rfl
        | true => rw [hT] at h; simp at h
      · exact ih.1 h1 d (by omega)
    · intro h
      rw [ih.2 (fun d hd => h d (by omega)), h k (by omega)]
      rfl
theorem cnT_two {T : Nat → Bool} : ∀ {k : Nat}, 1 < cnT T k ↔ ∃ a b, a < k ∧ b < k ∧ a ≠ b ∧ T a = true ∧ T b = true
  | 0 => by simp [cnT]
  | k + 1 => by
    have ih := cnT_two (T := T) (k := k)
    have iz := cnT_zero (T := T) (k := k)
    rw [cnT_succ]
    cases hT : T k with
    | false =>
      simp only [Bool.false_eq_true, if_false, Nat.add_zero]
      rw [ih]
      constructor
      · rintro ⟨a, b, h1, h2, h3⟩
        exact ⟨a, b, by omega, by omega, h3⟩
      · rintro ⟨a, b, h1, h2, h3, h4, h5⟩
        refine ⟨a, b, ?_, ?_, h3, h4, h5⟩
        · by_cases e : a = k
          · subst e; rw [hT] at h4; cases h4
          · omega
        · by_cases e : b = k
          · subst e; rw [hT] at h5; cases h5
          · omega
    | true =>
      simp only [if_true]
      constructor
      · intro h
        have : ¬ cnT T k = 0 := by omega
        rw [iz] at this
        obtain ⟨d, hd⟩ := Classical.not_forall.1 this
        obtain ⟨hd1, hd2⟩ := Classical.not_imp.1 hd
        exact ⟨d, k, by omega, by omega, by omega, by simpa using hd2, hT⟩
      · rintro ⟨a, b, h1, h2, h3, h4, h5⟩
        have : ¬ cnT T k = 0 := fun e => by
          rw [iz] at e
          by_cases x : a = k
          · have := e b (by omega)
            rw [h5] at this
            cases this
          · have := e a (by omega)
            rw [h4] at this
            cases this
        omega
theorem cnT_le (T : Nat → Bool) (k : Nat) : cnT T k ≤ k := by
  unfold cnT
  exact Nat.le_trans (List.length_filter_le _ _) (by simp)
/-- The stack is wrong there, by the table. -/
theorem bad_iff {T : Nat → Nat → Bool} (hT : ∀ p d, T p d = true ↔ Rch fs c p d) (h0 : 0 < c.length) (p : Nat) : Bad fs c p ↔ (∃ d, d < 65 ∧ T p d = true ∧ behI fs c p d = none) ∨ 1 < cnT (T p) 65 := by
  unfold Bad
  rw [cnT_two]
  constructor
  · rintro (⟨d, h1, h2⟩ | ⟨d, d', h1, h2, h3⟩)
    · exact .inl ⟨d, by have := (h1.lt h0).2; omega, (hT p d).2 h1, h2⟩
    · exact .inr ⟨d, d', by have := (h1.lt h0).2; omega, by have := (h2.lt h0).2; omega, h3, (hT p d).2 h1, (hT p d').2 h2⟩
  · rintro (⟨d, -, h1, h2⟩ | ⟨d, d', -, -, h3, h1, h2⟩)
    · exact .inl ⟨d, (hT p d).1 h1, h2⟩
    · exact .inr ⟨d, d', (hT p d).1 h1, (hT p d').1 h2, h3⟩
/-- The least depth from k on that is told, or none: as the document looks for it, from 64 downwards. -/
def lowT (T : Nat → Bool) : Nat → Nat → Int
  | 0, _ => -1
  | n + 1, k => if T k then (k : Int) else lowT T n (k + 1)
/-- What Depths answers: the place, the error, the depths. -/
def DA (fs : List Rt) (c : List Ins) (at_ er : Int) (l : List Int) : Prop :=
  (2000 < c.length ∧ at_ = 0 ∧ er = 130 ∧ l = []) ∨ (c = [] ∧ at_ = 0 ∧ er = 153 ∧ l = []) ∨
  (c.length ≤ 2000 ∧ c ≠ [] ∧ ∃ p, Dpo 150 151 153 fs c (some p) ∧ at_ = (p : Int) ∧ er = wrR 150 151 153 fs c p ∧ l = []) ∨
  (c.length ≤ 2000 ∧ c ≠ [] ∧ Dpo 150 151 153 fs c none ∧ at_ = 0 ∧ er = 0 ∧ l = (List.range c.length).map fun p => dpR fs c p)
theorem DA.unique {a e a' e' : Int} {l l' : List Int} (h : DA fs c a e l) (h' : DA fs c a' e' l') : a = a' ∧ e = e' ∧ l = l' := by
  have hz : ∀ {x : List Ins}, x = [] → ¬ 2000 < x.length := fun e => by subst e; simp
  rcases h with ⟨h1, h2, h3, h4⟩ | ⟨h1, h2, h3, h4⟩ | ⟨h1, h0, p, hp, h2, h3, h4⟩ | ⟨h1, h0, hp, h2, h3, h4⟩ <;> rcases h' with ⟨k1, k2, k3, k4⟩ | ⟨k1, k2, k3, k4⟩ | ⟨k1, k0, p', kp, k2, k3, k4⟩ | ⟨k1, k0, kp, k2, k3, k4⟩
  · exact ⟨h2.trans k2.symm, h3.trans k3.symm, h4.trans k4.symm⟩
  · exact absurd h1 (hz k1)
  · omega
  · omega
  · exact absurd k1 (hz h1)
  · exact ⟨h2.trans k2.symm, h3.trans k3.symm, h4.trans k4.symm⟩
  · exact absurd h1 k0
  · exact absurd h1 k0
  · omega
  · exact absurd k1 h0
  · have e := Fst.unique hp kp (fun i _ => Iff.rfl)
    injection e with e
    subst e
    exact ⟨h2.trans k2.symm, h3.trans k3.symm, h4.trans k4.symm⟩
  · cases Fst.unique hp kp (fun i _ => Iff.rfl)
  · omega
  · exact absurd k1 h0
  · cases Fst.unique hp kp (fun i _ => Iff.rfl)
  · exact ⟨h2.trans k2.symm, h3.trans k3.symm, h4.trans k4.symm⟩
theorem wrR_mem (p : Nat) : wrR 150 151 153 fs c p = 150 ∨ wrR 150 151 153 fs c p = 151 ∨ wrR 150 151 153 fs c p = 153 ∨ wrR 150 151 153 fs c p = 0 := by
  unfold wrR
  repeat' split
  all_goals simp
theorem dpR_le (h0 : 0 < c.length) (p : Nat) : -1 ≤ dpR fs c p ∧ dpR fs c p ≤ 64 := by
  unfold dpR
  split
  next h =>
    have := (h.choose_spec.lt h0).2
    omega
  next => omega
theorem DA.len {a e : Int} {l : List Int} (h : DA fs c a e l) : l.length ≤ 2000 ∧ (0 ≤ a ∧ a ≤ 2000) ∧ (e = 0 ∨ e = 130 ∨ e = 150 ∨ e = 151 ∨ e = 153) ∧ ∀ x ∈ l, -1 ≤ x ∧ x ≤ 64 := by
  rcases h with ⟨h1, rfl, rfl, rfl⟩ | ⟨rfl, rfl, rfl, rfl⟩ | ⟨h1, h0, p, hp, rfl, rfl, rfl⟩ | ⟨h1, h0, hp, rfl, rfl, rfl⟩
  · exact ⟨by simp, by omega, by omega, fun x hx => by cases hx⟩
  · exact ⟨by simp, by omega, by omega, fun x hx => by cases hx⟩
  · have := hp.1
    exact ⟨by simp, by omega, by have := wrR_mem (fs := fs) (c := c) p; omega, fun x hx => by cases hx⟩
  · refine ⟨by simpa using h1, by omega, by omega, fun x hx => ?_⟩
    obtain ⟨p, -, rfl⟩ := List.mem_map.1 hx
    exact dpR_le (List.length_pos_iff.2 h0) p
theorem DA.err {a e : Int} {l : List Int} (h : DA fs c a e l) : (e = 0 ∧ a = 0) ∨ (e ≠ 0 ∧ l = []) := by
  rcases h with ⟨h1, rfl, rfl, rfl⟩ | ⟨rfl, rfl, rfl, rfl⟩ | ⟨h1, h0, p, hp, rfl, rfl, rfl⟩ | ⟨h1, h0, hp, rfl, rfl, rfl⟩
  · exact .inr ⟨by omega, rfl⟩
  · exact .inr ⟨by omega, rfl⟩
  · exact .inr ⟨hp.2.1.2, rfl⟩
  · exact .inl ⟨rfl, rfl⟩
end
end Go.Proofs.YtklamaibinjcmaaDoor

/-
  Verify: the document's list of what is to do, and its table, in memory.
-/
namespace Go.Proofs.YtklamaibinjcmaaDoor
open Go.RowKit
set_option maxRecDepth 100000
theorem info2i : (Tryd.prog.info? 102).map (fun i => (i.zero, i.size, i.bytes)) = some (some (.agg #[.int .i64 0, .int .i64 0]), 2, 16) := by kernel_rfl
/-- A list from which the first is taken away, and behind which one is put. -/
def Qr (W : World) (B : Nat) (v : Value) (l : List (Nat × Nat)) : Prop :=
  ∃ g o c cs, v = .slice (some ⟨g, o, none⟩) l.length c ∧ B ≤ g ∧ W.heap[g]? = some (.cells cs 102 (0, 0)) ∧ l.length ≤ c ∧ c ≤ maxLen ∧ (0 < c → o + c * 2 = cs.size) ∧ ∀ j u, (mz l)[j]? = some u → cs[o + j]? = some u
theorem Qr.later {W W' : World} {B : Nat} {v : Value} {l : List (Nat × Nat)} (h : Qr W B v l) (hb : Below W.heap.size W W') : Qr W' B v l := by
  obtain ⟨g, o, c, cs, h1, h2, h3, h4⟩ := h
  exact ⟨g, o, c, cs, h1, h2, (hb.block g (lt_of_block h3)).trans h3, h4⟩
theorem Qr.pop1 {W : World} {B g o o' : Nat} {m : Nat × Nat} {l : List (Nat × Nat)} {n : Nat} (h : Qr W B (.slice (some ⟨g, o, none⟩) n 1) (m :: l)) : l = [] ∧ n = 1 ∧ Qr W B (.slice (some ⟨g, o', none⟩) 0 0) [] := by
  obtain ⟨g', o2, c, cs, h1, h2, h3, h4, h5, h6, h7⟩ := h
  injection h1 with e1 e2 e3
  injection e1 with e1
  injection e1 with e1 e4
  subst e1 e2 e3 e4
  rw [List.length_cons] at h4
  have : l = [] := List.eq_nil_of_length_eq_zero (by omega)
  subst this
  exact ⟨rfl, rfl, g, o', 0, cs, rfl, h2, h3, Nat.le_refl _, Nat.zero_le _, fun h => absurd h (by omega), fun j u h => by simp [mz] at h⟩
theorem Qr.pop {W : World} {B g o c n : Nat} {m : Nat × Nat} {l : List (Nat × Nat)} (h : Qr W B (.slice (some ⟨g, o, none⟩) (n + 1) (c + 1)) (m :: l)) : Qr W B (.slice (some ⟨g, o + 2, none⟩) n c) l := by
  obtain ⟨g', o2, c', cs, h1, h2, h3, h4, h5, h6, h7⟩ := h
  injection h1 with e1 e2 e3
  injection e1 with e1
  injection e1 with e1 e4
  subst e1 e4
  rw [List.length_cons] at e2
  obtain rfl : n = l.length := by omega
  subst e3
  rw [List.length_cons] at h4
  refine ⟨g, o + 2, c, cs, rfl, h2, h3, by omega, by omega, fun _ => by have := h6 (by omega); omega, fun j u hj => ?_⟩
  have := h7 (j + 2) u (by simpa [mz] using hj)
  rwa [show o + 2 + j = o + (j + 2) by omega]
theorem Qr.head {W : World} {B g o c n : Nat} {p d : Nat} {l : List (Nat × Nat)} (h : Qr W B (.slice (some ⟨g, o, none⟩) n c) ((p, d) :: l)) : W.cell? ⟨g, o, none⟩ = some (.int .i64 (p : Int)) ∧ W.cell? ⟨g, o + 1, none⟩ = some (.int .i64 (d : Int)) := by
  obtain ⟨g', o2, c', cs, h1, h2, h3, h4, h5, h6, h7⟩ := h
  injection h1 with e1 e2 e3
  injection e1 with e1
  injection e1 with e1 e4
  subst e1 e4
  rw [cell_of_row W _ _ _ 102 (0, 0) h3, cell_of_row W _ _ _ 102 (0, 0) h3]
  exact ⟨h7 0 _ rfl, h7 1 _ rfl⟩
theorem Qr.form {W : World} {B : Nat} {v : Value} {l : List (Nat × Nat)} (h : Qr W B v l) : ∃ g o c, v = .slice (some ⟨g, o, none⟩) l.length c ∧ l.length ≤ c ∧ c ≤ 9223372036854775807 ∧ B ≤ g ∧ ∃ cs, W.heap[g]? = some (.cells cs 102 (0, 0)) := by
  obtain ⟨g, o, c, cs, h1, h2, h3, h4, h5, -⟩ := h
  exact ⟨g, o, c, h1, h4, by unfold maxLen at h5; omega, h2, cs, h3⟩
theorem run_append_roomAt {P : Program} (w : World) (t ty e : TypeId) (i : TypeInfo) (ht : P.underlying t = some (.slice e)) (hi : P.info? e = some i)
    (g o sLen sCap : Nat) (cur : Array Value) (hg : w.heap[g]? = some (.cells cur e (0, 0)))
    (a : Addr) (m c : Nat) (news : List Value) (hl : news.length = m * i.size) (hnews : ∀ j u, news[j]? = some u → w.cell? (a.add j) = some u) (h1 : ∀ u ∈ news, u.oneCell' = true)
    (hroom : sLen + m ≤ sCap) (hfit : o + sLen * i.size + news.length ≤ cur.size) :
    (Builtin.append_ #[t, t] ty #[.slice (some ⟨g, o, none⟩) sLen sCap, .slice (some a) m c]).run P w =
      .ok (.slice (some ⟨g, o, none⟩) (sLen + m) sCap) (w.setRow g (cur.toList.take (o + sLen * i.size) ++ news ++ cur.toList.drop (o + sLen * i.size + news.length)).toArray) := by
  have hf := run_firstCells_some (P := P) w i.size m a m c news hl hnews
  have hst := run_storeCells_at P g (o + sLen * i.size) e news 0 cur w hg (by simpa using hfit) h1
  simp only [Nat.add_zero] at hst
  simp [Builtin.append_, run_underlying ht, Go.sizeOf, typeInfo, hi, Builtin.lenOf, hroom, hf, Addr.add_lit, hst]
theorem mz_one (l : List (Nat × Nat)) : ∀ u ∈ mz l, u.oneCell' = true := by
  induction l with
  | nil => intro u hu; cases hu
  | cons m t ih =>
    intro u hu
    simp only [mz, List.mem_cons] at hu
    rcases hu with rfl | rfl | hu
    · rfl
    · rfl
    · exact ih u hu
theorem run_appendQ (w : World) (ty B : Nat) (v : Value) (l : List (Nat × Nat)) (hq : Qr w B v l) (ad : Addr) (c y b : Nat) (hy : ∀ j u, (mz [(y, b)])[j]? = some u → w.cell? (ad.add j) = some u) (hb : l.length ≤ 1000000) (hB : B ≤ w.heap.size) :
    ∃ v' w', (Builtin.append_ #[103, 103] ty #[v, .slice (some ad) 1 c]).run Tryd.prog w = .ok v' w' ∧ Qr w' B v' (l ++ [(y, b)]) ∧ w.grownBy w' v.ownBlock := by
  obtain ⟨i0, hi, hz0, hz1, hz2⟩ := info_parts info2i
  obtain ⟨g, o, k, cs, rfl, h2, h3, h4, h5, h6, h7⟩ := hq
  have hml := mz_len l
  by_cases hroom : l.length + 1 ≤ k
  · have hcs := h6 (by omega)
    have hlen2 : (mz [(y, b)]).length = 2 := rfl
    have hr := run_append_roomAt (P := Tryd.prog) w 103 ty 102 i0 Tryd.underlying103 hi g o l.length k cs h3 ad 1 c (mz [(y, b)]) (by rw [hz1]; rfl) hy (mz_one _) hroom (by rw [hz1, hlen2]; omega)
    refine ⟨_, _, hr, ⟨g, o, k, _, by rw [List.length_append, List.length_singleton], h2, setRow_heap w g cs _ 102 _ h3, by rw [List.length_append, List.length_singleton]; exact hroom, h5, fun h => ?_, fun j u hj => ?_⟩, ⟨rfl, rfl, rfl, by simp, fun j _ hj => setRow_other w g j _ (fun e => hj (by simp [Value.ownBlock, e]))⟩⟩
    · rw [hcs, hz1]
      simp only [List.size_toArray, List.length_append, List.length_take, List.length_drop, Array.length_toList, hlen2]
      omega
    · rw [hz1]
      rw [mz_append] at hj
      rw [List.getElem?_toArray]
      by_cases hjl : j < l.length * 2
      · rw [List.getElem?_append_left (by omega)] at hj
        have hx := h7 j u hj
        rw [List.append_assoc, List.getElem?_append_left (by rw [List.length_take, (Array.length_toList : cs.toList.length = cs.size)]; omega), List.getElem?_take_of_lt (by omega), (Array.getElem?_toList : cs.toList[o + j]? = cs[o + j]?)]
        exact hx
      · rw [List.getElem?_append_right (by omega), hml] at hj
        have hj2 := (List.getElem?_eq_some_iff.1 hj).1
        rw [hlen2] at hj2
        have hlt : (cs.toList.take (o + l.length * 2)).length = o + l.length * 2 := by rw [List.length_take, (Array.length_toList : cs.toList.length = cs.size)]; omega
        rw [List.append_assoc, List.getElem?_append_right (by omega), hlt, List.getElem?_append_left (by rw [hlen2]; omega), show o + j - (o + l.length * 2) = j - l.length * 2 by omega]
        exact hj
  · have hh : ∀ j u, (mz l)[j]? = some u → w.cell? ((⟨g, o, none⟩ : Addr).add j) = some u := fun j u hj => by
      rw [Addr.add_lit, cell_of_row w _ _ _ 102 (0, 0) h3]
      exact h7 j u hj
    have hr := run_append_grow (P := Tryd.prog) w 103 ty 102 i0 (.agg #[.int .i64 0, .int .i64 0]) Tryd.underlying103 hi hz0 ⟨g, o, none⟩ l.length k (mz l) (by rw [hz1]; exact hml) hh ad 1 c (mz [(y, b)]) (by rw [hz1]; rfl) hy (by omega) (by omega) (growslice_fits (by omega) (by rw [hz2]; omega))
    have hge := grownCap_ge w (l.length + 1) k 102
    have hcm : grownCap w (l.length + 1) k 102 ≤ maxLen := grownCap_le_maxLen w (l.length + 1) k 102 (by unfold maxLen; omega)
    refine ⟨_, _, hr, ⟨w.heap.size, 0, _, _, by rw [List.length_append, List.length_singleton], hB, heap_alloc_new w.drew _, by rw [List.length_append, List.length_singleton]; exact hge, hcm, fun _ => ?_, fun j u hj => ?_⟩, ⟨rfl, rfl, rfl, by simp, fun k hk _ => heap_alloc_old w.drew _ hk⟩⟩
    · simp only [Array.size_append, List.size_toArray, size_zeroCells, hml]
      have : (mz [(y, b)]).length = 2 := rfl
      rw [this]
      show 0 + _ * 2 = _ + (_ - _) * 2
      omega
    · rw [mz_append] at hj
      have hlt := (List.getElem?_eq_some_iff.1 hj).1
      rw [Nat.zero_add, Array.append_assoc, Array.getElem?_append]
      simp only [List.size_toArray]
      by_cases hjl : j < (mz l).length
      · rw [if_pos hjl, List.getElem?_toArray]
        rwa [List.getElem?_append_left hjl] at hj
      · rw [if_neg hjl, Array.getElem?_append]
        rw [List.getElem?_append_right (by omega)] at hj
        simp only [List.size_toArray]
        rw [if_pos (List.getElem?_eq_some_iff.1 hj).1, List.getElem?_toArray]
        exact hj
/-- At the operation. -/
theorem appendQ {w : World} {ops : Array Oper} {rest : List Oper} {o : Oper} {a : Act} {Q : Exit → Act → World → Prop} (hgd : o.guard = none) (s x : Operand)
    (ho : o.op = .call { callee := .builtin .append, args := #[s, x], argTypes := #[103, 103] })
    (B : Nat) (v : Value) (l : List (Nat × Nat)) (hs : a.eval s = v) (hq : Qr w B v l) (ad : Addr) (c y b : Nat) (hx : a.eval x = .slice (some ad) 1 c) (hy : ∀ j u, (mz [(y, b)])[j]? = some u → w.cell? (ad.add j) = some u) (hb : l.length ≤ 1000000) (hB : B ≤ w.heap.size)
    (h : ∀ v' w', Qr w' B v' (l ++ [(y, b)]) → w.grownBy w' v.ownBlock → wpList Tryd.prog ops Q rest (a.put o.dst v') w') :
    wpList Tryd.prog ops Q (o :: rest) a w := by
  refine wpList_plain hgd fun K hK => ?_
  obtain ⟨v', w', hr, h2, h3⟩ := run_appendQ w o.type B v l hq ad c y b hy hb hB
  unfold Oper.wp execOp
  simp only [ho, resolve, invoke, builtin, Sem.run_bind, Sem.run_pure, Result.andThen_ok, List.map_toArray, List.map_cons, List.map_nil, hs, hx, hr]
  exact hK _ _ (h v' w' h2 h3)
/-- The table of places and depths. -/
def Tm (W : World) (g n : Nat) (T : Nat → Nat → Bool) : Prop := ∃ cs, W.heap[g]? = some (.cells cs 71 (0, 0)) ∧ cs.size = n * 65 ∧ ∀ p d, p < n → d < 65 → cs[p * 65 + d]? = some (.bool (T p d))
theorem Tm.later {W W' : World} {g n : Nat} {T : Nat → Nat → Bool} (h : Tm W g n T) (hb : Below W.heap.size W W') : Tm W' g n T := by
  obtain ⟨cs, h1, h2⟩ := h
  exact ⟨cs, (hb.block g (lt_of_block h1)).trans h1, h2⟩
theorem Tm.at {W : World} {g n p d : Nat} {T : Nat → Nat → Bool} (h : Tm W g n T) (hp : p < n) (hd : d < 65) : W.cell? ⟨g, p * 65 + d, none⟩ = some (.bool (T p d)) ∧ W.frozen? ⟨g, p * 65 + d, none⟩ = false := by
  obtain ⟨cs, h1, h2, h3⟩ := h
  exact ⟨by rw [cell_of_row W _ _ _ 71 (0, 0) h1]; exact h3 p d hp hd, frozen_of_row W g _ _ 71 h1⟩
theorem Tm.put {W : World} {g n p d : Nat} {T : Nat → Nat → Bool} (h : Tm W g n T) (hp : p < n) (hd : d < 65) : Tm (W.setCell ⟨g, p * 65 + d, none⟩ (.bool true)) g n (putT T p d) := by
  obtain ⟨cs, h1, h2, h3⟩ := h
  refine ⟨_, heap_setCell_same W g _ _ 71 _ h1, by simpa using h2, fun q e hq he => ?_⟩
  have hq65 : q * 65 + 65 ≤ n * 65 := by have := Nat.mul_le_mul_right 65 (show q + 1 ≤ n by omega); omega
  rw [Array.getElem?_setIfInBounds]
  by_cases c : p * 65 + d = q * 65 + e
  · obtain ⟨rfl, rfl⟩ : p = q ∧ d = e := by omega
    rw [if_pos rfl, if_pos (by omega), putT_iff.2 (.inr ⟨rfl, rfl⟩)]
  · rw [if_neg c, h3 q e hq he]
    have : ¬ (q = p ∧ e = d) := fun ⟨x, y⟩ => c (by rw [x, y])
    congr 2
    unfold putT
    by_cases hqp : q = p
    · have : ¬ e = d := fun y => this ⟨hqp, y⟩
      simp [this]
    · simp [hqp]
theorem grown_kind {W W' : World} {B g : Nat} {v : Value} {l : List (Nat × Nat)} {cs : Array Value} {t : Nat} (hq : Qr W B v l) (hg : W.grownBy W' v.ownBlock) (h : W.heap[g]? = some (.cells cs t (0, 0))) (ht : t ≠ 102) : W'.heap[g]? = some (.cells cs t (0, 0)) := by
  obtain ⟨g', o, c, cs', rfl, -, h3, -⟩ := hq
  refine (hg.block g (lt_of_block h) (fun e => ?_)).trans h
  have e' : g = g' := by simpa [Value.ownBlock] using e
  subst e'
  rw [h3] at h
  injection h with h
  injection h with h5 h6
  exact ht h6.symm
end Go.Proofs.YtklamaibinjcmaaDoor

/-
  Verify: the document's next.
-/
namespace Go.Proofs.YtklamaibinjcmaaDoor
open Go.RowKit
set_option maxRecDepth 100000
theorem il_open {Q : Nat → Prop} {w : World} {vc : Value} {c : List Ins} (h : Il Q w vc c) (p : Nat) (hp : p < c.length) : ∃ g o co, vc = .slice (some ⟨g, o, none⟩) c.length co ∧ c.length ≤ co ∧ co ≤ 9223372036854775807 ∧ w.cell? ⟨g, o + p * 2, none⟩ = some (.int .i64 (iat c p).op) ∧ w.cell? ⟨g, o + p * 2 + 1, none⟩ = some (.int .i64 (iat c p).a) ∧ I6 (iat c p).op ∧ I6 (iat c p).a := by
  obtain ⟨ao, co, rfl, h1, h2⟩ := h.at
  obtain ⟨g, o, rfl, hq, d1, d2, i1, i2⟩ := h.nth hp
  rw [← iat_eq hp] at d1 d2 i1 i2
  exact ⟨g, o, co, rfl, h1, h2, d1, d2, i1, i2⟩
/-- Numbers in a new block. -/
theorem own_one (W : World) (x : Int) : (W.alloc (.cells #[.int .i64 x] 3)).ownsRow W.heap.size 3 1 (.slice (some ⟨W.heap.size, 0, none⟩) 1 1) 1 (zq [x]) := World.ownsRow_lit (e := 3) (size := 1) (base := W.heap.size) W #[.int .i64 x] 1 (Nat.le_refl _) (by unfold maxLen; omega) rfl
theorem own_two (W : World) (x y : Int) : (W.alloc (.cells #[.int .i64 x, .int .i64 y] 3)).ownsRow W.heap.size 3 1 (.slice (some ⟨W.heap.size, 0, none⟩) 2 2) 2 (zq [x, y]) := World.ownsRow_lit (e := 3) (size := 1) (base := W.heap.size) W #[.int .i64 x, .int .i64 y] 2 (Nat.le_refl _) (by unfold maxLen; omega) rfl
set_option maxHeartbeats 4000000 in
theorem dnext_any {Q : Nat → Prop} {w : World} {vc : Value} {c : List Ins} (h : Il Q w vc c) (p : Nat) (hp : p < c.length) (hc : c.length ≤ 2000) : Calls Tryd.prog 43 #[vc, .int .i64 (p : Int)] w fun e w' => ∃ v, e = .returned v ∧ w'.ownsRow w.heap.size 3 1 v (nextD c p).length (zq (nextD c p)) ∧ Below w.heap.size w w' := by
  obtain ⟨g, o, co, rfl, h1, h2, d1, d2, i1, i2⟩ := il_open h p hp
  unfold I6 at i2
  obtain ⟨op, hop⟩ : ∃ op, op = (iat c p).op := ⟨_, rfl⟩
  obtain ⟨av, hav⟩ : ∃ av, av = (iat c p).a := ⟨_, rfl⟩
  obtain ⟨n, hn⟩ : ∃ n, n = c.length := ⟨_, rfl⟩
  have HNX : Hid (nextD c p = if op = 22 ∨ op = 23 then [] else if op = 19 then (if 0 ≤ av ∧ av < (n : Int) then [av] else []) else if op = 20 then (if 0 ≤ av ∧ av < (n : Int) then [av, (p : Int) + 1] else [(p : Int) + 1]) else [(p : Int) + 1]) := by
    rw [hop, hav, hn]
    unfold Hid nextD thereI
    simp only [decide_eq_true_eq]
  rw [← hop] at d1 i1
  rw [← hav] at d2 i2
  rw [← hn] at h1 hp hc ⊢
  have hpn : (p : Int) < (n : Int) := by omega
  obtain ⟨L, hL⟩ : ∃ L, L = nextD c p := ⟨_, rfl⟩
  rw [← hL] at HNX ⊢
  have tw : IntKind.i64.wrap ((p : Int) + 1) = (p : Int) + 1 := by rw [IntKind.wrap_i64]; omega
  have tn : IntKind.i64.wrap (n : Int) = (n : Int) := by rw [IntKind.wrap_i64]; omega
  have ta : IntKind.i64.wrap av = av := by rw [IntKind.wrap_i64]; omega
  clear h hn hop hav hL i1
  by_cases c22 : op = 22
  · subst c22
    have HL : Hid (L = []) := HNX.out.trans (by simp)
    clear HNX
    go_enter Tryd.func43, Tryd.ntmps43
    go_wp2_with fail
    all_goals (go_ret; rw [HL.out]; exact ⟨_, rfl, World.ownsRow_nil _ _ _ _, Below.refl _ _⟩)
  · have b22 : (op == 22) = false := beq_eq_false_iff_ne.2 c22
    by_cases c23 : op = 23
    · subst c23
      have HL : Hid (L = []) := HNX.out.trans (by simp)
      clear HNX
      go_enter Tryd.func43, Tryd.ntmps43
      go_wp2_with fail
      all_goals (go_ret; rw [HL.out]; exact ⟨_, rfl, World.ownsRow_nil _ _ _ _, Below.refl _ _⟩)
    · have b23 : (op == 23) = false := beq_eq_false_iff_ne.2 c23
      rw [if_neg (by omega)] at HNX
      by_cases c19 : op = 19
      · subst c19
        rw [if_pos rfl] at HNX
        by_cases th : 0 ≤ av ∧ av < (n : Int)
        · have HL : Hid (L = [av]) := HNX.out.trans (if_pos th)
          obtain ⟨th1, th2⟩ := th
          clear HNX
          go_enter Tryd.func43, Tryd.ntmps43
          go_wp2_with fail
          all_goals (go_ret; rw [HL.out]; exact ⟨_, rfl, own_one w _, below_alloc w _⟩)
        · have HL : Hid (L = []) := HNX.out.trans (if_neg th)
          clear HNX
          by_cases t1 : 0 ≤ av
          · have t2 : ¬ av < (n : Int) := fun e => th ⟨t1, e⟩
            clear th
            go_enter Tryd.func43, Tryd.ntmps43
            go_wp2_with fail
            all_goals (go_ret; rw [HL.out]; exact ⟨_, rfl, World.ownsRow_nil _ _ _ _, Below.refl _ _⟩)
          · clear th
            go_enter Tryd.func43, Tryd.ntmps43
            go_wp2_with fail
            all_goals (go_ret; rw [HL.out]; exact ⟨_, rfl, World.ownsRow_nil _ _ _ _, Below.refl _ _⟩)
      · have b19 : (op == 19) = false := beq_eq_false_iff_ne.2 c19
        rw [if_neg c19] at HNX
        by_cases c20 : op = 20
        · subst c20
          rw [if_pos rfl] at HNX
          by_cases th : 0 ≤ av ∧ av < (n : Int)
          · have HL : Hid (L = [av, (p : Int) + 1]) := HNX.out.trans (if_pos th)
            obtain ⟨th1, th2⟩ := th
            clear HNX
            go_enter Tryd.func43, Tryd.ntmps43
            go_wp2_with fail
            all_goals (go_ret; rw [HL.out]; exact ⟨_, rfl, own_two w _ _, below_alloc w _⟩)
          · have HL : Hid (L = [(p : Int) + 1]) := HNX.out.trans (if_neg th)
            clear HNX
            by_cases t1 : 0 ≤ av
            · have t2 : ¬ av < (n : Int) := fun e => th ⟨t1, e⟩
              clear th
              go_enter Tryd.func43, Tryd.ntmps43
              go_wp2_with fail
              all_goals (go_ret; rw [HL.out]; exact ⟨_, rfl, own_one w _, below_alloc w _⟩)
            · clear th
              go_enter Tryd.func43, Tryd.ntmps43
              go_wp2_with fail
              all_goals (go_ret; rw [HL.out]; exact ⟨_, rfl, own_one w _, below_alloc w _⟩)
        · have b20 : (op == 20) = false := beq_eq_false_iff_ne.2 c20
          have HL : Hid (L = [(p : Int) + 1]) := HNX.out.trans (if_neg c20)
          clear HNX
          go_enter Tryd.func43, Tryd.ntmps43
          go_wp2_with fail
          all_goals (go_ret; rw [HL.out]; exact ⟨_, rfl, own_one w _, below_alloc w _⟩)
end Go.Proofs.YtklamaibinjcmaaDoor

/-
  The document's table.
-/
namespace Go.Proofs.YtklamaibinjcmaaDoor
open Go.RowKit
set_option maxRecDepth 100000
/-- What the document's row says of what is taken: below 0, by its A. -/
def tkD (k : Nat) : Int := if k = 21 then -1 else if k = 26 ∨ k = 28 then -2 else (tak k : Int)
/-- The document's table at its place. -/
def Td (W : World) (g : Nat) : Prop := ∀ k, k < 40 → W.cell? ⟨g, k * 4, none⟩ = some (.string (wd k)) ∧ W.cell? ⟨g, k * 4 + 1, none⟩ = some (.bool (numb k)) ∧ W.cell? ⟨g, k * 4 + 2, none⟩ = some (.int .i64 (tkD k)) ∧ W.cell? ⟨g, k * 4 + 3, none⟩ = some (.int .i64 (pts k : Int))
def tabC : Array Value := #[
  .string ⟨#[]⟩, .bool false, .int .i64 0, .int .i64 0,
  .string ⟨#[112, 117, 115, 104]⟩, .bool true, .int .i64 0, .int .i64 1,
  .string ⟨#[108, 111, 97, 100]⟩, .bool true, .int .i64 0, .int .i64 1,
  .string ⟨#[115, 116, 111, 114, 101]⟩, .bool true, .int .i64 1, .int .i64 0,
  .string ⟨#[102, 105, 101, 108, 100]⟩, .bool true, .int .i64 0, .int .i64 1,
  .string ⟨#[112, 117, 116]⟩, .bool true, .int .i64 1, .int .i64 0,
  .string ⟨#[97, 100, 100]⟩, .bool false, .int .i64 2, .int .i64 1,
  .string ⟨#[115, 117, 98]⟩, .bool false, .int .i64 2, .int .i64 1,
  .string ⟨#[109, 117, 108]⟩, .bool false, .int .i64 2, .int .i64 1,
  .string ⟨#[100, 105, 118]⟩, .bool false, .int .i64 2, .int .i64 1,
  .string ⟨#[114, 101, 109]⟩, .bool false, .int .i64 2, .int .i64 1,
  .string ⟨#[110, 101, 103]⟩, .bool false, .int .i64 1, .int .i64 1,
  .string ⟨#[101, 113]⟩, .bool false, .int .i64 2, .int .i64 1,
  .string ⟨#[110, 101]⟩, .bool false, .int .i64 2, .int .i64 1,
  .string ⟨#[108, 116]⟩, .bool false, .int .i64 2, .int .i64 1,
  .string ⟨#[108, 101]⟩, .bool false, .int .i64 2, .int .i64 1,
  .string ⟨#[103, 116]⟩, .bool false, .int .i64 2, .int .i64 1,
  .string ⟨#[103, 101]⟩, .bool false, .int .i64 2, .int .i64 1,
  .string ⟨#[110, 111, 116]⟩, .bool false, .int .i64 1, .int .i64 1,
  .string ⟨#[106, 117, 109, 112]⟩, .bool true, .int .i64 0, .int .i64 0,
  .string ⟨#[122, 101, 114, 111]⟩, .bool true, .int .i64 1, .int .i64 0,
  .string ⟨#[99, 97, 108, 108]⟩, .bool true, .int .i64 (-1), .int .i64 1,
  .string ⟨#[114, 101, 116]⟩, .bool false, .int .i64 1, .int .i64 0,
  .string ⟨#[115, 116, 111, 112]⟩, .bool false, .int .i64 0, .int .i64 0,
  .string ⟨#[115, 116, 101, 112]⟩, .bool false, .int .i64 0, .int .i64 0,
  .string ⟨#[101, 109, 105, 116]⟩, .bool false, .int .i64 2, .int .i64 0,
  .string ⟨#[112, 97, 114, 116]⟩, .bool true, .int .i64 (-2), .int .i64 0,
  .string ⟨#[115, 112, 97, 119, 110]⟩, .bool false, .int .i64 0, .int .i64 0,
  .string ⟨#[103, 105, 118, 101]⟩, .bool true, .int .i64 (-2), .int .i64 0,
  .string ⟨#[116, 97, 107, 101]⟩, .bool true, .int .i64 0, .int .i64 0,
  .string ⟨#[100, 105, 101]⟩, .bool false, .int .i64 0, .int .i64 0,
  .string ⟨#[114, 97, 110, 100]⟩, .bool false, .int .i64 1, .int .i64 1,
  .string ⟨#[116, 105, 99, 107]⟩, .bool false, .int .i64 0, .int .i64 1,
  .string ⟨#[109, 101]⟩, .bool false, .int .i64 0, .int .i64 1,
  .string ⟨#[105, 110, 112, 117, 116]⟩, .bool false, .int .i64 2, .int .i64 1,
  .string ⟨#[104, 97, 115]⟩, .bool true, .int .i64 0, .int .i64 1,
  .string ⟨#[109, 105, 110]⟩, .bool false, .int .i64 2, .int .i64 1,
  .string ⟨#[109, 97, 120]⟩, .bool false, .int .i64 2, .int .i64 1,
  .string ⟨#[97, 98, 115]⟩, .bool false, .int .i64 1, .int .i64 1,
  .string ⟨#[100, 114, 111, 112]⟩, .bool false, .int .i64 1, .int .i64 0
  ]
theorem tabC_at : ∀ k, k < 40 → tabC[k * 4]? = some (.string (wd k)) ∧ tabC[k * 4 + 1]? = some (.bool (numb k)) ∧ tabC[k * 4 + 2]? = some (.int .i64 (tkD k)) ∧ tabC[k * 4 + 3]? = some (.int .i64 (pts k : Int))
  | 0, _ => ⟨rfl, rfl, rfl, rfl⟩
  | 1, _ => ⟨rfl, rfl, rfl, rfl⟩
  | 2, _ => ⟨rfl, rfl, rfl, rfl⟩
  | 3, _ => ⟨rfl, rfl, rfl, rfl⟩
  | 4, _ => ⟨rfl, rfl, rfl, rfl⟩
  | 5, _ => ⟨rfl, rfl, rfl, rfl⟩
  | 6, _ => ⟨rfl, rfl, rfl, rfl⟩
  | 7, _ => ⟨rfl, rfl, rfl, rfl⟩
  | 8, _ => ⟨rfl, rfl, rfl, rfl⟩
  | 9, _ => ⟨rfl, rfl, rfl, rfl⟩
  | 10, _ => ⟨rfl, rfl, rfl, rfl⟩
  | 11, _ => ⟨rfl, rfl, rfl, rfl⟩
  | 12, _ => ⟨rfl, rfl, rfl, rfl⟩
  | 13, _ => ⟨rfl, rfl, rfl, rfl⟩
  | 14, _ => ⟨rfl, rfl, rfl, rfl⟩
  | 15, _ => ⟨rfl, rfl, rfl, rfl⟩
  | 16, _ => ⟨rfl, rfl, rfl, rfl⟩
  | 17, _ => ⟨rfl, rfl, rfl, rfl⟩
  | 18, _ => ⟨rfl, rfl, rfl, rfl⟩
  | 19, _ => ⟨rfl, rfl, rfl, rfl⟩
  | 20, _ => ⟨rfl, rfl, rfl, rfl⟩
  | 21, _ => ⟨rfl, rfl, rfl, rfl⟩
  | 22, _ => ⟨rfl, rfl, rfl, rfl⟩
  | 23, _ => ⟨rfl, rfl, rfl, rfl⟩
  | 24, _ => ⟨rfl, rfl, rfl, rfl⟩
  | 25, _ => ⟨rfl, rfl, rfl, rfl⟩
  | 26, _ => ⟨rfl, rfl, rfl, rfl⟩
  | 27, _ => ⟨rfl, rfl, rfl, rfl⟩
  | 28, _ => ⟨rfl, rfl, rfl, rfl⟩
  | 29, _ => ⟨rfl, rfl, rfl, rfl⟩
  | 30, _ => ⟨rfl, rfl, rfl, rfl⟩
  | 31, _ => ⟨rfl, rfl, rfl, rfl⟩
  | 32, _ => ⟨rfl, rfl, rfl, rfl⟩
  | 33, _ => ⟨rfl, rfl, rfl, rfl⟩
  | 34, _ => ⟨rfl, rfl, rfl, rfl⟩
  | 35, _ => ⟨rfl, rfl, rfl, rfl⟩
  | 36, _ => ⟨rfl, rfl, rfl, rfl⟩
  | 37, _ => ⟨rfl, rfl, rfl, rfl⟩
  | 38, _ => ⟨rfl, rfl, rfl, rfl⟩
  | 39, _ => ⟨rfl, rfl, rfl, rfl⟩
  | k + 40, h => absurd h (by omega)
theorem wp_buildSliceTo {P : Program} {o : Oper} {a : Act} {w : World} {K : Act → World → Prop} {Q : Exit → Act → World → Prop} (t e : TypeId) (len : Nat) (parts : Array (Nat × Operand)) (ho : o.op = .buildSlice t len parts)
    (hu : P.underlying t = some (.slice e)) (cells : Array Value)
    (hf : P.builtSlice e len (parts.map fun (i, x) => (i, a.eval x)).toList = some cells)
    (h : K (a.put o.dst (.slice (some ⟨w.heap.size, 0, none⟩) len len)) (w.alloc (.cells cells e))) : o.wp P a w K Q := by
  unfold Program.builtSlice at hf
  cases hie : P.info? e with
  | none => simp [hie] at hf
  | some ie =>
    simp only [hie] at hf
    cases hz : ie.zero with
    | none => simp [hz] at hf
    | some z =>
      simp only [hz] at hf
      by_cases hc : len * ie.size > 2 ^ 24 ∨ len * ie.size = 0
      · simp [hc] at hf
      · rw [if_neg hc] at hf
        exact wp_buildSlice t e len parts ho cells ie z hu hie hz (fun h' => hc (Or.inl h')) (fun h' => hc (Or.inr h')) hf h
set_option maxHeartbeats 2000000 in
theorem table_at (w : World) : Calls Tryd.prog 67 #[] w fun e w' => e = .returned (.slice (some ⟨w.heap.size, 0, none⟩) 40 40) ∧ w' = w.alloc (.cells tabC 146) := by
  obtain ⟨tc, htc⟩ : ∃ t, t = tabC := ⟨_, rfl⟩
  rw [← htc]
  have HT := hide htc
  clear htc
  go_enter Tryd.func67, Tryd.ntmps67
  go_wp2_with fail
  refine wp_buildSliceTo 147 146 40 _ rfl Tryd.underlying147 tc (by rw [HT.out]; kernel_rfl) ?_
  clear HT
  go_wp2_with fail
  go_ret
  exact ⟨rfl, rfl⟩
theorem table_any (w : World) : Calls Tryd.prog 67 #[] w fun e w' => e = .returned (.slice (some ⟨w.heap.size, 0, none⟩) 40 40) ∧ Below w.heap.size w w' ∧ Td w' w.heap.size := by
  refine (table_at w).mono ?_
  rintro e w' ⟨rfl, rfl⟩
  refine ⟨rfl, below_alloc w _, fun k hk => ?_⟩
  obtain ⟨a, b, c, d⟩ := tabC_at k hk
  have hn := heap_alloc_new w (.cells tabC 146)
  exact ⟨(cell_of_row _ _ _ _ 146 (0, 0) hn).trans a, (cell_of_row _ _ _ _ 146 (0, 0) hn).trans b, (cell_of_row _ _ _ _ 146 (0, 0) hn).trans c, (cell_of_row _ _ _ _ 146 (0, 0) hn).trans d⟩
end Go.Proofs.YtklamaibinjcmaaDoor

/-
  The document's IsOp, Name, Number.
-/
namespace Go.Proofs.YtklamaibinjcmaaDoor
open Go.RowKit
set_option maxRecDepth 100000
theorem disop_any (op : Int) (w : World) : Calls Tryd.prog 66 #[.int .i64 op] w fun e w' => e = .returned (.bool (decide (1 ≤ op ∧ op ≤ 39))) ∧ w' = w := by
  by_cases h : 1 ≤ op
  · go_enter Tryd.func66, Tryd.ntmps66
    go_wp2_with fail
    go_ret
    exact ⟨ret_bool (by simp [h]), rfl⟩
  · go_enter Tryd.func66, Tryd.ntmps66
    go_wp2_with fail
    go_ret
    exact ⟨ret_bool (by simp; omega), rfl⟩
end Go.Proofs.YtklamaibinjcmaaDoor

/-
  The document's Effect.
-/
namespace Go.Proofs.YtklamaibinjcmaaDoor
open Go.RowKit
set_option maxRecDepth 100000
theorem cell_later {W W' : World} {a : Addr} {v : Value} (h : W.cell? a = some v) (hb : Below W.heap.size W W') : W'.cell? a = some v := (hb.cell (World.block_lt_of_cell? W _ h)).trans h
def TdK (W : World) (g k : Nat) : Prop := W.cell? ⟨g, k * 4, none⟩ = some (.string (wd k)) ∧ W.cell? ⟨g, k * 4 + 1, none⟩ = some (.bool (numb k)) ∧ W.cell? ⟨g, k * 4 + 2, none⟩ = some (.int .i64 (tkD k)) ∧ W.cell? ⟨g, k * 4 + 3, none⟩ = some (.int .i64 (pts k : Int))
theorem size_alloc2 (W : World) (o : Obj) : (W.alloc o).drew.heap.size = W.heap.size + 1 := Array.size_push ..
theorem td_alloc {W : World} {g : Nat} (h : Td W g) (o : Obj) : Td (W.alloc o) g := fun k hk => by
  obtain ⟨a, b, c, d⟩ := h k hk
  have hb := below_alloc W o
  exact ⟨cell_later a hb, cell_later b hb, cell_later c hb, cell_later d hb⟩
/-- What Effect knows behind its row. -/
def EfS (W : World) (B : Nat) (op a : Int) (k : Nat) (u : Value) (w' : World) : Prop := ∃ r, u = .pointer (some ⟨r, 0, none⟩) ∧ Below W.heap.size W w' ∧ w'.cell? ⟨B, 0, none⟩ = some (.int .i64 op) ∧ w'.cell? ⟨B, 1, none⟩ = some (.int .i64 a) ∧ w'.cell? ⟨r, 2, none⟩ = some (.int .i64 (tkD k)) ∧ w'.cell? ⟨r, 3, none⟩ = some (.int .i64 (pts k : Int))
theorem wpAnyH_more {P : Program} {md : Region.Mode} {ops : Array Oper} {Q : Exit → Act → World → Prop} {S S' : World → Prop} (h : ∀ w, S' w → S w) :
    ∀ (fuel : Nat) (listed : Array Bool) (a : Act) (w : World), wpAnyH P md ops Q S' fuel listed a w → wpAnyH P md ops Q S fuel listed a w
  | 0, _, _, _, hw => hw
  | fuel + 1, _, _, _, hw => ⟨hw.1, fun i hi => wpOp_mono (fun _ _ hk => ⟨h _ hk.1, wpAnyH_more h fuel _ _ _ hk.2⟩) (hw.2 i hi)⟩
theorem rowBelow {W w' : World} {x0 x1 x2 x3 : Value} {T : Nat} (hb : Below (W.alloc (.cells #[x0, x1, x2, x3] T)).drew.heap.size (W.alloc (.cells #[x0, x1, x2, x3] T)).drew w') : w'.cell? ⟨W.heap.size, 0, none⟩ = some x0 ∧ w'.cell? ⟨W.heap.size, 1, none⟩ = some x1 ∧ w'.cell? ⟨W.heap.size, 2, none⟩ = some x2 ∧ w'.cell? ⟨W.heap.size, 3, none⟩ = some x3 ∧ (∀ j, w'.frozen? ⟨W.heap.size, j, none⟩ = false) ∧ Hid (w'.heap[W.heap.size]? = some (.cells #[x0, x1, x2, x3] T (0, 0))) := by
  have n : (W.alloc (.cells #[x0, x1, x2, x3] T)).drew.heap[W.heap.size]? = some (.cells #[x0, x1, x2, x3] T (0, 0)) := heap_alloc_new W (.cells #[x0, x1, x2, x3] T)
  have n' := (hb.block _ (lt_of_block n)).trans n
  refine ⟨?_, ?_, ?_, ?_, fun j => frozen_of_row w' _ j _ T n', n'⟩ <;> rw [cell_of_row w' _ _ _ T (0, 0) n'] <;> rfl
theorem set4 {w : World} {t T : Nat} {y0 y1 y2 y3 : Value} (n : w.heap[t]? = some (.cells #[y0, y1, y2, y3] T (0, 0))) (x0 x1 x2 x3 : Value) :
    ((((w.setCell ⟨t, 0, none⟩ x0).setCell ⟨t, 1, none⟩ x1).setCell ⟨t, 2, none⟩ x2).setCell ⟨t, 3, none⟩ x3).heap[t]? = some (.cells #[x0, x1, x2, x3] T (0, 0)) ∧
    Mv w ((((w.setCell ⟨t, 0, none⟩ x0).setCell ⟨t, 1, none⟩ x1).setCell ⟨t, 2, none⟩ x2).setCell ⟨t, 3, none⟩ x3) (fun j => j = t) :=
  ⟨heap_setCell_same _ t 3 _ T _ (heap_setCell_same _ t 2 _ T _ (heap_setCell_same _ t 1 _ T _ (heap_setCell_same w t 0 _ T _ n))), ((((Mv.refl w (fun j => j = t)).set (g := t) rfl 0 x0).set (g := t) rfl 1 x1).set (g := t) rfl 2 x2).set (g := t) rfl 3 x3⟩
theorem ef_row {w1 w : World} {B r k : Nat} {op a : Int} {x0 x1 : Value} {T : Nat} (hb : Below w1.heap.size w1 w) (c0 : w.cell? ⟨B, 0, none⟩ = some (.int .i64 op)) (c1 : w.cell? ⟨B, 1, none⟩ = some (.int .i64 a)) (n : w.heap[r]? = some (.cells #[x0, x1, .int .i64 (tkD k), .int .i64 (pts k : Int)] T (0, 0))) : EfS w1 B op a k (.pointer (some ⟨r, 0, none⟩)) w :=
  ⟨r, rfl, hb, c0, c1, by rw [cell_of_row w _ _ _ T (0, 0) n]; rfl, by rw [cell_of_row w _ _ _ T (0, 0) n]; rfl⟩
set_option maxHeartbeats 2000000 in
theorem deffect_any {Q : Nat → Prop} {W : World} {v : Value} {fs : List Rt} (h : Rts Q W v fs) (i : Ins) : Calls Tryd.prog 42 #[insV i, v] W fun e w' => e = .returned (.tuple #[.int .i64 (takE fs i), .int .i64 (putE i)]) ∧ Below W.heap.size W w' := by
  obtain ⟨op, a⟩ := i
  obtain ⟨w0, hw0⟩ : ∃ X, X = W.alloc (.cells #[.int .i64 op, .int .i64 a] 47) := ⟨_, rfl⟩
  have B0 : Below W.heap.size W w0 := hw0 ▸ below_alloc W _
  have n1 : w0.heap[W.heap.size]? = some (.cells #[.int .i64 op, .int .i64 a] 47 (0, 0)) := by rw [hw0]; exact heap_alloc_new W _
  have HB := hide B0
  have N1 := hide n1
  have H := hide h
  clear B0 h
  obtain ⟨B, hB⟩ : ∃ B, B = W.heap.size := ⟨_, rfl⟩
  rw [← hB] at n1
  have c0 : w0.cell? ⟨B, 0, none⟩ = some (.int .i64 op) := by rw [cell_of_row w0 _ _ _ 47 (0, 0) n1]; rfl
  have c1 : w0.cell? ⟨B, 1, none⟩ = some (.int .i64 a) := by rw [cell_of_row w0 _ _ _ 47 (0, 0) n1]; rfl
  have hBlt := lt_of_block n1
  have i1 := hide (disop_any op)
  clear n1
  obtain ⟨te, hte⟩ : ∃ t, t = takE fs ⟨op, a⟩ := ⟨_, rfl⟩
  obtain ⟨pe, hpe⟩ : ∃ t, t = putE ⟨op, a⟩ := ⟨_, rfl⟩
  rw [← hte, ← hpe]
  have TE := hide hte
  have PE := hide hpe
  clear hte hpe
  unfold takE at TE
  unfold putE at PE
  unfold insV
  dsimp only at TE PE ⊢
  by_cases hop : 1 ≤ op ∧ op ≤ 39
  · have t1 : decide (1 ≤ op ∧ op ≤ 39) = true := by simp [hop]
    rw [t1] at i1
    rw [opk_in hop] at TE PE
    obtain ⟨k, hk⟩ : ∃ k : Nat, k = op.toNat := ⟨_, rfl⟩
    rw [← hk] at TE PE
    have hk40 : k < 40 := by omega
    obtain rfl : op = (k : Int) := by omega
    clear hk t1
    go_enter Tryd.func42, Tryd.ntmps42
    go_upto_region 1 with fail
    rw [← hw0, ← hB]
    have HB0 := hide hw0
    clear hw0 hB
    go_wp2_with fail
    refine (i1.out _).mono ?_
    rintro e w1 ⟨rfl, rfl⟩
    go_upto_region 4 with fail
    go_cut [7] (fun u wx => EfS w1 B k a k u wx)
    case first =>
      have nn := World.new_ne w1 ⟨B, 0, none⟩ c0
      have c0' : w1.drew.cell? ⟨B, 0, none⟩ = some (.int .i64 (k : Int)) := c0
      have c1' : w1.drew.cell? ⟨B, 1, none⟩ = some (.int .i64 a) := c1
      have cA : Hid (∀ o, (w1.alloc o).drew.cell? ⟨B, 0, none⟩ = some (.int .i64 (k : Int))) := fun o => cell_later c0 (below_on (below_alloc w1 o) (below_drew _))
      have cA1 : Hid (∀ o, (w1.alloc o).drew.cell? ⟨B, 1, none⟩ = some (.int .i64 a)) := fun o => cell_later c1 (below_on (below_alloc w1 o) (below_drew _))
      have ne1 : ¬ (w1.heap.size + 1 = w1.heap.size) := by omega
      have neB : ¬ (B = w1.heap.size) := by omega
      have k0 : (0 : Int) ≤ (k : Int) := by omega
      have k1 : (k : Int) < 40 := by omega
      have k2 : (k : Int).toNat = k := by omega
      refine wp_region_noPanic ?_
      refine wp_region_held_drew (S := fun Wq => Wq.cell? ⟨B, 0, none⟩ = some (.int .i64 (k : Int))) (by kernel_rfl) (c0') (fun hHeld => ?_)
      refine' wpAnyH_take (i := 1) (oi := { dst := some 14, op := Go.Op.fieldAddr 47 (Go.Operand.tmp 2) 0, type := 0, pos := "code.go:62", after := #[], guard := none }) (v := _) rfl (by kernel_rfl) (by kernel_rfl) (by kernel_rfl) (fun _ _ _ h => h) (Or.inl ⟨by rfl, ?hyr1_1⟩) (by assumption) ?rer1_1
      case hyr1_1 => (intro W hSw; (try dsimp only at hSw); go_simp; try with_reducible rfl)
      try simp only [Act.put, List.setIfInBounds_toArray, List.set_cons_zero, List.set_cons_succ]
      refine' wpAnyH_take (i := 2) (oi := { dst := some 15, op := Go.Op.load 3 (Go.Operand.tmp 14), type := 3, pos := "code.go:62", after := #[{ on := 1, ground := Go.Ground.data }], guard := none }) (v := _) rfl (by kernel_rfl) (by kernel_rfl) (by kernel_rfl) (fun _ _ _ h => h) (Or.inl ⟨by rfl, ?hyr1_2⟩) (by assumption) ?rer1_2
      case hyr1_2 => (intro W hSw; (try dsimp only at hSw); go_simp; try with_reducible rfl)
      try simp only [Act.put, List.setIfInBounds_toArray, List.set_cons_zero, List.set_cons_succ]
      refine wpAnyH_ready (rs := [0, 5]) (by kernel_rfl) (by simp) ?_
      refine AllReadyH.cons (o := { dst := some 13, op := Go.Op.call { callee := Go.Callee.value (Go.Operand.func 67), args := #[], argTypes := #[] }, type := 147, pos := "code.go:62", after := #[], guard := none }) rfl (fun K hK => ?_) (AllReadyH.cons (o := { dst := some 7, op := Go.Op.alloc 146, type := 0, pos := "code.go:62", after := #[], guard := none }) rfl (fun K hK => ?_) AllReadyH.nil)
      · clear hHeld
        go_simp
        refine (table_any w1.drew).mono ?_
        rintro e w2 ⟨rfl, hb2, ht2⟩
        obtain ⟨d0, d1, d2, d3⟩ : TdK w2 w1.heap.size k := ht2 k hk40
        have cB := cell_later c0' hb2
        have cB1 := cell_later c1' hb2
        have HB2 := hide (below_on (below_drew w1) hb2)
        clear ht2 hb2
        refine hK.out _ _ cB (fun hHeld => ?_)
        clear hK K hHeld
        try simp only [Act.put, List.setIfInBounds_toArray, List.set_cons_zero, List.set_cons_succ]
        have hHeld := Below.refl w2.heap.size w2
        refine wpAnyH_more (S' := fun Wq => Below w2.heap.size w2 Wq) (fun Wq hW => cell_later cB hW) _ _ _ _ ?_
        refine' wpAnyH_take (i := 3) (oi := { dst := some 16, op := Go.Op.indexAddr 147 (Go.Operand.tmp 13) (Go.Operand.tmp 15), type := 0, pos := "code.go:62", after := #[{ on := 0, ground := Go.Ground.data }, { on := 2, ground := Go.Ground.data }], guard := none }) (v := _) rfl (by kernel_rfl) (by kernel_rfl) (by kernel_rfl) (fun _ _ _ h => h) (Or.inl ⟨by rfl, ?hyq1⟩) (by assumption) ?req1
        case hyq1 => (intro W hSw; (try dsimp only at hSw); go_simp; try with_reducible rfl)
        try simp only [Act.put, List.setIfInBounds_toArray, List.set_cons_zero, List.set_cons_succ]
        refine' wpAnyH_take (i := 4) (oi := { dst := some 17, op := Go.Op.load 146 (Go.Operand.tmp 16), type := 146, pos := "code.go:62", after := #[{ on := 3, ground := Go.Ground.data }], guard := none }) (v := _) rfl (by kernel_rfl) (by kernel_rfl) (by kernel_rfl) (fun _ _ _ h => h) (Or.inl ⟨by rfl, ?hyq2⟩) (by assumption) ?req2
        case hyq2 => (intro W hSw; (try dsimp only at hSw); have z0 := cell_later d0 hSw; have z1 := cell_later d1 hSw; have z2 := cell_later d2 hSw; have z3 := cell_later d3 hSw; go_simp; try with_reducible rfl)
        try simp only [Act.put, List.setIfInBounds_toArray, List.set_cons_zero, List.set_cons_succ]
        refine wpAnyH_ready (rs := [5]) (by kernel_rfl) (by simp) ?_
        refine AllReadyH.cons (o := { dst := some 7, op := Go.Op.alloc 146, type := 0, pos := "code.go:62", after := #[], guard := none }) rfl (fun K hK => ?_) AllReadyH.nil
        clear hHeld
        go_simp
        refine hK.out _ _ (below_alloc w2 _) (fun hHeld => ?_)
        clear hK K
        try simp only [Act.put, List.setIfInBounds_toArray, List.set_cons_zero, List.set_cons_succ]
        refine wpAnyH_ready (rs := [6]) (by kernel_rfl) (by simp) ?_
        refine AllReadyH.cons (o := { dst := none, op := Go.Op.store 146 (Go.Operand.tmp 7) (Go.Operand.tmp 17), type := 0, pos := "code.go:62", after := #[{ on := 5, ground := Go.Ground.data }, { on := 4, ground := Go.Ground.data }, { on := 0, ground := Go.Ground.chain }, { on := 0, ground := Go.Ground.phase }, { on := 1, ground := Go.Ground.phase }, { on := 2, ground := Go.Ground.phase }, { on := 3, ground := Go.Ground.phase }, { on := 4, ground := Go.Ground.phase }, { on := 5, ground := Go.Ground.phase }], guard := none }) rfl (fun K hK => ?_) AllReadyH.nil
        clear hHeld
        go_simp
        refine hK.out _ _ (below_alloc w2 _) (fun hHeld => ?_)
        clear hK K
        try simp only [Act.put, List.setIfInBounds_toArray, List.set_cons_zero, List.set_cons_succ]
        refine wpAnyH_done (by kernel_rfl) ?_ _
        have G := ef_row (w1 := w1) (k := k) (below_on HB2.out (below_alloc w2 _)) (cell_later cB (below_alloc w2 _)) (cell_later cB1 (below_alloc w2 _)) (heap_alloc_new w2 (.cells #[.string (wd k), .bool (numb k), .int .i64 (tkD k), .int .i64 (pts k : Int)] 146))
        have GG := hide G
        clear G
        refine NoPanic.normal ?_
        go_wp2_with fail
        go_meet
        exact GG.out
      · clear hHeld
        go_simp
        refine hK.out _ _ (cA.out _) (fun hHeld => ?_)
        clear hK K
        try simp only [Act.put, List.setIfInBounds_toArray, List.set_cons_zero, List.set_cons_succ]
        refine wpAnyH_ready (rs := [0]) (by kernel_rfl) (by simp) ?_
        refine AllReadyH.cons (o := { dst := some 13, op := Go.Op.call { callee := Go.Callee.value (Go.Operand.func 67), args := #[], argTypes := #[] }, type := 147, pos := "code.go:62", after := #[], guard := none }) rfl (fun K hK => ?_) AllReadyH.nil
        clear hHeld
        go_simp
        refine (table_any _).mono ?_
        rintro e w2 ⟨rfl, hb2, ht2⟩
        rw [size_alloc2] at ht2 ⊢
        obtain ⟨d0, d1, d2, d3⟩ : TdK w2 (w1.heap.size + 1) k := ht2 k hk40
        have cB := cell_later (cA.out _) hb2
        have cB1 := cell_later (cA1.out _) hb2
        have HB2 := hide (below_on (below_on (below_alloc w1 _) (below_drew _)) hb2)
        have RB := rowBelow hb2
        clear ht2 hb2
        obtain ⟨f0, f1, f2, f3, z0, N2⟩ := RB
        refine hK.out _ _ cB (fun hHeld => ?_)
        clear hK K hHeld
        try simp only [Act.put, List.setIfInBounds_toArray, List.set_cons_zero, List.set_cons_succ]
        obtain ⟨nq, mq⟩ := set4 N2.out (.string (wd k)) (.bool (numb k)) (.int .i64 (tkD k)) (.int .i64 (pts k : Int))
        have NQ := hide nq
        have MQ := hide mq
        clear nq mq
        have hHeld : w2.cell? ⟨B, 0, none⟩ = some (.int .i64 (k : Int)) ∧ TdK w2 (w1.heap.size + 1) k := ⟨cB, d0, d1, d2, d3⟩
        refine wpAnyH_more (S' := fun Wq => Wq.cell? ⟨B, 0, none⟩ = some (.int .i64 (k : Int)) ∧ TdK Wq (w1.heap.size + 1) k) (fun Wq hW => hW.1) _ _ _ _ ?_
        refine' wpAnyH_take (i := 3) (oi := { dst := some 16, op := Go.Op.indexAddr 147 (Go.Operand.tmp 13) (Go.Operand.tmp 15), type := 0, pos := "code.go:62", after := #[{ on := 0, ground := Go.Ground.data }, { on := 2, ground := Go.Ground.data }], guard := none }) (v := _) rfl (by kernel_rfl) (by kernel_rfl) (by kernel_rfl) (fun _ _ _ h => h) (Or.inl ⟨by rfl, ?hyq3⟩) (by assumption) ?req3
        case hyq3 => (intro W hSw; (try dsimp only at hSw); go_simp; try with_reducible rfl)
        try simp only [Act.put, List.setIfInBounds_toArray, List.set_cons_zero, List.set_cons_succ]
        refine' wpAnyH_take (i := 4) (oi := { dst := some 17, op := Go.Op.load 146 (Go.Operand.tmp 16), type := 146, pos := "code.go:62", after := #[{ on := 3, ground := Go.Ground.data }], guard := none }) (v := _) rfl (by kernel_rfl) (by kernel_rfl) (by kernel_rfl) (fun _ _ _ h => h) (Or.inl ⟨by rfl, ?hyq4⟩) (by assumption) ?req4
        case hyq4 => (intro W hSw; (try dsimp only at hSw); obtain ⟨z4, z0, z1, z2, z3⟩ := hSw; go_simp; try with_reducible rfl)
        try simp only [Act.put, List.setIfInBounds_toArray, List.set_cons_zero, List.set_cons_succ]
        refine wpAnyH_ready (rs := [6]) (by kernel_rfl) (by simp) ?_
        refine AllReadyH.cons (o := { dst := none, op := Go.Op.store 146 (Go.Operand.tmp 7) (Go.Operand.tmp 17), type := 0, pos := "code.go:62", after := #[{ on := 5, ground := Go.Ground.data }, { on := 4, ground := Go.Ground.data }, { on := 0, ground := Go.Ground.chain }, { on := 0, ground := Go.Ground.phase }, { on := 1, ground := Go.Ground.phase }, { on := 2, ground := Go.Ground.phase }, { on := 3, ground := Go.Ground.phase }, { on := 4, ground := Go.Ground.phase }, { on := 5, ground := Go.Ground.phase }], guard := none }) rfl (fun K hK => ?_) AllReadyH.nil
        clear hHeld
        go_simp
        refine hK.out _ _ (⟨MQ.out.cell cB neB, MQ.out.cell d0 ne1, MQ.out.cell d1 ne1, MQ.out.cell d2 ne1, MQ.out.cell d3 ne1⟩) (fun hHeld => ?_)
        clear hK K
        try simp only [Act.put, List.setIfInBounds_toArray, List.set_cons_zero, List.set_cons_succ]
        refine wpAnyH_done (by kernel_rfl) ?_ _
        have GG := hide (ef_row (w1 := w1) (k := k) (HB2.out.trans (MQ.out.below HB2.out.size (fun j e => by omega))) (MQ.out.cell cB neB) (MQ.out.cell cB1 neB) NQ.out)
        clear MQ NQ N2 HB2
        refine NoPanic.normal ?_
        go_wp2_with fail
        go_meet
        exact GG.out
    obtain ⟨r, rfl, hb2, y0, y1, y2, y3⟩ := hcut
    have HF := hide (below_on HB.out hb2)
    have H2 := hide (H.out.later HF.out)
    clear hb2 HB c0 c1 N1 HB0 i1 hBlt
    obtain ⟨tk, htk⟩ : ∃ t, t = tkD k := ⟨_, rfl⟩
    rw [← htk] at y2
    have HTK := hide htk
    clear htk
    unfold tkD at HTK
    rw [← PE.out] at y3
    clear PE
    by_cases h21 : k = 21
    · obtain rfl : tk = -1 := by rw [HTK.out, if_pos h21]
      have TE2 : Hid (te = parE fs a) := by unfold Hid; rw [TE.out, if_pos (by omega)]
      clear TE HTK
      obtain ⟨ao, c, rfl, h2, h3, h4⟩ := H2.out
      unfold maxLen at h3
      unfold parE at TE2
      clear H2 H
      by_cases ha : a < 0
      · obtain rfl : te = 0 := by rw [TE2.out, if_neg (by omega)]
        clear h4 TE2
        go_upto_region 7 with fail
        go_quiet (fail)
        go_wp2_with fail
        go_ret2
        exact ⟨rfl, below_on HF.out (below_drawn _ _)⟩
      · by_cases hb : a < fs.length
        · obtain ⟨g, o, rfl, -, h5⟩ := h4 (by omega)
          obtain ⟨-, -, vc, -, c1, -⟩ := h5 a.toNat (by omega)
          have e1 : (fs.map Rt.pa).getD a.toNat 0 = (fs[a.toNat]'(by omega)).pa := by
            rw [List.getD_eq_getElem?_getD, List.getElem?_map, List.getElem?_eq_getElem (by omega)]; rfl
          have TE3 : Hid (te = max (fs[a.toNat]'(by omega)).pa 0) := by unfold Hid; rw [TE2.out, if_pos ⟨by omega, hb⟩, e1]
          clear h4 h5 e1 TE2
          generalize (fs[a.toNat]'(by omega)).pa = x at *
          generalize fs.length = n at *
          have h1 : (0 : Int) ≤ a := by omega
          by_cases hx : x < 0
          · obtain rfl : te = 0 := by rw [TE3.out]; omega
            clear TE3
            go_upto_region 7 with fail
            go_quiet (fail)
            go_wp2_with fail
            go_ret2
            exact ⟨rfl, below_on HF.out (below_drawn _ _)⟩
          · obtain rfl : te = x := by rw [TE3.out]; omega
            clear TE3
            go_upto_region 8 with fail
            go_quiet (fail)
            go_wp2_with fail
            go_ret2
            exact ⟨rfl, below_on HF.out (below_drawn _ _)⟩
        · obtain rfl : te = 0 := by rw [TE2.out, if_neg (by omega)]
          clear h4 TE2
          go_upto_region 7 with fail
          go_quiet (fail)
          go_wp2_with fail
          go_ret2
          exact ⟨rfl, below_on HF.out (below_drawn _ _)⟩
    · by_cases h26 : k = 26 ∨ k = 28
      · obtain rfl : tk = -2 := by rw [HTK.out, if_neg h21, if_pos h26]
        have TE2 : Hid (te = if a < 0 then 0 else a % 8) := by unfold Hid; rw [TE.out, if_neg (by omega), if_pos (by omega)]
        clear TE HTK H2 H
        by_cases ha : a < 0
        · obtain rfl : te = 0 := by rw [TE2.out, if_pos ha]
          clear TE2
          go_upto_region 11 with fail
          go_quiet (fail)
          go_wp2_with fail
          go_ret2
          exact ⟨rfl, below_on HF.out (below_drawn _ _)⟩
        · have TE3 : Hid (te = a % 8) := by unfold Hid; rw [TE2.out, if_neg ha]
          clear TE2
          have h1 : (0 : Int) ≤ a := by omega
          go_upto_region 12 with fail
          go_quiet (fail)
          go_wp2_with fail
          go_ret2
          exact ⟨ret_ints (by rw [TE3.out]) rfl, below_on HF.out (below_drawn _ _)⟩
      · have HTK2 : Hid (tk = (tak k : Int)) := by unfold Hid; rw [HTK.out, if_neg h21, if_neg h26]
        obtain rfl : te = tk := by rw [TE.out, if_neg (by omega), if_neg (by omega), HTK2.out]
        have t1 : (te == -1) = false := by rw [beq_eq_false_iff_ne]; have := HTK2.out; omega
        have t2 : (te == -2) = false := by rw [beq_eq_false_iff_ne]; have := HTK2.out; omega
        clear TE HTK H2 H HTK2
        go_upto_region 13 with fail
        go_quiet (fail)
        go_wp2_with fail
        go_ret2
        exact ⟨rfl, below_on HF.out (below_drawn _ _)⟩
  · have t1 : decide (1 ≤ op ∧ op ≤ 39) = false := by simp; omega
    rw [t1] at i1
    have ek : opk op = 0 := opk_out hop
    obtain rfl : te = 0 := by rw [TE.out, if_neg (by omega), if_neg (by omega), ek]; rfl
    obtain rfl : pe = 0 := by rw [PE.out, ek]; rfl
    clear TE PE ek t1
    go_enter Tryd.func42, Tryd.ntmps42
    go_upto_region 1 with fail
    rw [← hw0, ← hB]
    clear hw0 hB
    go_wp2_with fail
    refine (i1.out _).mono ?_
    rintro e w1 ⟨rfl, rfl⟩
    go_wp2_with fail
    go_ret2
    exact ⟨rfl, HB.out⟩
end Go.Proofs.YtklamaibinjcmaaDoor

/-
  Verify: the document's reached.
-/
namespace Go.Proofs.YtklamaibinjcmaaDoor
open Go.RowKit
set_option maxRecDepth 100000
theorem run_sliceQ (w : World) (g o n c : Nat) (hc : n + 1 ≤ c) : (Instr.slice 103 (.slice (some ⟨g, o, none⟩) (n + 1) c) (some (.int .i64 1)) none none).run Tryd.prog w = .ok (.slice (if c = 1 then some ⟨g, o, none⟩ else some ⟨g, o + 2, none⟩) n (c - 1)) w := by
  obtain ⟨i0, hi, hz0, hz1, hz2⟩ := info_parts info2i
  have hb : (Instr.sliceBounds true (n + 1) c (some (.int .i64 1)) none none).run Tryd.prog w = .ok (1, n + 1, c) w := by
    have := run_sliceBound (P := Tryd.prog) w .i64 1 (n + 1) .sliceB (by omega) (by omega)
    simp [Instr.sliceBounds, this]
  simp only [Instr.slice, Sem.run_bind, run_underlying Tryd.underlying103, Result.andThen_ok, hb, Go.sizeOf, typeInfo, Sem.run_pure]
  by_cases e : c = 1
  · subst e
    simp [hi, hz1]
  · simp [hi, hz1, e, Addr.add_lit]
theorem sliceQ {w : World} {ops : Array Oper} {rest : List Oper} {o : Oper} {a : Act} {Q : Exit → Act → World → Prop} (hgd : o.guard = none) (x : Operand)
    (ho : o.op = .slice 103 x (some (.const (.int .i64 1))) none none)
    (B : Nat) (v : Value) (m : Nat × Nat) (l : List (Nat × Nat)) (hx : a.eval x = v) (hq : Qr w B v (m :: l))
    (h : ∀ v', Qr w B v' l → wpList Tryd.prog ops Q rest (a.put o.dst v') w) :
    wpList Tryd.prog ops Q (o :: rest) a w := by
  refine wpList_plain hgd fun K hK => ?_
  obtain ⟨g, o', c, cs, e, hh⟩ := id hq
  subst e
  rw [List.length_cons] at hx hq hh
  have hr := run_sliceQ w g o' l.length c hh.2.2.1
  have hr2 : (Instr.sliceAt 103 (.slice (some ⟨g, o', none⟩) (l.length + 1) c) (some (.int .i64 1)) none none).run Tryd.prog w = .ok (.slice (if c = 1 then some ⟨g, o', none⟩ else some ⟨g, o' + 2, none⟩) l.length (c - 1)) w := (run_sliceAt_slice (P := Tryd.prog) w _ _ _ _ _ Tryd.underlying103).trans hr
  unfold Oper.wp execOp
  simp only [ho, hx, Option.map, Sem.run_bind, Sem.run_pure]
  rw [show a.eval (.const (.int .i64 1)) = .int .i64 1 from rfl, hr2]
  simp only [Result.andThen_ok]
  refine hK _ _ (h _ ?_)
  by_cases e : c = 1
  · subst e
    rw [if_pos rfl]
    obtain ⟨rfl, -, h3⟩ := hq.pop1 (o' := o')
    exact h3
  · obtain ⟨k, rfl⟩ : ∃ k, c = k + 1 := ⟨c - 1, by have := hh.2.2.1; omega⟩
    rw [if_neg e]
    exact hq.pop
theorem info65 : (Tryd.prog.info? 71).map (fun i => (i.zero, i.size, i.bytes)) = some (some (.agg (Array.replicate 65 (.bool false))), 65, 65) := by kernel_rfl
theorem made65 (n p d : Nat) (hp : p < n) (hd : d < 65) : (madeCells (Value.agg (Array.replicate 65 (.bool false))).cells (n * 65))[p * 65 + d]? = some (.bool false) := by
  have h1 : p * 65 + d < n * 65 := by have := Nat.mul_le_mul_right 65 (show p + 1 ≤ n by omega); omega
  have hz : (Value.agg (Array.replicate 65 (.bool false))).cells = Array.replicate 65 (.bool false) := rfl
  rw [hz]
  unfold madeCells
  have h2 : (p * 65 + d) % 65 < 65 := Nat.mod_lt _ (by omega)
  rw [Array.getElem?_map, Array.getElem?_range, if_pos h1, Option.map_some, getElem!_pos _ _ (by simpa using h2), Array.getElem_replicate]
theorem tm_made {w w1 : World} {n : Nat} (h : w1.heap[w.heap.size]? = some (.cells (madeCells (Value.agg (Array.replicate 65 (.bool false))).cells (n * 65)) 71 (0, 0))) : Tm w1 w.heap.size n (fun _ _ => false) := ⟨_, h, size_madeCells _ _, fun p d hp hd => made65 n p d hp hd⟩
theorem tz0_eq : putT (fun _ _ => false) 0 0 = Tz0 := by
  funext p d
  simp [putT, Tz0]
/-- What the document's search holds in memory. -/
structure Du (w : World) (g n : Nat) (fs : List Rt) (c : List Ins) (T : Nat → Nat → Bool) (op : List (Nat × Nat)) (v : Value) (W : World) : Prop where
  dk : Dke fs c T op
  tm : Tm W g n T
  q : Qr W w.heap.size v op
  b : Below w.heap.size w W
  m : dkM c T op ≤ 300000
/-- Numbers of one's own, in a block of their kind. -/
def LR (W : World) (v : Value) (L : List Int) : Prop := ∃ a c, v = .slice a L.length c ∧ L.length ≤ c ∧ c ≤ 9223372036854775807 ∧ (0 < L.length → ∃ g cs, a = some ⟨g, 0, none⟩ ∧ W.heap[g]? = some (.cells cs 3 (0, 0)) ∧ ∀ j (h : j < L.length), cs[j]? = some (.int .i64 L[j]))
theorem own_LR {W : World} {B : Nat} {v : Value} {L : List Int} (h : W.ownsRow B 3 1 v L.length (zq L)) : LR W v L := by
  obtain ⟨a, c, rfl⟩ := own_len h
  obtain ⟨h1, h2⟩ := own_cap h
  refine ⟨a, c, rfl, h1, h2, fun h0 => ?_⟩
  obtain ⟨g, c', e, -, -⟩ := own_form h h0
  simp only [Value.slice.injEq, true_and] at e
  obtain ⟨rfl, rfl⟩ := e
  obtain ⟨cs, hg⟩ := own_blk2 h (g := g) rfl
  refine ⟨g, cs, rfl, hg, fun j hj => ?_⟩
  have := h.cellAt j (by omega)
  rw [cell_of_row W _ _ _ 3 (0, 0) hg] at this
  rw [this]
  simp [zq, hj]
theorem LR.kind {W W' : World} {v : Value} {L : List Int} (h : LR W v L) (hk : ∀ (g : Nat) (cs : Array Value), W.heap[g]? = some (Obj.cells cs 3 (0, 0)) → W'.heap[g]? = some (Obj.cells cs 3 (0, 0))) : LR W' v L := by
  obtain ⟨a, c, h1, h2, h3, h4⟩ := h
  refine ⟨a, c, h1, h2, h3, fun h0 => ?_⟩
  obtain ⟨g, cs, k1, k2, k3⟩ := h4 h0
  exact ⟨g, cs, k1, hk g cs k2, k3⟩
theorem LR.later {W W' : World} {v : Value} {L : List Int} (h : LR W v L) (hb : Below W.heap.size W W') : LR W' v L := h.kind (fun g _ hg => (hb.block g (lt_of_block hg)).trans hg)
theorem LR.at {W : World} {v : Value} {L : List Int} (h : LR W v L) {j : Nat} (hj : j < L.length) : ∃ g c, v = .slice (some ⟨g, 0, none⟩) L.length c ∧ L.length ≤ c ∧ c ≤ 9223372036854775807 ∧ W.cell? ⟨g, j, none⟩ = some (.int .i64 L[j]) ∧ ∃ cs, W.heap[g]? = some (.cells cs 3 (0, 0)) := by
  obtain ⟨a, c, rfl, h2, h3, h4⟩ := h
  obtain ⟨g, cs, rfl, k2, k3⟩ := h4 (by omega)
  exact ⟨g, c, rfl, h2, h3, by rw [cell_of_row W _ _ _ 3 (0, 0) k2]; exact k3 j hj, cs, k2⟩
theorem LR.len {W : World} {v : Value} {L : List Int} (h : LR W v L) : ∃ a c, v = .slice a L.length c := by
  obtain ⟨a, c, h1, -⟩ := h
  exact ⟨a, c, h1⟩
theorem setCell_kind (W : World) (g k : Nat) (u : Value) {cs ds : Array Value} {t t' g' : Nat} (h : W.heap[g]? = some (.cells ds t' (0, 0))) (hg : W.heap[g']? = some (.cells cs t (0, 0))) (ht : t ≠ t') : (W.setCell ⟨g, k, none⟩ u).heap[g']? = some (.cells cs t (0, 0)) := by
  refine (mv_set W g k u).at hg (fun e => ?_)
  subst e
  rw [h] at hg
  injection hg with hg
  injection hg with h1 h2
  exact ht h2.symm
theorem Qr.kind {W W' : World} {B : Nat} {v : Value} {l : List (Nat × Nat)} (h : Qr W B v l) (hk : ∀ (g : Nat) (cs : Array Value), W.heap[g]? = some (Obj.cells cs 102 (0, 0)) → W'.heap[g]? = some (Obj.cells cs 102 (0, 0))) : Qr W' B v l := by
  obtain ⟨g, o, c, cs, h1, h2, h3, h4⟩ := h
  exact ⟨g, o, c, cs, h1, h2, hk g cs h3, h4⟩
structure Dv (w : World) (g n : Nat) (fs : List Rt) (c : List Ins) (T : Nat → Nat → Bool) (op : List (Nat × Nat)) (p d b k : Nat) (v v12 : Value) (W : World) : Prop where
  dk : Dje fs c T op p d b ((nextD c p).drop k)
  lr : LR W v12 (nextD c p)
  tm : Tm W g n T
  q : Qr W w.heap.size v op
  b : Below w.heap.size w W
  m : dkM c T op ≤ 300000
set_option maxHeartbeats 8000000 in
theorem dreached_any {Q : Nat → Prop} {w : World} {vc vf : Value} {c : List Ins} {fs : List Rt} (h : Il Q w vc c) (hf : Rts Q w vf fs) (h0 : 0 < c.length) (hc : c.length ≤ 2000) : Calls Tryd.prog 26 #[vc, vf] w fun e w' => ∃ T, e = .returned (.slice (some ⟨w.heap.size, 0, none⟩) c.length c.length) ∧ Tm w' w.heap.size c.length T ∧ (∀ p d, T p d = true ↔ Rch fs c p d) ∧ Below w.heap.size w w' := by
  have JE : Hid (∀ W i, Below w.heap.size w W → Calls Tryd.prog 42 #[.agg #[.int .i64 (iat c i).op, .int .i64 (iat c i).a], vf] W fun e w' => e = .returned (.tuple #[.int .i64 (takE fs (iat c i)), .int .i64 (putE (iat c i))]) ∧ Below W.heap.size W w') := fun W i hW => deffect_any (hf.later hW) (iat c i)
  have JN : Hid (∀ W i, Below w.heap.size w W → i < c.length → Calls Tryd.prog 43 #[vc, .int .i64 ((i : Nat) : Int)] W fun e w' => ∃ v, e = .returned v ∧ w'.ownsRow W.heap.size 3 1 v (nextD c i).length (zq (nextD c i)) ∧ Below W.heap.size W w') := fun W i hW hi => dnext_any (h.later hW) i hi hc
  obtain ⟨g0, o0, co, rfl, hc1, hc2, -⟩ := il_open h 0 h0
  have HI : Hid (∀ W i, Below w.heap.size w W → i < c.length → W.cell? ⟨g0, o0 + i * 2, none⟩ = some (.int .i64 (iat c i).op) ∧ W.cell? ⟨g0, o0 + i * 2 + 1, none⟩ = some (.int .i64 (iat c i).a)) := fun W i hW hi => by
    obtain ⟨g1, o1, co1, e1, -, -, k1, k2, -⟩ := il_open (h.later hW) i hi
    injection e1 with e1
    injection e1 with e1
    injection e1 with e1 e2
    subst e1 e2
    exact ⟨k1, k2⟩
  obtain ⟨af, cf, rfl, -, -, -⟩ := hf
  have HC0 := hide h0
  have HC2 := hide hc
  obtain ⟨nc, hnc⟩ : ∃ n, n = c.length := ⟨_, rfl⟩
  obtain ⟨nf, hnf⟩ : ∃ n, n = fs.length := ⟨_, rfl⟩
  have HNC := hide hnc
  rw [← hnf] at JE ⊢
  rw [← hnc] at JN
  rw [← hnc] at HI h0 hc hc1 ⊢
  obtain ⟨B, hB⟩ : ∃ B, B = w.heap.size := ⟨_, rfl⟩
  have HB := hide hB
  obtain ⟨i65, hi65, hz0, hz1, hz2⟩ := info_parts info65
  clear h hnc hnf
  go_enter Tryd.func26, Tryd.ntmps26
  go_wp2_with (refine wpList_make_cap _ rfl _ _ 69 rfl 71 i65 _ Tryd.underlying69 hi65 hz0 .i64 .i64 _ _ nc nc rfl rfl rfl rfl (Nat.le_refl _) ?b2 ?b3 ?_)
  case b2 => rw [hz2]; omega
  case b3 => unfold maxLen; omega
  intro w1 hm1 hg1
  have B1 : Hid (Below w.heap.size w w1) := Below.grown (Below.refl _ _) hg1 (Nat.le_refl _) (fun k e => by cases e)
  have TM1 : Hid (Tm w1 w.heap.size nc (fun _ _ => false)) := tm_made hm1.out
  have TM2 := hide (TM1.out.put (p := 0) (d := 0) h0 (by omega))
  rw [tz0_eq] at TM2
  obtain ⟨x0, x1⟩ := TM1.out.at (p := 0) (d := 0) h0 (by omega)
  rw [← hB] at x0 x1 TM2 ⊢
  obtain ⟨w2, hw2⟩ : ∃ X, X = w1.setCell ⟨B, 0 * 65 + 0, none⟩ (.bool true) := ⟨_, rfl⟩
  rw [← hw2] at TM2
  have B2 : Hid (Below w.heap.size w w2) := by rw [hw2]; exact B1.out.setCell (by show _ ≤ B; have := HB.out; omega) _
  rw [show 0 * 65 + 0 = 0 from rfl] at x0 x1 hw2
  clear hm1 hg1 TM1 B1 hB
  have t0 : (0 : Int) < (nc : Int) := by omega
  go_upto_region 3 with fail
  rw [← hw2]
  clear hw2 x0 x1
  have S2 : Hid (Below w2.heap.size w2 (w2.alloc (.cells #[.int .i64 0, .int .i64 0] 102))) := below_alloc w2 _
  have DU0 : Hid (Du w B nc fs c Tz0 [(0, 0)] (.slice (some ⟨w2.heap.size, 0, none⟩) 1 1) (w2.alloc (.cells #[.int .i64 0, .int .i64 0] 102))) := by
    refine ⟨Dke.init, TM2.out.later S2.out, ⟨w2.heap.size, 0, 1, _, rfl, B2.out.size, heap_alloc_new w2 _, Nat.le_refl _, by unfold maxLen; omega, fun _ => rfl, fun j u hj => ?_⟩, below_on B2.out S2.out, ?_⟩
    · match j, hj with
      | 0, hj => exact hj
      | 1, hj => exact hj
    · have := dkM_le (c := c) Tz0 [(0, 0)]
      have := HC2.out
      simp at *
      omega
  go_wp2_with fail
  obtain ⟨W0, hW0⟩ : ∃ X, X = w2.alloc (.cells #[.int .i64 0, .int .i64 0] 102) := ⟨_, rfl⟩
  obtain ⟨q0, hq0⟩ : ∃ X, X = w2.heap.size := ⟨_, rfl⟩
  rw [← hW0, ← hq0] at DU0 ⊢
  clear hW0 hq0 S2 TM2 B2
  go_loopg [6] (dkM c Tz0 [(0, 0)]) (fun q v6 W => ∃ (T : Nat → Nat → Bool) (op : List (Nat × Nat)), q = dkM c T op ∧ Hid (Du w B nc fs c T op v6 W))
  case atStart => exact ⟨_, _, rfl, DU0⟩
  case round =>
    obtain ⟨T, op, rfl, HD⟩ := hrel
    clear DU0
    cases op with
    | nil =>
      obtain ⟨g, o, k, rfl, hk1, hk2, -⟩ := HD.out.q.form
      go_wp2_with fail
      go_ret
      have hBB := HB.out
      subst hBB
      exact ⟨T, rfl, HD.out.tm, fun p d => HD.out.dk.done, HD.out.b⟩
    | cons m t =>
      obtain ⟨p, d⟩ := m
      have hpd := (HD.out.dk.sound p d (HD.out.dk.osound (p, d) (by simp))).lt HC0.out
      obtain ⟨g, o, k, hv, hk1, hk2, -⟩ := HD.out.q.form
      rw [List.length_cons] at hv hk1
      subst hv
      obtain ⟨y0, y1⟩ := HD.out.q.head
      have QQ := hide HD.out.q
      obtain ⟨nt, hnt⟩ : ∃ x, x = t.length := ⟨_, rfl⟩
      have HNT := hide hnt
      have HPD := hide hpd
      have DN : Hid (Dke fs c T ((p, d) :: t)) := HD.out.dk
      have TM := hide HD.out.tm
      have BB := hide HD.out.b
      have MM := hide HD.out.m
      have hpn : p < nc := by have := HNC.out; have := hpd.1; omega
      have hpi : (p : Int) < (nc : Int) := by omega
      have hdi : (d : Int) ≤ 64 := by have := hpd.2; omega
      obtain ⟨z0, z1⟩ := HI.out wr p BB.out hpn
      have J1 := hide (JE.out wr p BB.out)
      have hn0 := takE_nn (fs := fs) (iat c p)
      have hpt : 0 ≤ putE (iat c p) ∧ putE (iat c p) ≤ 1 := by
        unfold putE
        have h40 := opk_lt (iat c p).op
        have hle : ∀ k, k < 40 → pts k ≤ 1 := by decide
        have := hle _ h40
        omega
      obtain ⟨tk, htk⟩ : ∃ t, t = takE fs (iat c p) := ⟨_, rfl⟩
      obtain ⟨pt, hpt'⟩ : ∃ t, t = putE (iat c p) := ⟨_, rfl⟩
      have HBE : Hid (behI fs c p d = if (d : Int) < tk then none else if (d : Int) - tk + pt ≤ 64 then some ((d : Int) - tk + pt).toNat else none) := by
        rw [htk, hpt']
        rfl
      rw [← htk, ← hpt'] at J1
      rw [← htk] at hn0
      rw [← hpt'] at hpt
      obtain ⟨oq, hoq⟩ : ∃ x, x = (iat c p).op := ⟨_, rfl⟩
      obtain ⟨av, hav⟩ : ∃ x, x = (iat c p).a := ⟨_, rfl⟩
      rw [← hoq] at z0 J1
      rw [← hav] at z1 J1
      rw [← hnt] at hk1 QQ ⊢
      have t1 : (1 : Int) ≤ (nt : Int) + 1 := by omega
      have t2 : (0 : Int) < (nt : Int) + 1 := by omega
      clear htk hpt' hoq hav hnt hpd HD
      go_upto_region 7 with fail
      go_wp2_with (refine sliceQ rfl _ rfl w.heap.size _ (p, d) t rfl QQ.out ?_)
      intro v6 hq6
      have Q6 := hide hq6
      clear hq6 QQ y0 y1
      go_upto_region 8 with fail
      go_wp2_with fail
      refine J1.out.mono ?_
      rintro e w3 ⟨rfl, b3⟩
      have TM3 := hide (TM.out.later b3)
      have BB3 := hide (below_on BB.out b3)
      have Q63 := hide (Q6.out.later b3)
      clear TM BB Q6 J1 z0 z1 b3
      have MLT : Hid (dkM c T t < dkM c T ((p, d) :: t)) := by unfold Hid dkM; simp
      by_cases c1 : (d : Int) < tk
      · have HN : Hid (behI fs c p d = none) := HBE.out.trans (if_pos c1)
        have RN : Hid (Du w B nc fs c T t v6 w3) := ⟨DN.out.none HN.out, TM3.out, Q63.out, BB3.out, Nat.le_trans (Nat.le_of_lt MLT.out) MM.out⟩
        obtain ⟨g6, o6, k6, rfl, -⟩ := Q63.out.form
        clear DN TM3 Q63 BB3 HBE
        go_wp2_with fail
        go_roundg (dkM c T t)
        case measure => exact MLT.out
        case rel => exact ⟨T, t, rfl, RN⟩
      · have w1' : IntKind.i64.wrap ((d : Int) - tk) = (d : Int) - tk := by rw [IntKind.wrap_i64]; omega
        have w2' : IntKind.i64.wrap ((d : Int) - tk + pt) = (d : Int) - tk + pt := by rw [IntKind.wrap_i64]; omega
        obtain ⟨b, hb⟩ : ∃ q : Nat, (d : Int) - tk + pt = (q : Int) := ⟨((d : Int) - tk + pt).toNat, by omega⟩
        rw [if_neg c1, hb] at HBE
        rw [hb] at w2'
        by_cases c2 : (b : Int) ≤ 64
        · have HS : Hid (behI fs c p d = some b) := HBE.out.trans (by rw [if_pos c2, Int.toNat_natCast])
          have DJ := hide (DN.out.enter HS.out)
          have J2 := hide (JN.out w3 p BB3.out hpn)
          obtain ⟨g6, o6, k6, rfl, -⟩ := Q63.out.form
          clear HBE
          go_wp2_with fail
          refine J2.out.mono ?_
          rintro e w4 ⟨v12, rfl, ho4, b4⟩
          have DV0 : Hid (Dv w B nc fs c T t p d b 0 (.slice (some ⟨g6, o6, none⟩) t.length k6) v12 w4) := ⟨by rw [List.drop_zero]; exact DJ.out, own_LR ho4, TM3.out.later b4, Q63.out.later b4, below_on BB3.out b4, Nat.le_trans (Nat.le_of_lt MLT.out) MM.out⟩
          obtain ⟨a12, c12, hv12⟩ := own_len ho4
          have hL2 := nextD_len c p
          have HND : Hid (∀ x ∈ nextD c p, 0 ≤ x ∧ x ≤ 5000) := fun x hx => by have := nextD_nn x hx; have := HNC.out; omega
          obtain ⟨L, hL⟩ : ∃ L, L = nextD c p := ⟨_, rfl⟩
          have HL := hide hL
          rw [← hL] at hv12 hL2 HND
          obtain ⟨nl, hnl⟩ : ∃ x, x = L.length := ⟨_, rfl⟩
          have HNL := hide hnl
          rw [← hnl] at hv12 hL2
          subst hv12
          clear ho4 b4 J2 DJ TM3 Q63 BB3 w1' w2' hb c1 hL hnl
          go_wp2_with fail
          go_loopw [6, 13] (fun v6 v13 W => ∃ (T' : Nat → Nat → Bool) (op' : List (Nat × Nat)) (k : Nat), k ≤ nl ∧ v13 = .int .i64 (k : Int) ∧ Hid (dkM c T' op' ≤ dkM c T t) ∧ Hid (Dv w B nc fs c T' op' p d b k v6 (.slice a12 nl c12) W)) (fun _ v13 _ => nl - (intOf v13).toNat)
          case atStart => exact ⟨T, t, 0, Nat.zero_le _, rfl, Nat.le_refl _, DV0⟩
          case round =>
            rename_i wr0 hrel0
            obtain ⟨T', op', k, hk, rfl, HM', HV⟩ := hrel
            clear DV0
            obtain ⟨g7, o7, k7, rfl, -⟩ := HV.out.q.form
            by_cases hlt : k < nl
            · have hki : (k : Int) < (nl : Int) := by omega
              have hkL : k < L.length := by have := HNL.out; omega
              have hLR := HV.out.lr
              rw [← HL.out] at hLR
              obtain ⟨g12, cc12, e12, e1, e2, x0, -⟩ := hLR.at hkL
              rw [← HNL.out] at e12 e1
              injection e12 with e3 e4 e5
              subst e3 e5
              obtain ⟨hy0, hy1⟩ := HND.out _ (List.getElem_mem hkL)
              have HDR : Hid ((nextD c p).drop k = L[k] :: (nextD c p).drop (k + 1)) := by unfold Hid; rw [← HL.out]; exact List.drop_eq_getElem_cons hkL
              obtain ⟨y, hy⟩ : ∃ y : Nat, L[k] = (y : Int) := ⟨L[k].toNat, by omega⟩
              rw [hy] at x0 HDR hy1
              clear hy hy0 hLR
              by_cases cy : (y : Int) < (nc : Int)
              · have hyn : y < nc := by omega
                have hb65 : b < 65 := by omega
                obtain ⟨f0, f1⟩ := HV.out.tm.at (p := y) (d := b) hyn hb65
                have hbi : (b : Int) < 65 := by omega
                cases hT : T' y b with
                | true =>
                  rw [hT] at f0
                  have DJ2 := HV.out.dk
                  rw [HDR.out] at DJ2
                  have RN : Hid (Dv w B nc fs c T' op' p d b (k + 1) (.slice (some ⟨g7, o7, none⟩) op'.length k7) (.slice (some ⟨g12, 0, none⟩) nl c12) wr) := ⟨DJ2.skip (.inr (by simpa using hT)), HV.out.lr, HV.out.tm, HV.out.q, HV.out.b, HV.out.m⟩
                  clear DJ2 HV
                  go_wp2_with fail
                  go_roundw
                  case rel => exact ⟨T', op', k + 1, by omega, by go_num, HM', RN⟩
                  case measure => simp [intOf]; omega
                | false =>
                  rw [hT] at f0
                  obtain ⟨ds, hds, -⟩ := id HV.out.tm
                  obtain ⟨W5, hW5⟩ : ∃ X, X = wr.setCell ⟨B, y * 65 + b, none⟩ (.bool true) := ⟨_, rfl⟩
                  have hk5 : ∀ {t' : Nat} (g : Nat) (cs : Array Value), t' ≠ 71 → wr.heap[g]? = some (Obj.cells cs t' (0, 0)) → W5.heap[g]? = some (Obj.cells cs t' (0, 0)) := fun g cs ht hg => by rw [hW5]; exact setCell_kind wr B _ _ hds hg ht
                  have TM5 : Hid (Tm W5 B nc (putT T' y b)) := by rw [hW5]; exact HV.out.tm.put hyn hb65
                  have Q5 := hide (HV.out.q.kind (W' := W5) (fun g cs h => hk5 g cs (by decide) h))
                  have L5 := hide (HV.out.lr.kind (W' := W5) (fun g cs h => hk5 g cs (by decide) h))
                  have B5 : Hid (Below w.heap.size w W5) := by rw [hW5]; exact HV.out.b.setCell (by show _ ≤ B; have := HB.out; omega) _
                  have x5 : W5.cell? ⟨g12, k, none⟩ = some (.int .i64 (y : Int)) := by
                    obtain ⟨ga, ca, ea, -, -, -, cs', hcs'⟩ := (HL.out ▸ HV.out.lr : LR wr _ L).at hkL
                    injection ea with ea
                    injection ea with ea
                    injection ea with ea
                    subst ea
                    have hq := hk5 g12 cs' (by decide) hcs'
                    rw [cell_of_row W5 _ _ _ 3 (0, 0) hq, ← cell_of_row wr _ _ _ 3 (0, 0) hcs']
                    exact x0
                  have D5 : Hid (Dje fs c (putT T' y b) (op' ++ [(y, b)]) p d b ((nextD c p).drop (k + 1))) := by
                    have := HV.out.dk
                    rw [HDR.out] at this
                    have := this.put (by have := HNC.out; omega)
                    unfold Hid
                    simpa using this
                  have M5 : Hid (dkM c (putT T' y b) (op' ++ [(y, b)]) + 1 = dkM c T' op') := dkM_put (by have := HNC.out; omega) hb65 hT
                  have M6 : Hid (op'.length ≤ 1000000 ∧ dkM c T' op' ≤ 300000) := by have := HV.out.m; refine ⟨?_, this⟩; unfold dkM at this; omega
                  obtain ⟨no, hno⟩ : ∃ x, x = op'.length := ⟨_, rfl⟩
                  rw [← hno] at Q5 ⊢
                  clear hno
                  go_upto_region 17 with fail
                  rw [← hW5]
                  clear hW5 hk5 HV x0 f0 f1 hds
                  have BA : Hid (Below W5.heap.size W5 (W5.alloc (.cells #[.int .i64 (y : Int), .int .i64 (b : Int)] 102))) := below_alloc W5 _
                  go_wp2_with (at_builtin; refine appendQ rfl _ _ rfl w.heap.size _ op' rfl ?q1 ⟨W5.heap.size, 0, none⟩ 1 y b rfl ?q2 ?q3 ?q4 ?_)
                  case q1 => exact Q5.out.later BA.out
                  case q2 =>
                    intro j u hj
                    first | exact hj | simpa [mz] using hj
                  case q3 => exact M6.out.1
                  case q4 => have h1 := B5.out.size; have h2 := BA.out.size; omega
                  intro v6 w6 hq6 hg6
                  have QA := Q5.out.later BA.out
                  have RN : Hid (Dv w B nc fs c (putT T' y b) (op' ++ [(y, b)]) p d b (k + 1) v6 (.slice (some ⟨g12, 0, none⟩) nl c12) w6) := by
                    obtain ⟨ds, e1, e2⟩ := TM5.out.later BA.out
                    refine ⟨D5.out, (L5.out.later BA.out).kind (fun g cs h => grown_kind QA hg6 h (by decide)), ⟨ds, grown_kind QA hg6 e1 (by decide), e2⟩, hq6, ?_, by have h1 := M5.out; have h2 := M6.out.2; omega⟩
                    have bb := below_on B5.out BA.out
                    refine bb.grown hg6 bb.size (fun j e => ?_)
                    obtain ⟨ga, oa, ca, ea, -, -, ha, -⟩ := QA.form
                    rw [ea] at e
                    simp only [Value.ownBlock, Option.some.injEq] at e
                    omega
                  have M7 : Hid (dkM c (putT T' y b) (op' ++ [(y, b)]) ≤ dkM c T t) := by have h1 := M5.out; have h2 := HM'.out; unfold Hid; omega
                  obtain ⟨g9, o9, k9, rfl, -⟩ := hq6.form
                  clear hq6 hg6 QA BA B5 L5 Q5 TM5 D5 x5
                  go_wp2_with fail
                  go_roundw
                  case rel => exact ⟨_, _, k + 1, by omega, by go_num, M7, RN⟩
                  case measure => simp [intOf]; omega
              · have DJ2 := HV.out.dk
                rw [HDR.out] at DJ2
                have RN : Hid (Dv w B nc fs c T' op' p d b (k + 1) (.slice (some ⟨g7, o7, none⟩) op'.length k7) (.slice (some ⟨g12, 0, none⟩) nl c12) wr) := ⟨DJ2.skip (.inl (by have := HNC.out; omega)), HV.out.lr, HV.out.tm, HV.out.q, HV.out.b, HV.out.m⟩
                clear DJ2 HV
                go_wp2_with fail
                go_roundw
                case rel => exact ⟨T', op', k + 1, by omega, by go_num, HM', RN⟩
                case measure => simp [intOf]; omega
            · have hki : ¬ (k : Int) < (nl : Int) := by omega
              have hkn : k = nl := by omega
              have RN : Hid (Du w B nc fs c T' op' (.slice (some ⟨g7, o7, none⟩) op'.length k7) wr) := by
                have := HV.out.dk
                rw [hkn, HNL.out, HL.out, List.drop_length] at this
                exact ⟨this.leave, HV.out.tm, HV.out.q, HV.out.b, HV.out.m⟩
              have M8 : Hid (dkM c T' op' < dkM c T ((p, d) :: t)) := Nat.lt_of_le_of_lt HM'.out MLT.out
              clear HV hkn
              go_wp2_with fail
              go_roundg (dkM c T' op')
              case measure => exact M8.out
              case rel => exact ⟨T', op', rfl, RN⟩
        · have HN : Hid (behI fs c p d = none) := HBE.out.trans (if_neg c2)
          have RN : Hid (Du w B nc fs c T t v6 w3) := ⟨DN.out.none HN.out, TM3.out, Q63.out, BB3.out, Nat.le_trans (Nat.le_of_lt MLT.out) MM.out⟩
          obtain ⟨g6, o6, k6, rfl, -⟩ := Q63.out.form
          clear DN TM3 Q63 BB3 HBE
          go_wp2_with fail
          go_roundg (dkM c T t)
          case measure => exact MLT.out
          case rel => exact ⟨T, t, rfl, RN⟩
end Go.Proofs.YtklamaibinjcmaaDoor

/-
  Verify: the document's wrong.
-/
namespace Go.Proofs.YtklamaibinjcmaaDoor
open Go.RowKit
set_option maxRecDepth 100000
section
variable {fs : List Rt} {c : List Ins} {p : Nat}
theorem wr_jump (h : (isJ (iat c p) && !thereI c (iat c p).a) = true) : wrR 150 151 153 fs c p = 150 := by
  unfold wrR
  rw [if_pos h]
theorem wr_bad (h : (isJ (iat c p) && !thereI c (iat c p).a) = false) (hb : Bad fs c p) : wrR 150 151 153 fs c p = 151 := by
  unfold wrR
  rw [if_neg (by rw [h]; decide), if_pos hb]
theorem wr_end (h : (isJ (iat c p) && !thereI c (iat c p).a) = false) (hb : ¬ Bad fs c p) {x : Int} (hx : x ∈ nextD c p) (hn : (c.length : Int) ≤ x) : wrR 150 151 153 fs c p = 153 := by
  unfold wrR
  rw [if_neg (by rw [h]; decide), if_neg hb, if_pos ((endD_iff h).2 ⟨x, hx, hn⟩)]
theorem wr_fine (h : (isJ (iat c p) && !thereI c (iat c p).a) = false) (hb : ¬ Bad fs c p) (hx : ∀ x ∈ nextD c p, x < (c.length : Int)) : wrR 150 151 153 fs c p = 0 := by
  unfold wrR
  rw [if_neg (by rw [h]; decide), if_neg hb, if_neg (fun e => by obtain ⟨x, h1, h2⟩ := (endD_iff h).1 e; have := hx x h1; omega)]
end
/-- The depths of a place, as they are handed over. -/
def dArr (t : Nat → Bool) : Array Value := ((List.range 65).map fun d => Value.bool (t d)).toArray
theorem dArr_at (t : Nat → Bool) (d : Nat) (hd : d < 65) : (dArr t)[d]? = some (.bool (t d)) := by
  unfold dArr
  simp [hd]
theorem dArr_size (t : Nat → Bool) : (dArr t).size = 65 := by
  unfold dArr
  simp
set_option maxHeartbeats 8000000 in
theorem dwrong_any {Q : Nat → Prop} {w : World} {vc vf : Value} {c : List Ins} {fs : List Rt} {T : Nat → Nat → Bool} (h : Il Q w vc c) (hf : Rts Q w vf fs) (hc : c.length ≤ 2000) (hT : ∀ p d, T p d = true ↔ Rch fs c p d) (p : Nat) (hp : p < c.length) : Calls Tryd.prog 27 #[vc, .int .i64 (p : Int), .agg (dArr (T p)), vf] w fun e w' => e = .returned (.int .i64 (wrR 150 151 153 fs c p)) ∧ Below w.heap.size w w' := by
  have JE : Hid (∀ W, Below w.heap.size w W → Calls Tryd.prog 42 #[.agg #[.int .i64 (iat c p).op, .int .i64 (iat c p).a], vf] W fun e w' => e = .returned (.tuple #[.int .i64 (takE fs (iat c p)), .int .i64 (putE (iat c p))]) ∧ Below W.heap.size W w') := fun W hW => deffect_any (hf.later hW) (iat c p)
  have JN : Hid (∀ W, Below w.heap.size w W → Calls Tryd.prog 43 #[vc, .int .i64 (p : Int)] W fun e w' => ∃ v, e = .returned v ∧ w'.ownsRow W.heap.size 3 1 v (nextD c p).length (zq (nextD c p)) ∧ Below W.heap.size W w') := fun W hW => dnext_any (h.later hW) p hp hc
  obtain ⟨g0, o0, co, rfl, hc1, hc2, -, -, -, i2⟩ := il_open h p hp
  have HI : Hid (∀ W, Below w.heap.size w W → W.cell? ⟨g0, o0 + p * 2, none⟩ = some (.int .i64 (iat c p).op) ∧ W.cell? ⟨g0, o0 + p * 2 + 1, none⟩ = some (.int .i64 (iat c p).a)) := fun W hW => by
    obtain ⟨g1, o1, co1, e1, -, -, k1, k2, -⟩ := il_open (h.later hW) p hp
    injection e1 with e1
    injection e1 with e1
    injection e1 with e1 e2
    subst e1 e2
    exact ⟨k1, k2⟩
  obtain ⟨af, cf, rfl, -, -, -⟩ := hf
  have HBD := hide (bad_iff hT (by omega) p)
  obtain ⟨A, hA⟩ : ∃ A, A = dArr (T p) := ⟨_, rfl⟩
  have HA : Hid (∀ d, d < 65 → A[d]? = some (.bool (T p d))) := fun d hd => by rw [hA]; exact dArr_at _ d hd
  obtain ⟨t, ht⟩ : ∃ t, t = T p := ⟨_, rfl⟩
  rw [← ht] at HBD
  have HA : Hid (∀ d, d < 65 → A[d]? = some (.bool (t d))) := by rw [ht]; exact HA
  rw [← hA]
  have hn0 := takE_nn (fs := fs) (iat c p)
  have hpt : 0 ≤ putE (iat c p) ∧ putE (iat c p) ≤ 1 := by
    unfold putE
    have h40 := opk_lt (iat c p).op
    have hle : ∀ k, k < 40 → pts k ≤ 1 := by decide
    have := hle _ h40
    omega
  obtain ⟨tk, htk⟩ : ∃ t, t = takE fs (iat c p) := ⟨_, rfl⟩
  obtain ⟨pt, hpt'⟩ : ∃ t, t = putE (iat c p) := ⟨_, rfl⟩
  have HBE : Hid (∀ d : Nat, behI fs c p d = if (d : Int) < tk then none else if (d : Int) - tk + pt ≤ 64 then some ((d : Int) - tk + pt).toNat else none) := fun d => by
    rw [htk, hpt']
    rfl
  rw [← htk, ← hpt'] at JE
  rw [← htk] at hn0
  rw [← hpt'] at hpt
  obtain ⟨op, hop⟩ : ∃ x, x = (iat c p).op := ⟨_, rfl⟩
  obtain ⟨av, hav⟩ : ∃ x, x = (iat c p).a := ⟨_, rfl⟩
  obtain ⟨n, hn⟩ : ∃ n, n = c.length := ⟨_, rfl⟩
  obtain ⟨nf, hnf⟩ : ∃ n, n = fs.length := ⟨_, rfl⟩
  have HNC := hide hn
  have HJ : Hid ((isJ (iat c p) && !thereI c (iat c p).a) = (decide (op = 19 ∨ op = 20) && !decide (0 ≤ av ∧ av < (n : Int)))) := by
    rw [hop, hav, hn]
    rfl
  rw [← hop] at HI JE
  rw [← hav] at HI JE i2
  rw [← hn] at hc1 hp hc JN ⊢
  rw [← hnf] at JE ⊢
  have hpi : (p : Int) < (n : Int) := by omega
  obtain ⟨wv, hwv⟩ : ∃ r, r = wrR 150 151 153 fs c p := ⟨_, rfl⟩
  have HWV := hide hwv
  rw [← hwv]
  unfold I6 at i2
  clear h hA ht htk hpt' hop hav hn hnf hwv hT
  obtain ⟨w1, hw1⟩ : ∃ X, X = w.alloc (.cells A 71) := ⟨_, rfl⟩
  have B1 : Hid (Below w.heap.size w w1) := hw1 ▸ below_alloc w _
  have k1 : w1.heap[w.heap.size]? = some (.cells A 71 (0, 0)) := by rw [hw1]; exact heap_alloc_new w _
  obtain ⟨gA, hgA⟩ : ∃ x, x = w.heap.size := ⟨_, rfl⟩
  rw [← hgA] at k1
  have HK : Hid (∀ W, Below w1.heap.size w1 W → ∀ d, d < 65 → W.cell? ⟨gA, d, none⟩ = some (.bool (t d))) := fun W hW d hd => by
    have := (hW.block gA (lt_of_block k1)).trans k1
    rw [cell_of_row W _ _ _ 71 (0, 0) this]
    exact HA.out d hd
  obtain ⟨z0, z1⟩ := HI.out w1 B1.out
  have J1 := hide (JE.out w1 B1.out)
  have tn : IntKind.i64.wrap (n : Int) = (n : Int) := by rw [IntKind.wrap_i64]; omega
  go_enter Tryd.func27, Tryd.ntmps27
  go_upto_region 1 with fail
  rw [← hw1, ← hgA]
  clear hw1 hgA k1 HA JE
  go_wp2_with fail
  refine J1.out.mono ?_
  rintro e w2 ⟨rfl, b2⟩
  have B12 := hide b2
  have B2 := hide (below_on B1.out b2)
  clear z0 z1 J1 b2
  obtain ⟨z0, z1⟩ := HI.out w2 B2.out
  by_cases c19 : op = 19
  · subst c19
    have hd19 : True := trivial
    · clear hd19
      have hj1 : decide ((19 : Int) = 19 ∨ (19 : Int) = 20) = true := by decide
      by_cases th : 0 ≤ av ∧ av < (n : Int)
      · have HJN : Hid ((isJ (iat c p) && !thereI c (iat c p).a) = false) := HJ.out.trans (by rw [hj1, decide_eq_true th]; rfl)
        obtain ⟨th1, th2⟩ := th
        have th3 : ¬ av < 0 := by omega
        have th4 : ¬ (n : Int) ≤ av := by omega
        clear hj1
        clear HJ
        go_upto_region 5 with fail
        clear z0 z1
        go_wp2_with fail
        go_loopw [12, 13] (fun v12 v13 W => ∃ k : Nat, k ≤ 65 ∧ v13 = .int .i64 (k : Int) ∧ v12 = .int .i64 (cnT t k : Int) ∧ Hid (∀ d, d < k → t d = true → behI fs c p d ≠ none) ∧ W = w2) (fun _ v13 _ => 65 - (intOf v13).toNat)
        case atStart => exact ⟨0, by omega, rfl, rfl, fun d hd => absurd hd (by omega), rfl⟩
        case round =>
          obtain ⟨k, hk, rfl, rfl, HBS, rfl⟩ := hrel
          have hcl := cnT_le t k
          have hcs := cnT_succ t k
          by_cases hlt : k < 65
          · have hki : (k : Int) ≤ 64 := by omega
            have f0 := HK.out wr B12.out k hlt
            cases htk : t k with
            | false =>
              rw [htk] at f0 hcs
              have hcs : cnT t (k + 1) = cnT t k := by simpa using hcs
              have HBS2 : Hid (∀ d, d < k + 1 → t d = true → behI fs c p d ≠ none) := fun d hd hd2 => by
                by_cases e : d = k
                · subst e
                  rw [htk] at hd2
                  cases hd2
                · exact HBS.out d (by omega) hd2
              go_wp2_with fail
              go_roundw
              case rel => exact ⟨k + 1, by omega, by go_num, by rw [hcs], HBS2, trivial⟩
              case measure => simp [intOf]; omega
            | true =>
              rw [htk] at f0 hcs
              have hcs : cnT t (k + 1) = cnT t k + 1 := by simpa using hcs
              obtain ⟨cn, hcn⟩ : ∃ x, x = cnT t k := ⟨_, rfl⟩
              have HCN := hide hcn
              rw [← hcn] at hcl hcs ⊢
              have HCS := hide hcs
              clear hcn hcs
              have wn : IntKind.i64.wrap ((cn : Int) + 1) = (cn : Int) + 1 := by rw [IntKind.wrap_i64]; omega
              by_cases c1 : (k : Int) < tk
              · have HE : Hid (wv = 151) := HWV.out.trans (wr_bad HJN.out (HBD.out.2 (.inl ⟨k, hlt, htk, (HBE.out k).trans (if_pos c1)⟩)))
                go_wp2_with fail
                go_ret
                exact ⟨ret_int HE.out.symm, B2.out⟩
              · have w1' : IntKind.i64.wrap ((k : Int) - tk) = (k : Int) - tk := by rw [IntKind.wrap_i64]; omega
                have w2' : IntKind.i64.wrap ((k : Int) - tk + pt) = (k : Int) - tk + pt := by rw [IntKind.wrap_i64]; omega
                by_cases c2 : (k : Int) - tk + pt ≤ 64
                · have c3 : ¬ (64 : Int) < (k : Int) - tk + pt := by omega
                  have HNN : Hid (behI fs c p k ≠ none) := by unfold Hid; rw [HBE.out k, if_neg c1, if_pos c2]; simp
                  have HBS2 : Hid (∀ d, d < k + 1 → t d = true → behI fs c p d ≠ none) := fun d hd hd2 => by
                    by_cases e : d = k
                    · subst e
                      exact HNN.out
                    · exact HBS.out d (by omega) hd2
                  go_wp2_with fail
                  go_roundw
                  case rel => exact ⟨k + 1, by omega, by go_num, by rw [HCS.out]; go_num, HBS2, trivial⟩
                  case measure => simp [intOf]; omega
                · have c3 : (64 : Int) < (k : Int) - tk + pt := by omega
                  have HE : Hid (wv = 151) := HWV.out.trans (wr_bad HJN.out (HBD.out.2 (.inl ⟨k, hlt, htk, (HBE.out k).trans (by rw [if_neg c1, if_neg c2])⟩)))
                  go_wp2_with fail
                  go_ret
                  exact ⟨ret_int HE.out.symm, B2.out⟩
          · have hk65 : k = 65 := by omega
            subst hk65
            have HB65 := HBS
            obtain ⟨cn, hcn⟩ : ∃ x, x = cnT t 65 := ⟨_, rfl⟩
            have HCN := hide hcn
            rw [← hcn] at hcl ⊢
            clear hcs hcn HBS hlt hk
            by_cases c1 : (cn : Int) > 1
            · have HE : Hid (wv = 151) := HWV.out.trans (wr_bad HJN.out (HBD.out.2 (.inr (by rw [← HCN.out]; omega))))
              go_wp2_with fail
              go_ret
              exact ⟨ret_int HE.out.symm, B2.out⟩
            · have HNB : Hid (¬ Bad fs c p) := fun e => by
                rcases HBD.out.1 e with ⟨d, h1, h2, h3⟩ | h1
                · exact HB65.out d h1 h2 h3
                · rw [← HCN.out] at h1
                  omega
              have J2 := hide (JN.out wr B2.out)
              go_wp2_with fail
              refine J2.out.mono ?_
              rintro e w4 ⟨v14, rfl, ho4, b4⟩
              have LR4 := hide (own_LR ho4)
              have B4 := hide (below_on B2.out b4)
              obtain ⟨a14, c14, hv14⟩ := own_len ho4
              have hL2 := nextD_len c p
              have HND : Hid (∀ x ∈ nextD c p, 0 ≤ x ∧ x ≤ 5000) := fun x hx => by have := nextD_nn x hx; have := HNC.out; omega
              obtain ⟨L, hL⟩ : ∃ L, L = nextD c p := ⟨_, rfl⟩
              have HL := hide hL
              rw [← hL] at hv14 hL2 HND LR4
              obtain ⟨nl, hnl⟩ : ∃ x, x = L.length := ⟨_, rfl⟩
              have HNL := hide hnl
              rw [← hnl] at hv14 hL2
              subst hv14
              clear ho4 b4 J2 hL hnl
              go_wp2_with fail
              go_loopw [15] (fun v15 W => ∃ k : Nat, k ≤ nl ∧ v15 = .int .i64 (k : Int) ∧ Hid (∀ j (hj : j < L.length), j < k → L[j] < (n : Int)) ∧ W = w4) (fun v15 _ => nl - (intOf v15).toNat)
              case atStart => exact ⟨0, Nat.zero_le _, rfl, fun j _ h => absurd h (by omega), rfl⟩
              case round =>
                obtain ⟨k, hk, rfl, HFS, hwr⟩ := hrel
                subst hwr
                by_cases hlt : k < nl
                · have hki : (k : Int) < (nl : Int) := by omega
                  have hkL : k < L.length := by have := HNL.out; omega
                  obtain ⟨g14, cc14, e14, e1, e2, x0, -⟩ := LR4.out.at hkL
                  rw [← HNL.out] at e14 e1
                  injection e14 with e3 e4 e5
                  subst e3 e5
                  obtain ⟨y, hy⟩ : ∃ y, y = L[k] := ⟨_, rfl⟩
                  have HY := hide hy
                  rw [← hy] at x0
                  clear hy
                  by_cases cy : (n : Int) ≤ y
                  · have HE : Hid (wv = 153) := HWV.out.trans (wr_end HJN.out HNB.out (x := y) (by rw [HY.out, ← HL.out]; exact List.getElem_mem hkL) (by rw [← HNC.out]; exact cy))
                    go_wp2_with fail
                    go_ret
                    exact ⟨ret_int HE.out.symm, B4.out⟩
                  · have HS : Hid (∀ j (hj : j < L.length), j < k + 1 → L[j] < (n : Int)) := fun j hj h => by
                      by_cases e : j = k
                      · subst e
                        rw [← HY.out]
                        omega
                      · exact HFS.out j hj (by omega)
                    go_wp2_with fail
                    go_roundw
                    case rel => exact ⟨k + 1, by omega, by go_num, HS, trivial⟩
                    case measure => simp [intOf]; omega
                · have hki : ¬ (k : Int) < (nl : Int) := by omega
                  have HE : Hid (wv = 0) := HWV.out.trans (wr_fine HJN.out HNB.out (fun x hx => by
                    rw [← HL.out] at hx
                    obtain ⟨j, hj, rfl⟩ := List.getElem_of_mem hx
                    have := HFS.out j hj (by have := HNL.out; omega)
                    rw [← HNC.out]
                    exact this))
                  go_wp2_with fail
                  go_ret
                  exact ⟨ret_int HE.out.symm, B4.out⟩
      · have HJN : Hid (wv = 150) := HWV.out.trans (wr_jump (HJ.out.trans (by rw [hj1, decide_eq_false th]; rfl)))
        clear hj1 HJ HWV
        by_cases t1 : 0 ≤ av
        · have t2 : (n : Int) ≤ av := by
            apply Classical.byContradiction
            intro e
            exact th ⟨t1, by omega⟩
          have t3 : ¬ av < 0 := by omega
          clear th
          go_wp2_with fail
          go_ret
          exact ⟨ret_int HJN.out.symm, B2.out⟩
        · have t3 : av < 0 := by omega
          clear th
          go_wp2_with fail
          go_ret
          exact ⟨ret_int HJN.out.symm, B2.out⟩
  · by_cases c20 : op = 20
    · subst c20
      have hj1 : decide ((20 : Int) = 19 ∨ (20 : Int) = 20) = true := by decide
      by_cases th : 0 ≤ av ∧ av < (n : Int)
      · have HJN : Hid ((isJ (iat c p) && !thereI c (iat c p).a) = false) := HJ.out.trans (by rw [hj1, decide_eq_true th]; rfl)
        obtain ⟨th1, th2⟩ := th
        have th3 : ¬ av < 0 := by omega
        have th4 : ¬ (n : Int) ≤ av := by omega
        clear hj1
        clear HJ
        go_upto_region 5 with fail
        clear z0 z1
        go_wp2_with fail
        go_loopw [12, 13] (fun v12 v13 W => ∃ k : Nat, k ≤ 65 ∧ v13 = .int .i64 (k : Int) ∧ v12 = .int .i64 (cnT t k : Int) ∧ Hid (∀ d, d < k → t d = true → behI fs c p d ≠ none) ∧ W = w2) (fun _ v13 _ => 65 - (intOf v13).toNat)
        case atStart => exact ⟨0, by omega, rfl, rfl, fun d hd => absurd hd (by omega), rfl⟩
        case round =>
          obtain ⟨k, hk, rfl, rfl, HBS, rfl⟩ := hrel
          have hcl := cnT_le t k
          have hcs := cnT_succ t k
          by_cases hlt : k < 65
          · have hki : (k : Int) ≤ 64 := by omega
            have f0 := HK.out wr B12.out k hlt
            cases htk : t k with
            | false =>
              rw [htk] at f0 hcs
              have hcs : cnT t (k + 1) = cnT t k := by simpa using hcs
              have HBS2 : Hid (∀ d, d < k + 1 → t d = true → behI fs c p d ≠ none) := fun d hd hd2 => by
                by_cases e : d = k
                · subst e
                  rw [htk] at hd2
                  cases hd2
                · exact HBS.out d (by omega) hd2
              go_wp2_with fail
              go_roundw
              case rel => exact ⟨k + 1, by omega, by go_num, by rw [hcs], HBS2, trivial⟩
              case measure => simp [intOf]; omega
            | true =>
              rw [htk] at f0 hcs
              have hcs : cnT t (k + 1) = cnT t k + 1 := by simpa using hcs
              obtain ⟨cn, hcn⟩ : ∃ x, x = cnT t k := ⟨_, rfl⟩
              have HCN := hide hcn
              rw [← hcn] at hcl hcs ⊢
              have HCS := hide hcs
              clear hcn hcs
              have wn : IntKind.i64.wrap ((cn : Int) + 1) = (cn : Int) + 1 := by rw [IntKind.wrap_i64]; omega
              by_cases c1 : (k : Int) < tk
              · have HE : Hid (wv = 151) := HWV.out.trans (wr_bad HJN.out (HBD.out.2 (.inl ⟨k, hlt, htk, (HBE.out k).trans (if_pos c1)⟩)))
                go_wp2_with fail
                go_ret
                exact ⟨ret_int HE.out.symm, B2.out⟩
              · have w1' : IntKind.i64.wrap ((k : Int) - tk) = (k : Int) - tk := by rw [IntKind.wrap_i64]; omega
                have w2' : IntKind.i64.wrap ((k : Int) - tk + pt) = (k : Int) - tk + pt := by rw [IntKind.wrap_i64]; omega
                by_cases c2 : (k : Int) - tk + pt ≤ 64
                · have c3 : ¬ (64 : Int) < (k : Int) - tk + pt := by omega
                  have HNN : Hid (behI fs c p k ≠ none) := by unfold Hid; rw [HBE.out k, if_neg c1, if_pos c2]; simp
                  have HBS2 : Hid (∀ d, d < k + 1 → t d = true → behI fs c p d ≠ none) := fun d hd hd2 => by
                    by_cases e : d = k
                    · subst e
                      exact HNN.out
                    · exact HBS.out d (by omega) hd2
                  go_wp2_with fail
                  go_roundw
                  case rel => exact ⟨k + 1, by omega, by go_num, by rw [HCS.out]; go_num, HBS2, trivial⟩
                  case measure => simp [intOf]; omega
                · have c3 : (64 : Int) < (k : Int) - tk + pt := by omega
                  have HE : Hid (wv = 151) := HWV.out.trans (wr_bad HJN.out (HBD.out.2 (.inl ⟨k, hlt, htk, (HBE.out k).trans (by rw [if_neg c1, if_neg c2])⟩)))
                  go_wp2_with fail
                  go_ret
                  exact ⟨ret_int HE.out.symm, B2.out⟩
          · have hk65 : k = 65 := by omega
            subst hk65
            have HB65 := HBS
            obtain ⟨cn, hcn⟩ : ∃ x, x = cnT t 65 := ⟨_, rfl⟩
            have HCN := hide hcn
            rw [← hcn] at hcl ⊢
            clear hcs hcn HBS hlt hk
            by_cases c1 : (cn : Int) > 1
            · have HE : Hid (wv = 151) := HWV.out.trans (wr_bad HJN.out (HBD.out.2 (.inr (by rw [← HCN.out]; omega))))
              go_wp2_with fail
              go_ret
              exact ⟨ret_int HE.out.symm, B2.out⟩
            · have HNB : Hid (¬ Bad fs c p) := fun e => by
                rcases HBD.out.1 e with ⟨d, h1, h2, h3⟩ | h1
                · exact HB65.out d h1 h2 h3
                · rw [← HCN.out] at h1
                  omega
              have J2 := hide (JN.out wr B2.out)
              go_wp2_with fail
              refine J2.out.mono ?_
              rintro e w4 ⟨v14, rfl, ho4, b4⟩
              have LR4 := hide (own_LR ho4)
              have B4 := hide (below_on B2.out b4)
              obtain ⟨a14, c14, hv14⟩ := own_len ho4
              have hL2 := nextD_len c p
              have HND : Hid (∀ x ∈ nextD c p, 0 ≤ x ∧ x ≤ 5000) := fun x hx => by have := nextD_nn x hx; have := HNC.out; omega
              obtain ⟨L, hL⟩ : ∃ L, L = nextD c p := ⟨_, rfl⟩
              have HL := hide hL
              rw [← hL] at hv14 hL2 HND LR4
              obtain ⟨nl, hnl⟩ : ∃ x, x = L.length := ⟨_, rfl⟩
              have HNL := hide hnl
              rw [← hnl] at hv14 hL2
              subst hv14
              clear ho4 b4 J2 hL hnl
              go_wp2_with fail
              go_loopw [15] (fun v15 W => ∃ k : Nat, k ≤ nl ∧ v15 = .int .i64 (k : Int) ∧ Hid (∀ j (hj : j < L.length), j < k → L[j] < (n : Int)) ∧ W = w4) (fun v15 _ => nl - (intOf v15).toNat)
              case atStart => exact ⟨0, Nat.zero_le _, rfl, fun j _ h => absurd h (by omega), rfl⟩
              case round =>
                obtain ⟨k, hk, rfl, HFS, hwr⟩ := hrel
                subst hwr
                by_cases hlt : k < nl
                · have hki : (k : Int) < (nl : Int) := by omega
                  have hkL : k < L.length := by have := HNL.out; omega
                  obtain ⟨g14, cc14, e14, e1, e2, x0, -⟩ := LR4.out.at hkL
                  rw [← HNL.out] at e14 e1
                  injection e14 with e3 e4 e5
                  subst e3 e5
                  obtain ⟨y, hy⟩ : ∃ y, y = L[k] := ⟨_, rfl⟩
                  have HY := hide hy
                  rw [← hy] at x0
                  clear hy
                  by_cases cy : (n : Int) ≤ y
                  · have HE : Hid (wv = 153) := HWV.out.trans (wr_end HJN.out HNB.out (x := y) (by rw [HY.out, ← HL.out]; exact List.getElem_mem hkL) (by rw [← HNC.out]; exact cy))
                    go_wp2_with fail
                    go_ret
                    exact ⟨ret_int HE.out.symm, B4.out⟩
                  · have HS : Hid (∀ j (hj : j < L.length), j < k + 1 → L[j] < (n : Int)) := fun j hj h => by
                      by_cases e : j = k
                      · subst e
                        rw [← HY.out]
                        omega
                      · exact HFS.out j hj (by omega)
                    go_wp2_with fail
                    go_roundw
                    case rel => exact ⟨k + 1, by omega, by go_num, HS, trivial⟩
                    case measure => simp [intOf]; omega
                · have hki : ¬ (k : Int) < (nl : Int) := by omega
                  have HE : Hid (wv = 0) := HWV.out.trans (wr_fine HJN.out HNB.out (fun x hx => by
                    rw [← HL.out] at hx
                    obtain ⟨j, hj, rfl⟩ := List.getElem_of_mem hx
                    have := HFS.out j hj (by have := HNL.out; omega)
                    rw [← HNC.out]
                    exact this))
                  go_wp2_with fail
                  go_ret
                  exact ⟨ret_int HE.out.symm, B4.out⟩
      · have HJN : Hid (wv = 150) := HWV.out.trans (wr_jump (HJ.out.trans (by rw [hj1, decide_eq_false th]; rfl)))
        clear hj1 HJ HWV
        by_cases t1 : 0 ≤ av
        · have t2 : (n : Int) ≤ av := by
            apply Classical.byContradiction
            intro e
            exact th ⟨t1, by omega⟩
          have t3 : ¬ av < 0 := by omega
          clear th
          go_wp2_with fail
          go_ret
          exact ⟨ret_int HJN.out.symm, B2.out⟩
        · have t3 : av < 0 := by omega
          clear th
          go_wp2_with fail
          go_ret
          exact ⟨ret_int HJN.out.symm, B2.out⟩
    · have b19 : (op == 19) = false := beq_eq_false_iff_ne.2 c19
      have b20 : (op == 20) = false := beq_eq_false_iff_ne.2 c20
      have HJN : Hid ((isJ (iat c p) && !thereI c (iat c p).a) = false) := HJ.out.trans (by rw [decide_eq_false (by omega)]; rfl)
      clear HJ
      go_upto_region 5 with fail
      clear z0 z1
      go_wp2_with fail
      go_loopw [12, 13] (fun v12 v13 W => ∃ k : Nat, k ≤ 65 ∧ v13 = .int .i64 (k : Int) ∧ v12 = .int .i64 (cnT t k : Int) ∧ Hid (∀ d, d < k → t d = true → behI fs c p d ≠ none) ∧ W = w2) (fun _ v13 _ => 65 - (intOf v13).toNat)
      case atStart => exact ⟨0, by omega, rfl, rfl, fun d hd => absurd hd (by omega), rfl⟩
      case round =>
        obtain ⟨k, hk, rfl, rfl, HBS, rfl⟩ := hrel
        have hcl := cnT_le t k
        have hcs := cnT_succ t k
        by_cases hlt : k < 65
        · have hki : (k : Int) ≤ 64 := by omega
          have f0 := HK.out wr B12.out k hlt
          cases htk : t k with
          | false =>
            rw [htk] at f0 hcs
            have hcs : cnT t (k + 1) = cnT t k := by simpa using hcs
            have HBS2 : Hid (∀ d, d < k + 1 → t d = true → behI fs c p d ≠ none) := fun d hd hd2 => by
              by_cases e : d = k
              · subst e
                rw [htk] at hd2
                cases hd2
              · exact HBS.out d (by omega) hd2
            go_wp2_with fail
            go_roundw
            case rel => exact ⟨k + 1, by omega, by go_num, by rw [hcs], HBS2, trivial⟩
            case measure => simp [intOf]; omega
          | true =>
            rw [htk] at f0 hcs
            have hcs : cnT t (k + 1) = cnT t k + 1 := by simpa using hcs
            obtain ⟨cn, hcn⟩ : ∃ x, x = cnT t k := ⟨_, rfl⟩
            have HCN := hide hcn
            rw [← hcn] at hcl hcs ⊢
            have HCS := hide hcs
            clear hcn hcs
            have wn : IntKind.i64.wrap ((cn : Int) + 1) = (cn : Int) + 1 := by rw [IntKind.wrap_i64]; omega
            by_cases c1 : (k : Int) < tk
            · have HE : Hid (wv = 151) := HWV.out.trans (wr_bad HJN.out (HBD.out.2 (.inl ⟨k, hlt, htk, (HBE.out k).trans (if_pos c1)⟩)))
              go_wp2_with fail
              go_ret
              exact ⟨ret_int HE.out.symm, B2.out⟩
            · have w1' : IntKind.i64.wrap ((k : Int) - tk) = (k : Int) - tk := by rw [IntKind.wrap_i64]; omega
              have w2' : IntKind.i64.wrap ((k : Int) - tk + pt) = (k : Int) - tk + pt := by rw [IntKind.wrap_i64]; omega
              by_cases c2 : (k : Int) - tk + pt ≤ 64
              · have c3 : ¬ (64 : Int) < (k : Int) - tk + pt := by omega
                have HNN : Hid (behI fs c p k ≠ none) := by unfold Hid; rw [HBE.out k, if_neg c1, if_pos c2]; simp
                have HBS2 : Hid (∀ d, d < k + 1 → t d = true → behI fs c p d ≠ none) := fun d hd hd2 => by
                  by_cases e : d = k
                  · subst e
                    exact HNN.out
                  · exact HBS.out d (by omega) hd2
                go_wp2_with fail
                go_roundw
                case rel => exact ⟨k + 1, by omega, by go_num, by rw [HCS.out]; go_num, HBS2, trivial⟩
                case measure => simp [intOf]; omega
              · have c3 : (64 : Int) < (k : Int) - tk + pt := by omega
                have HE : Hid (wv = 151) := HWV.out.trans (wr_bad HJN.out (HBD.out.2 (.inl ⟨k, hlt, htk, (HBE.out k).trans (by rw [if_neg c1, if_neg c2])⟩)))
                go_wp2_with fail
                go_ret
                exact ⟨ret_int HE.out.symm, B2.out⟩
        · have hk65 : k = 65 := by omega
          subst hk65
          have HB65 := HBS
          obtain ⟨cn, hcn⟩ : ∃ x, x = cnT t 65 := ⟨_, rfl⟩
          have HCN := hide hcn
          rw [← hcn] at hcl ⊢
          clear hcs hcn HBS hlt hk
          by_cases c1 : (cn : Int) > 1
          · have HE : Hid (wv = 151) := HWV.out.trans (wr_bad HJN.out (HBD.out.2 (.inr (by rw [← HCN.out]; omega))))
            go_wp2_with fail
            go_ret
            exact ⟨ret_int HE.out.symm, B2.out⟩
          · have HNB : Hid (¬ Bad fs c p) := fun e => by
              rcases HBD.out.1 e with ⟨d, h1, h2, h3⟩ | h1
              · exact HB65.out d h1 h2 h3
              · rw [← HCN.out] at h1
                omega
            have J2 := hide (JN.out wr B2.out)
            go_wp2_with fail
            refine J2.out.mono ?_
            rintro e w4 ⟨v14, rfl, ho4, b4⟩
            have LR4 := hide (own_LR ho4)
            have B4 := hide (below_on B2.out b4)
            obtain ⟨a14, c14, hv14⟩ := own_len ho4
            have hL2 := nextD_len c p
            have HND : Hid (∀ x ∈ nextD c p, 0 ≤ x ∧ x ≤ 5000) := fun x hx => by have := nextD_nn x hx; have := HNC.out; omega
            obtain ⟨L, hL⟩ : ∃ L, L = nextD c p := ⟨_, rfl⟩
            have HL := hide hL
            rw [← hL] at hv14 hL2 HND LR4
            obtain ⟨nl, hnl⟩ : ∃ x, x = L.length := ⟨_, rfl⟩
            have HNL := hide hnl
            rw [← hnl] at hv14 hL2
            subst hv14
            clear ho4 b4 J2 hL hnl
            go_wp2_with fail
            go_loopw [15] (fun v15 W => ∃ k : Nat, k ≤ nl ∧ v15 = .int .i64 (k : Int) ∧ Hid (∀ j (hj : j < L.length), j < k → L[j] < (n : Int)) ∧ W = w4) (fun v15 _ => nl - (intOf v15).toNat)
            case atStart => exact ⟨0, Nat.zero_le _, rfl, fun j _ h => absurd h (by omega), rfl⟩
            case round =>
              obtain ⟨k, hk, rfl, HFS, hwr⟩ := hrel
              subst hwr
              by_cases hlt : k < nl
              · have hki : (k : Int) < (nl : Int) := by omega
                have hkL : k < L.length := by have := HNL.out; omega
                obtain ⟨g14, cc14, e14, e1, e2, x0, -⟩ := LR4.out.at hkL
                rw [← HNL.out] at e14 e1
                injection e14 with e3 e4 e5
                subst e3 e5
                obtain ⟨y, hy⟩ : ∃ y, y = L[k] := ⟨_, rfl⟩
                have HY := hide hy
                rw [← hy] at x0
                clear hy
                by_cases cy : (n : Int) ≤ y
                · have HE : Hid (wv = 153) := HWV.out.trans (wr_end HJN.out HNB.out (x := y) (by rw [HY.out, ← HL.out]; exact List.getElem_mem hkL) (by rw [← HNC.out]; exact cy))
                  go_wp2_with fail
                  go_ret
                  exact ⟨ret_int HE.out.symm, B4.out⟩
                · have HS : Hid (∀ j (hj : j < L.length), j < k + 1 → L[j] < (n : Int)) := fun j hj h => by
                    by_cases e : j = k
                    · subst e
                      rw [← HY.out]
                      omega
                    · exact HFS.out j hj (by omega)
                  go_wp2_with fail
                  go_roundw
                  case rel => exact ⟨k + 1, by omega, by go_num, HS, trivial⟩
                  case measure => simp [intOf]; omega
              · have hki : ¬ (k : Int) < (nl : Int) := by omega
                have HE : Hid (wv = 0) := HWV.out.trans (wr_fine HJN.out HNB.out (fun x hx => by
                  rw [← HL.out] at hx
                  obtain ⟨j, hj, rfl⟩ := List.getElem_of_mem hx
                  have := HFS.out j hj (by have := HNL.out; omega)
                  rw [← HNC.out]
                  exact this))
                go_wp2_with fail
                go_ret
                exact ⟨ret_int HE.out.symm, B4.out⟩
end Go.Proofs.YtklamaibinjcmaaDoor

/-
  Verify: the document's Depths.
-/
namespace Go.Proofs.YtklamaibinjcmaaDoor
open Go.RowKit
set_option maxRecDepth 100000
/-- What is found so far of the least depth: looked at from 64 down to k. -/
def LowT (t : Nat → Bool) (k : Nat) (d : Int) : Prop := (d = -1 ∧ ∀ e, k ≤ e → e < 65 → t e = false) ∨ ∃ n : Nat, d = (n : Int) ∧ k ≤ n ∧ n < 65 ∧ t n = true ∧ ∀ e, k ≤ e → e < n → t e = false
theorem LowT.start (t : Nat → Bool) : LowT t 65 (-1) := .inl ⟨rfl, fun e h1 h2 => absurd h2 (by omega)⟩
theorem LowT.yes {t : Nat → Bool} {k : Nat} (h : t k = true) (hk : k < 65) : LowT t k (k : Int) := .inr ⟨k, rfl, Nat.le_refl _, hk, h, fun e h1 h2 => absurd h2 (by omega)⟩
theorem LowT.no {t : Nat → Bool} {k : Nat} {d : Int} (h : LowT t (k + 1) d) (hk : t k = false) : LowT t k d := by
  rcases h with ⟨h1, h2⟩ | ⟨n, h1, h2, h3, h4, h5⟩
  · refine .inl ⟨h1, fun e e1 e2 => ?_⟩
    by_cases c : e = k
    · subst c; exact hk
    · exact h2 e (by omega) e2
  · refine .inr ⟨n, h1, by omega, h3, h4, fun e e1 e2 => ?_⟩
    by_cases c : e = k
    · subst c; exact hk
    · exact h5 e (by omega) e2
theorem LowT.done {fs : List Rt} {c : List Ins} {T : Nat → Nat → Bool} {p : Nat} {d : Int} (h : LowT (T p) 0 d) (hT : ∀ p d, T p d = true ↔ Rch fs c p d) (h0 : 0 < c.length) : (d = -1 ∧ ¬ Rcd fs c p) ∨ ∃ n : Nat, d = (n : Int) ∧ n < 65 ∧ Rch fs c p n := by
  rcases h with ⟨h1, h2⟩ | ⟨n, h1, -, h3, h4, -⟩
  · refine .inl ⟨h1, fun ⟨e, he⟩ => ?_⟩
    have := h2 e (by omega) (by have := (he.lt h0).2; omega)
    rw [(hT p e).2 he] at this
    cases this
  · exact .inr ⟨n, h1, h3, (hT p n).1 h4⟩
theorem tm_range {W : World} {g n p : Nat} {T : Nat → Nat → Bool} (h : Tm W g n T) (hp : p < n) : W.rangeAt g (p * 65) (dArr (T p)).toList := fun j v hj => by
  have hj2 := (List.getElem?_eq_some_iff.1 hj).1
  rw [Array.length_toList, dArr_size] at hj2
  rw [(h.at hp hj2).1]
  rw [Array.getElem?_toList, dArr_at _ _ hj2] at hj
  exact hj
/-- What the document answers. -/
def DDout (B : Nat) (fs : List Rt) (c : List Ins) (w' : World) (e : Ending) : Prop := ∃ v at_ er l, e = .returned (.tuple #[v, .int .i64 at_, .int .i64 er]) ∧ DA fs c at_ er l ∧ w'.ownsRow B 3 1 v l.length (zq l)
theorem one_nl (W : World) (x : Int) (hx : I6 x) : Nl (fun _ => True) (W.alloc (.cells #[.int .i64 x] 3)) (.slice (some ⟨W.heap.size, 0, none⟩) 1 1) [x] := by
  have k : ∀ j, (W.alloc (.cells #[.int .i64 x] 3)).cell? ⟨W.heap.size, j, none⟩ = (#[Value.int .i64 x] : Array Value)[j]? := fun j => cell_of_row _ _ _ _ 3 (0, 0) (heap_alloc_new W _)
  refine ⟨_, 1, rfl, Nat.le_refl 1, by decide, fun _ => ⟨_, 0, rfl, trivial, fun i hi => ?_⟩⟩
  match i, hi with
  | 0, _ => exact ⟨hx, k 0⟩
theorem zq_range (f : Nat → Int) (i : Nat) : zq ((List.range i).map f) ++ zq [f i] = zq ((List.range (i + 1)).map f) := by
  simp [zq, List.range_succ]
/-- What the document's walk over the instructions holds. -/
structure Dwd (w : World) (B gp gT n : Nat) (vs vf : Value) (fs : List Rt) (c : List Ins) (T : Nat → Nat → Bool) (i : Nat) (v : Value) (W : World) : Prop where
  own : W.ownsRow B 3 1 v i (zq ((List.range i).map fun p => dpR fs c p))
  b : Below w.heap.size w W
  tm : Tm W gT n T
  pr : W.heap[gp]? = some (.cells #[vs, vf] 25 (0, 0))
  ok : ∀ p, p < i → Rcd fs c p → wrR 150 151 153 fs c p = 0
theorem Dwd.later {w W W' : World} {B gp gT n i : Nat} {vs vf v : Value} {fs : List Rt} {c : List Ins} {T : Nat → Nat → Bool} (h : Dwd w B gp gT n vs vf fs c T i v W) (hb : Below W.heap.size W W') : Dwd w B gp gT n vs vf fs c T i v W' := ⟨own_later h.own hb, below_on h.b hb, h.tm.later hb, (hb.block _ (lt_of_block h.pr)).trans h.pr, h.ok⟩
theorem Dwd.put {w W W' : World} {B gp gT n i : Nat} {vs vf v v' : Value} {fs : List Rt} {c : List Ins} {T : Nat → Nat → Bool} (h : Dwd w B gp gT n vs vf fs c T i v W) (hB : B = w.heap.size) (hg : W.grownBy W' v.ownBlock) (ho : W'.ownsRow B 3 1 v' (i + 1) (zq ((List.range (i + 1)).map fun p => dpR fs c p))) (hok : Rcd fs c i → wrR 150 151 153 fs c i = 0) : Dwd w B gp gT n vs vf fs c T (i + 1) v' W' := by
  have k : ∀ {g t : Nat} {cs : Array Value}, W.heap[g]? = some (.cells cs t (0, 0)) → t ≠ 3 → W'.heap[g]? = some (.cells cs t (0, 0)) := fun {g t cs} hg' ht => by
    refine (hg.block g (lt_of_block hg') (fun e => ?_)).trans hg'
    obtain ⟨ds, hd⟩ := own_blk2 h.own e.symm
    rw [hg'] at hd
    injection hd with hd
    injection hd with h1 h2
    exact ht h2
  obtain ⟨cs, e1, e2⟩ := h.tm
  refine ⟨ho, h.b.grown hg h.b.size (fun j e => by have := (h.own.lt j e).1; omega), ⟨cs, k e1 (by decide), e2⟩, k h.pr (by decide), fun p hp hr => ?_⟩
  by_cases e : p = i
  · subst e
    exact hok hr
  · exact h.ok p (by omega) hr
set_option maxHeartbeats 8000000 in
theorem ddepths_any {Q : Nat → Prop} {w : World} {vs vf vc : Value} {c : List Ins} {fs : List Rt} (nm : ByteArray) (pa lo : Int) (hs : ∃ a n c, vs = .slice a n c) (h : Il Q w vc c) (hf : Rts Q w vf fs) : Calls Tryd.prog 12 #[.agg #[vs, vf], .agg #[.string nm, .int .i64 pa, .int .i64 lo, vc]] w fun e w' => DDout w.heap.size fs c w' e ∧ Below w.heap.size w w' := by
  have JR : Hid (∀ W, Below w.heap.size w W → 0 < c.length → c.length ≤ 2000 → Calls Tryd.prog 26 #[vc, vf] W fun e w' => ∃ T, e = .returned (.slice (some ⟨W.heap.size, 0, none⟩) c.length c.length) ∧ Tm w' W.heap.size c.length T ∧ (∀ p d, T p d = true ↔ Rch fs c p d) ∧ Below W.heap.size W w') := fun W hW h0 hc => dreached_any (h.later hW) (hf.later hW) h0 hc
  have JW : Hid (∀ W (T : Nat → Nat → Bool) p, Below w.heap.size w W → c.length ≤ 2000 → (∀ p d, T p d = true ↔ Rch fs c p d) → p < c.length → Calls Tryd.prog 27 #[vc, .int .i64 ((p : Nat) : Int), .agg (dArr (T p)), vf] W fun e w' => e = .returned (.int .i64 (wrR 150 151 153 fs c p)) ∧ Below W.heap.size W w') := fun W T p hW hc hT hp => dwrong_any (h.later hW) (hf.later hW) hc hT p hp
  obtain ⟨ao, co, rfl, h1, h2⟩ := h.at
  obtain ⟨af, cf, rfl, -, -, -⟩ := hf
  obtain ⟨as', ns, cs, rfl⟩ := hs
  obtain ⟨n, hn⟩ : ∃ n, n = c.length := ⟨_, rfl⟩
  obtain ⟨nf, hnf⟩ : ∃ n, n = fs.length := ⟨_, rfl⟩
  rw [← hn, ← hnf] at JR JW
  rw [← hn] at h1 ⊢
  rw [← hnf]
  have HN := hide hn
  clear h hn hnf
  obtain ⟨w0, hw0⟩ : ∃ X, X = (w.alloc (.cells #[.slice as' ns cs, .slice af nf cf] 25)).alloc (.cells #[.string nm, .int .i64 pa, .int .i64 lo, .slice ao n co] 28) := ⟨_, rfl⟩
  have B0 : Hid (Below w.heap.size w w0) := by unfold Hid; rw [hw0]; exact below_on (below_alloc w _) (below_alloc _ _)
  have hb : w0.heap[w.heap.size]? = some (.cells #[.slice as' ns cs, .slice af nf cf] 25 (0, 0)) := by
    rw [hw0]
    exact ((below_alloc (w.alloc (.cells #[.slice as' ns cs, .slice af nf cf] 25)) _).block w.heap.size (by simp)).trans (heap_alloc_new w _)
  have hb' : w0.heap[w.heap.size + 1]? = some (.cells #[.string nm, .int .i64 pa, .int .i64 lo, .slice ao n co] 28 (0, 0)) := by
    rw [hw0]
    have := heap_alloc_new (w.alloc (.cells #[.slice as' ns cs, .slice af nf cf] 25)) (.cells #[.string nm, .int .i64 pa, .int .i64 lo, .slice ao n co] 28)
    simpa using this
  have c1 : w0.cell? ⟨w.heap.size, 1, none⟩ = some (.slice af nf cf) := by rw [cell_of_row _ _ _ _ 25 (0, 0) hb]; rfl
  have c2 : w0.cell? ⟨w.heap.size + 1, 3, none⟩ = some (.slice ao n co) := by rw [cell_of_row _ _ _ _ 28 (0, 0) hb']; rfl
  obtain ⟨gp, hgp⟩ : ∃ x, x = w.heap.size := ⟨_, rfl⟩
  obtain ⟨gr, hgr⟩ : ∃ x, x = w.heap.size + 1 := ⟨_, rfl⟩
  rw [← hgr] at c2
  rw [← hgp] at c1 hb
  have PR := hide hb
  have HGP := hide hgp
  go_enter Tryd.func12, Tryd.ntmps12
  go_upto_region 1 with fail
  rw [← hw0, ← hgr, ← hgp]
  clear hw0 hgr hgp hb hb'
  by_cases cn : (n : Int) > 2000
  · have HO : Hid (2000 < c.length) := by have := HN.out; unfold Hid; omega
    go_wp2_with fail
    go_ret3
    exact ⟨⟨_, 0, 130, [], rfl, .inl ⟨HO.out, rfl, rfl, rfl⟩, World.ownsRow_nil _ _ _ _⟩, B0.out⟩
  by_cases c0 : n = 0
  · have HO : Hid (c = []) := List.eq_nil_of_length_eq_zero (by have := HN.out; omega)
    subst c0
    go_wp2_with fail
    go_ret3
    exact ⟨⟨_, 0, 153, [], rfl, .inr (.inl ⟨HO.out, rfl, rfl, rfl⟩), World.ownsRow_nil _ _ _ _⟩, B0.out⟩
  have t0 : ((n : Int) == 0) = false := beq_eq_false_iff_ne.2 (by omega)
  have hn2 : n ≤ 2000 := by omega
  have HC : Hid (c.length ≤ 2000 ∧ c ≠ [] ∧ 0 < c.length) := by have := HN.out; exact ⟨by omega, fun e => c0 (by rw [this, e]; rfl), by omega⟩
  have J1 := hide (JR.out w0 B0.out (by omega) hn2)
  go_upto_region 6 with fail
  go_wp2_with fail
  refine J1.out.mono ?_
  rintro e w1 ⟨T, rfl, htm, hT, b1⟩
  have HT := hide hT
  obtain ⟨gT, hgT⟩ : ∃ x, x = w0.heap.size := ⟨_, rfl⟩
  rw [← hgT] at htm ⊢
  have DW0 : Hid (Dwd w gp gp gT n (.slice as' ns cs) (.slice af nf cf) fs c T 0 (.slice none 0 0) w1) := ⟨World.ownsRow_nil _ _ _ _, below_on B0.out b1, htm, (b1.block gp (lt_of_block PR.out)).trans PR.out, fun p hp => absurd hp (by omega)⟩
  clear hT htm b1 hgT J1 c1 c2 PR JR
  go_wp2_with fail
  go_loopw [9, 10] (fun v9 v10 W => ∃ i : Nat, i ≤ n ∧ v10 = .int .i64 (i : Int) ∧ Hid (Dwd w gp gp gT n (.slice as' ns cs) (.slice af nf cf) fs c T i v9 W)) (fun _ v10 _ => n - (intOf v10).toNat)
  case atStart => exact ⟨0, Nat.zero_le _, rfl, DW0⟩
  case round =>
    obtain ⟨i, hi, rfl, HD⟩ := hrel
    clear DW0
    obtain ⟨a9, c9, rfl⟩ := own_len HD.out.own
    obtain ⟨q1, q2⟩ := own_cap HD.out.own
    by_cases hlt : i < n
    · have hii : (i : Int) < (n : Int) := by omega
      obtain ⟨wQ, hwQ⟩ : ∃ X, X = wr := ⟨_, rfl⟩
      rw [← hwQ] at HD ⊢
      clear hwQ
      have HTC : Hid (∀ k, k < 65 → wQ.cell? ⟨gT, i * 65 + k, none⟩ = some (.bool (T i k))) := fun k hk => (HD.out.tm.at hlt hk).1
      go_wp2_with fail
      go_loopw [11, 12] (fun v11 v12 W => ∃ (k : Nat) (d : Int), k ≤ 65 ∧ v12 = .int .i64 ((k : Int) - 1) ∧ v11 = .int .i64 d ∧ Hid (LowT (T i) k d) ∧ W = wQ) (fun _ v12 _ => (intOf v12 + 1).toNat)
      case atStart => exact ⟨65, -1, by omega, rfl, rfl, LowT.start _, rfl⟩
      case round =>
        obtain ⟨k, d, hk, rfl, rfl, HLW, hW⟩ := hrel
        subst hW
        by_cases hk0 : k = 0
        · subst hk0
          rcases HLW.out.done HT.out HC.out.2.2 with ⟨rfl, hnr⟩ | ⟨m, rfl, hm, hrc⟩
          · have HOK : Hid (Rcd fs c i → wrR 150 151 153 fs c i = 0) := fun e => absurd e hnr
            have HDP : Hid (dpR fs c i = -1) := dpR_no hnr
            clear hnr HLW HTC
            obtain ⟨WX, hWX⟩ : ∃ X, X = wr := ⟨_, rfl⟩
            rw [← hWX] at HD ⊢
            clear hWX
            have hdd : -1 ≤ (-1 : Int) ∧ (-1 : Int) ≤ 64 := by omega
            have HX : Hid (I6 (-1)) := by unfold Hid I6; omega
            have BA := hide (below_alloc WX (.cells #[.int .i64 (-1)] 3))
            have HDA := hide (HD.out.later BA.out)
            go_wp2_with (at_builtin; refine appendNl rfl _ _ rfl gp _ i (zq ((List.range i).map fun p => dpR fs c p)) rfl ?a1 _ [(-1)] rfl (one_nl WX (-1) HX.out) ?a2 ?a3 ?_)
            case a1 => exact HDA.out.own
            case a2 => show i + 1 ≤ _; omega
            case a3 => rw [HGP.out]; exact HDA.out.b.size
            intro v9 w9 ho9 hg9
            have RN : Hid (Dwd w gp gp gT n (.slice as' ns cs) (.slice af nf cf) fs c T (i + 1) v9 w9) := by
              refine HDA.out.put HGP.out hg9 ?_ HOK.out
              rw [← zq_range, HDP.out]
              exact ho9
            obtain ⟨a8, c8, rfl⟩ := own_len RN.out.own
            clear ho9 hg9 HDA BA HD
            go_wp2_with fail
            go_roundw
            case rel => exact ⟨i + 1, by omega, by go_num, RN⟩
            case measure => simp [intOf]; omega
          · have HRC := hide hrc
            have J2 := hide (JW.out wr.drew T i (below_on HD.out.b (below_drew wr)) hn2 HT.out hlt)
            obtain ⟨wv, hwv⟩ : ∃ x, x = wrR 150 151 153 fs c i := ⟨_, rfl⟩
            have HWV := hide hwv
            rw [← hwv] at J2
            obtain ⟨C, hC⟩ : ∃ C, C = (List.range 65).map fun d => Value.bool (T i d) := ⟨_, rfl⟩
            have hCA : dArr (T i) = C.toArray := by rw [hC]; rfl
            rw [hCA] at J2
            have hinfo : (Tryd.prog.info? 71).map (·.size) = some C.length := by rw [hC, List.length_map, List.length_range]; kernel_rfl
            have hund := Tryd.underlying71
            have SX : Hid (∀ V, Below wr.heap.size wr V → V.rangeAt gT (i * 65) C ∧ V.cell? ⟨gp, 1, none⟩ = some (.slice af nf cf)) := fun V hV => by
              have hD := HD.out.later hV
              refine ⟨?_, by rw [cell_of_row V _ _ _ 25 (0, 0) hD.pr]; rfl⟩
              have := tm_range hD.tm hlt
              rw [hCA] at this
              exact this
            have S0 := hide (SX.out wr.drew (below_drew wr))
            clear hwv hC hCA hrc HLW HTC
            go_upto_region 18 with fail
            go_region_held3 (fun V => V.rangeAt gT (i * 65) C ∧ V.cell? ⟨gp, 1, none⟩ = some (.slice af nf cf)) (first | exact S0.out | exact S1) ((go_at_call 27; refine J2.out.mono ?_; rintro e w5 ⟨rfl, b5⟩; have B5 := hide (below_on (below_drew wr) b5); have S1 := SX.out w5 B5.out; clear b5))
            have HD5 := hide (HD.out.later B5.out)
            clear S0 S1 SX J2 hinfo hund HD B5
            by_cases hw0 : wv = 0
            · have hwr : wrR 150 151 153 fs c i = 0 := by rw [← HWV.out]; exact hw0
              have HOK : Hid (Rcd fs c i → wrR 150 151 153 fs c i = 0) := fun _ => hwr
              have HDP : Hid (dpR fs c i = (m : Int)) := (wrR_ok (by decide) (by decide) (by decide) HRC.out hwr).2.1
              subst hw0
              obtain ⟨WX, hWX⟩ : ∃ X, X = w5 := ⟨_, rfl⟩
              rw [← hWX] at HD5 ⊢
              have HD := HD5
              clear hWX hwr HD5
              have HX : Hid (I6 (m : Int)) := by unfold Hid I6; omega
              have BA := hide (below_alloc WX (.cells #[.int .i64 (m : Int)] 3))
              have HDA := hide (HD.out.later BA.out)
              go_wp2_with (at_builtin; refine appendNl rfl _ _ rfl gp _ i (zq ((List.range i).map fun p => dpR fs c p)) rfl ?a1 _ [(m : Int)] rfl (one_nl WX (m : Int) HX.out) ?a2 ?a3 ?_)
              case a1 => exact HDA.out.own
              case a2 => show i + 1 ≤ _; omega
              case a3 => rw [HGP.out]; exact HDA.out.b.size
              intro v9 w9 ho9 hg9
              have RN : Hid (Dwd w gp gp gT n (.slice as' ns cs) (.slice af nf cf) fs c T (i + 1) v9 w9) := by
                refine HDA.out.put HGP.out hg9 ?_ HOK.out
                rw [← zq_range, HDP.out]
                exact ho9
              obtain ⟨a8, c8, rfl⟩ := own_len RN.out.own
              clear ho9 hg9 HDA BA HD
              go_wp2_with fail
              go_roundw
              case rel => exact ⟨i + 1, by omega, by go_num, RN⟩
              case measure => simp [intOf]; omega
            · have t5 : ((wv : Int) == 0) = false := beq_eq_false_iff_ne.2 hw0
              have t6 : ((wv : Int) != 0) = true := by simp [hw0]
              have HF : Hid (DDout w.heap.size fs c w5 (.returned (.tuple #[.slice none 0 0, .int .i64 (i : Int), .int .i64 wv]))) := by
                refine ⟨_, (i : Int), wv, [], rfl, .inr (.inr (.inl ⟨HC.out.1, HC.out.2.1, i, ⟨by have := HN.out; omega, ⟨⟨m, HRC.out⟩, by rw [← HWV.out]; exact hw0⟩, fun j hj e => e.2 (HD5.out.ok j hj e.1)⟩, rfl, HWV.out, rfl⟩)), World.ownsRow_nil _ _ _ _⟩
              have BF := hide HD5.out.b
              clear HD5 hw0
              go_wp2_with fail
              go_ret3
              exact ⟨HF.out, BF.out⟩
        · obtain ⟨k, rfl⟩ : ∃ x, k = x + 1 := ⟨k - 1, by omega⟩
          have ek : (((k + 1 : Nat) : Int) - 1) = (k : Int) := by omega
          rw [ek]
          have f0 := HTC.out k (by omega)
          have hki : (k : Int) < 65 := by omega
          cases hT0 : T i k with
          | true =>
            rw [hT0] at f0
            have HL2 : Hid (LowT (T i) k (k : Int)) := LowT.yes hT0 (by omega)
            clear ek HLW
            go_wp2_with fail
            go_roundw
            case rel => exact ⟨k, _, by omega, by go_num, rfl, HL2, trivial⟩
            case measure => simp [intOf]
          | false =>
            rw [hT0] at f0
            have HL2 : Hid (LowT (T i) k d) := HLW.out.no hT0
            clear ek HLW
            go_wp2_with fail
            go_roundw
            case rel => exact ⟨k, _, by omega, by go_num, rfl, HL2, trivial⟩
            case measure => simp [intOf]
    · have hii : ¬ (i : Int) < (n : Int) := by omega
      obtain rfl : i = n := by omega
      have HF : Hid (DDout w.heap.size fs c wr (.returned (.tuple #[.slice a9 i c9, .int .i64 0, .int .i64 0]))) := by
        have ho := HD.out.own
        refine ⟨_, 0, 0, (List.range c.length).map fun p => dpR fs c p, rfl, .inr (.inr (.inr ⟨HC.out.1, HC.out.2.1, fun p hp e => e.2 (HD.out.ok p (by have := HN.out; omega) e.1), rfl, rfl, rfl⟩)), ?_⟩
        rw [List.length_map, List.length_range, ← HN.out, ← HGP.out]
        exact ho
      have BF := hide HD.out.b
      clear HD
      go_wp2_with fail
      go_ret3
      exact ⟨HF.out, BF.out⟩
end Go.Proofs.YtklamaibinjcmaaDoor
