import Derived.RowKit
import Derived.Test.YtfkhhplcogedmaaGreatDoorMgB
/-
  Verify: ways and rounds, plain: who comes back; what is reached, and how deep.
-/
namespace Go.Proofs.YtfkhhplcogedmaaGreatDoor
/-! ### Sums that shrink -/
def sumU (n : Nat) (f : Nat → Nat) : Nat := ((List.range n).map f).sum
theorem sumU_succ (n : Nat) (f : Nat → Nat) : sumU (n + 1) f = sumU n f + f n := by
  unfold sumU
  rw [List.range_succ, List.map_append, List.sum_append]
  simp
theorem sumU_same {n : Nat} {f g : Nat → Nat} (h : ∀ y, y < n → f y = g y) : sumU n f = sumU n g := by
  induction n with
  | zero => rfl
  | succ n ih => rw [sumU_succ, sumU_succ, ih (fun y hy => h y (by omega)), h n (by omega)]
theorem sumU_less {n x c : Nat} {f g : Nat → Nat} (hx : x < n) (hfg : ∀ y, y ≠ x → f y = g y) (h : g x + c = f x) : sumU n g + c = sumU n f := by
  induction n with
  | zero => omega
  | succ n ih =>
    rw [sumU_succ, sumU_succ]
    by_cases e : x = n
    · subst e
      have := sumU_same (n := x) (f := f) (g := g) (fun y hy => hfg y (by omega))
      omega
    · have := ih (by omega)
      have := hfg n (fun c => e c.symm)
      omega
/-! ### Ways in a graph -/
def pth (E : Nat → List Nat) : Nat → Nat → Nat → Prop
  | 0, a, b => a = b
  | k + 1, a, b => ∃ c, c ∈ E a ∧ pth E k c b
/-- From a place one comes to itself. -/
def Cyc (E : Nat → List Nat) (a : Nat) : Prop := ∃ k, pth E (k + 1) a a
section
variable {E : Nat → List Nat}
theorem pth_snoc : ∀ {k a b c : Nat}, pth E k a b → c ∈ E b → pth E (k + 1) a c
  | 0, a, b, c, h, hc => ⟨c, by rw [show a = b from h]; exact hc, rfl⟩
  | k + 1, a, b, c, ⟨d, hd, h⟩, hc => ⟨d, hd, pth_snoc h hc⟩
/-- What one who looks for a way back holds: the places seen, and those to look at. -/
structure Cb (E : Nat → List Nat) (n a : Nat) (seen : Nat → Bool) (op : List Nat) : Prop where
  way : ∀ x ∈ op, ∃ k, pth E (k + 1) a x
  first : ∀ y ∈ E a, seen y = true ∨ y ∈ op
  next : ∀ x, seen x = true → ∀ y ∈ E x, seen y = true ∨ y ∈ op
  not : seen a = false
  lt : ∀ x ∈ op, x < n
theorem Cb.init {n a : Nat} (hE : ∀ y ∈ E a, y < n) : Cb E n a (fun _ => false) (E a) where
  way := fun x hx => ⟨0, x, hx, rfl⟩
  first := fun y hy => .inr hy
  next := fun x hx => by cases hx
  not := rfl
  lt := hE
theorem Cb.found {n a : Nat} {seen : Nat → Bool} {op : List Nat} (h : Cb E n a seen (op ++ [a])) : Cyc E a := h.way a (by simp)
theorem Cb.known {n a x : Nat} {seen : Nat → Bool} {op : List Nat} (h : Cb E n a seen (op ++ [x])) (hx : seen x = true) : Cb E n a seen op where
  way := fun y hy => h.way y (by simp [hy])
  first := fun y hy => by
    rcases h.first y hy with c | c
    · exact .inl c
    · rw [List.mem_append, List.mem_singleton] at c
      rcases c with c | rfl
      · exact .inr c
      · exact .inl hx
  next := fun z hz y hy => by
    rcases h.next z hz y hy with c | c
    · exact .inl c
    · rw [List.mem_append, List.mem_singleton] at c
      rcases c with c | rfl
      · exact .inr c
      · exact .inl hx
  not := h.not
  lt := fun y hy => h.lt y (by simp [hy])
theorem Cb.new {n a x : Nat} {seen : Nat → Bool} {op : List Nat} (h : Cb E n a seen (op ++ [x])) (hne : x ≠ a) (hE : ∀ y ∈ E x, y < n) : Cb E n a (fun y => seen y || decide (y = x)) (op ++ E x) where
  way := fun y hy => by
    rw [List.mem_append] at hy
    rcases hy with hy | hy
    · exact h.way y (by simp [hy])
    · obtain ⟨k, hk⟩ := h.way x (by simp)
      exact ⟨k + 1, pth_snoc hk hy⟩
  first := fun y hy => by
    rcases h.first y hy with c | c
    · exact .inl (by simp [c])
    · rw [List.mem_append, List.mem_singleton] at c
      rcases c with c | rfl
      · exact .inr (by simp [c])
      · exact .inl (by simp)
  next := fun z hz y hy => by
    rw [Bool.or_eq_true, decide_eq_true_iff] at hz
    rcases hz with hz | rfl
    · rcases h.next z hz y hy with c | c
      · exact .inl (by simp [c])
      · rw [List.mem_append, List.mem_singleton] at c
        rcases c with c | rfl
        · exact .inr (by simp [c])
        · exact .inl (by simp)
    · exact .inr (by simp [hy])
  not := by
    rw [Bool.or_eq_false_iff]
    exact ⟨h.not, decide_eq_false (fun c => hne c.symm)⟩
  lt := fun y hy => by
    rw [List.mem_append] at hy
    rcases hy with hy | hy
    · exact h.lt y (by simp [hy])
    · exact hE y hy
theorem Cb.end_seen {n a : Nat} {seen : Nat → Bool} (h : Cb E n a seen []) : ∀ k x, pth E (k + 1) a x → seen x = true := by
  have close : ∀ k x y, seen x = true → pth E k x y → seen y = true := by
    intro k
    induction k with
    | zero => intro x y hx h1; rw [← show x = y from h1]; exact hx
    | succ k ih =>
      rintro x y hx ⟨c, hc, h1⟩
      refine ih c y ?_ h1
      rcases h.next x hx c hc with c1 | c1
      · exact c1
      · cases c1
  rintro k x ⟨c, hc, h1⟩
  refine close k c x ?_ h1
  rcases h.first c hc with c1 | c1
  · exact c1
  · cases c1
theorem Cb.none {n a : Nat} {seen : Nat → Bool} (h : Cb E n a seen []) : ¬ Cyc E a := fun ⟨k, hk⟩ => by
  have := h.end_seen k a hk
  rw [h.not] at this
  cases this
/-- How much is left to look at. -/
def cbM (E : Nat → List Nat) (n : Nat) (seen : Nat → Bool) (op : List Nat) : Nat := sumU n (fun x => if seen x then 0 else (E x).length + 1) + op.length
theorem cbM_known {n : Nat} {seen : Nat → Bool} {op : List Nat} {x : Nat} : cbM E n seen op < cbM E n seen (op ++ [x]) := by
  unfold cbM
  simp
theorem cbM_new {n x : Nat} {seen : Nat → Bool} {op : List Nat} (hx : x < n) (hs : seen x = false) : cbM E n (fun y => seen y || decide (y = x)) (op ++ E x) < cbM E n seen (op ++ [x]) := by
  unfold cbM
  have := sumU_less (n := n) (x := x) (c := (E x).length + 1) (f := fun x => if seen x then 0 else (E x).length + 1) (g := fun y => if (seen y || decide (y = x)) then 0 else (E y).length + 1) hx (fun y hy => by simp [hy]) (by simp [hs])
  rw [List.length_append, List.length_append, List.length_singleton]
  dsimp only
  omega
/-- A way through more places than there are comes to one of them again. -/
theorem dup_of_long : ∀ (n : Nat) (l : List Nat), (∀ x ∈ l, x < n) → n < l.length → ∃ i j, ∃ hi : i < l.length, ∃ hj : j < l.length, i < j ∧ l[i] = l[j]
  | 0, l, h, hl => by
    cases l with
    | nil => simp at hl
    | cons x t => exact absurd (h x (by simp)) (by omega)
  | n + 1, l, h, hl => by
    by_cases hc : ∃ i j, ∃ hi : i < l.length, ∃ hj : j < l.length, i < j ∧ l[i] = l[j]
    · exact hc
    · exfalso
      -- without n, in what is left of l there is room for n places
      by_cases hn : n ∈ l
      · obtain ⟨p, hp, e⟩ := List.getElem_of_mem hn
        have hlen : (l.eraseIdx p).length = l.length - 1 := List.length_eraseIdx_of_lt hp
        obtain ⟨i, j, hi, hj, hij, he⟩ := dup_of_long n (l.eraseIdx p) (fun x hx => by
          obtain ⟨q, hq, rfl⟩ := List.getElem_of_mem hx
          rw [List.getElem_eraseIdx]
          by_cases c : q < p
          · rw [dif_pos c]
            have h1 := h l[q] (List.getElem_mem _)
            have : l[q] ≠ n := fun e2 => hc ⟨q, p, by omega, hp, c, by rw [e, e2]⟩
            omega
          · rw [dif_neg c]
            have h1 := h l[q + 1] (List.getElem_mem _)
            have : l[q + 1] ≠ n := fun e2 => hc ⟨p, q + 1, hp, by omega, by omega, by rw [e, e2]⟩
            omega) (by omega)
        rw [List.getElem_eraseIdx, List.getElem_eraseIdx] at he
        by_cases c1 : i < p
        · by_cases c2 : j < p
          · rw [dif_pos c1, dif_pos c2] at he
            exact hc ⟨i, j, by omega, by omega, hij, he⟩
          · rw [dif_pos c1, dif_neg c2] at he
            exact hc ⟨i, j + 1, by omega, by omega, by omega, he⟩
        · rw [dif_neg c1, dif_neg (by omega)] at he
          exact hc ⟨i + 1, j + 1, by omega, by omega, by omega, he⟩
      · obtain ⟨i, j, hi, hj, hij, he⟩ := dup_of_long n l (fun x hx => by
          have h1 := h x hx
          have : x ≠ n := fun e => hn (e ▸ hx)
          omega) (by omega)
        exact hc ⟨i, j, hi, hj, hij, he⟩
/-- A list of places each of which leads to the next. -/
def Chain (E : Nat → List Nat) (l : List Nat) : Prop := ∀ i (h : i + 1 < l.length), l[i + 1] ∈ E l[i]
theorem Chain.pth {l : List Nat} (h : Chain E l) : ∀ d i (hj : i + d < l.length), Go.Proofs.YtfkhhplcogedmaaGreatDoor.pth E d (l[i]'(by omega)) (l[i + d])
  | 0, i, hj => rfl
  | d + 1, i, hj => by
    have := Chain.pth h d (i + 1) (by omega)
    refine ⟨l[i + 1]'(by omega), h i (by omega), ?_⟩
    have e : i + 1 + d = i + (d + 1) := by omega
    simp only [e] at this
    exact this
/-- Where nobody comes back, a way is no longer than there are places. -/
theorem Chain.short {n : Nat} {l : List Nat} (h : Chain E l) (hl : ∀ x ∈ l, x < n) (hc : ∀ x ∈ l, ¬ Cyc E x) : l.length ≤ n := by
  apply Classical.byContradiction
  intro c
  obtain ⟨i, j, hi, hj, hij, he⟩ := dup_of_long n l hl (by omega)
  obtain ⟨d, rfl⟩ : ∃ d, j = i + (d + 1) := ⟨j - i - 1, by omega⟩
  have := h.pth (d + 1) i hj
  rw [← he] at this
  exact hc _ (List.getElem_mem hi) ⟨d, this⟩
theorem Chain.snoc {l : List Nat} {x : Nat} (h : Chain E l) (hx : ∀ (h0 : 0 < l.length), x ∈ E (l[l.length - 1]'(by omega))) : Chain E (l ++ [x]) := fun i hi => by
  have hi' : i < l.length := by simp at hi; omega
  by_cases c : i + 1 < l.length
  · rw [List.getElem_append_left c, List.getElem_append_left hi']
    exact h i c
  · have e : i + 1 = l.length := by omega
    have e1 : (l ++ [x])[i + 1]'hi = x := by simp [e]
    rw [e1, List.getElem_append_left hi']
    have := hx (by omega)
    have e2 : l.length - 1 = i := by omega
    simp only [e2] at this
    exact this
end
end Go.Proofs.YtfkhhplcogedmaaGreatDoor

/-
  Verify: what is reached in a routine, and how deep, plain.
-/
namespace Go.Proofs.YtfkhhplcogedmaaGreatDoor
/-- The instruction at a place. -/
def iat (c : List Ins) (p : Nat) : Ins := c.getD p ⟨0, 0⟩
/-- What may be done behind it, be it there or not. -/
def nextI (c : List Ins) (p : Nat) : List Int :=
  if (iat c p).op = 22 ∨ (iat c p).op = 23 then [] else if (iat c p).op = 20 then [(p : Int) + 1, (iat c p).a] else if (iat c p).op = 19 then [(iat c p).a] else [(p : Int) + 1]
/-- Those that are there. -/
def onwI (c : List Ins) (p : Nat) : List Nat := ((nextI c p).filter fun x : Int => decide (0 ≤ x ∧ x < (c.length : Int))).map Int.toNat
theorem onwI_lt {c : List Ins} {p y : Nat} (h : y ∈ onwI c p) : y < c.length := by
  unfold onwI at h
  obtain ⟨x, hx, rfl⟩ := List.mem_map.1 h
  have := (List.mem_filter.1 hx).2
  rw [decide_eq_true_iff] at this
  omega
/-- How deep it is behind an instruction; none: the stack cannot do that. -/
def behI (fs : List Rt) (c : List Ins) (p d : Nat) : Option Nat :=
  if (d : Int) < takE fs (iat c p) then none else if (d : Int) - takE fs (iat c p) + putE (iat c p) ≤ 64 then some ((d : Int) - takE fs (iat c p) + putE (iat c p)).toNat else none
theorem behI_le {fs : List Rt} {c : List Ins} {p d d' : Nat} (h : behI fs c p d = some d') : d' ≤ 64 := by
  unfold behI at h
  split at h
  · cases h
  · split at h
    · cases h
      omega
    · cases h
/-- A place is reached, in so many instructions, so deep. -/
def rch (fs : List Rt) (c : List Ins) : Nat → Nat → Nat → Prop
  | 0, p, d => p = 0 ∧ d = 0
  | k + 1, p, d => ∃ p' d', rch fs c k p' d' ∧ behI fs c p' d' = some d ∧ p ∈ onwI c p'
def Rch (fs : List Rt) (c : List Ins) (p d : Nat) : Prop := ∃ k, rch fs c k p d
section
variable {fs : List Rt} {c : List Ins}
theorem Rch.zero : Rch fs c 0 0 := ⟨0, rfl, rfl⟩
theorem Rch.on {p d d' y : Nat} (h : Rch fs c p d) (hb : behI fs c p d = some d') (hy : y ∈ onwI c p) : Rch fs c y d' := by
  obtain ⟨k, hk⟩ := h
  exact ⟨k + 1, p, d, hk, hb, hy⟩
theorem Rch.lt {p d : Nat} (h : Rch fs c p d) (h0 : 0 < c.length) : p < c.length ∧ d ≤ 64 := by
  obtain ⟨k, hk⟩ := h
  cases k with
  | zero => obtain ⟨rfl, rfl⟩ := hk; exact ⟨h0, by omega⟩
  | succ k =>
    obtain ⟨p', d', _, h2, h3⟩ := hk
    exact ⟨onwI_lt h3, behI_le h2⟩
/-- The moments behind one. -/
def momI (fs : List Rt) (c : List Ins) (p d : Nat) : List (Nat × Nat) := match behI fs c p d with
  | none => []
  | some d' => (onwI c p).map fun y => (y, d')
theorem momI_mem {p d : Nat} {m : Nat × Nat} (h : m ∈ momI fs c p d) : behI fs c p d = some m.2 ∧ m.1 ∈ onwI c p := by
  unfold momI at h
  cases hb : behI fs c p d with
  | none => rw [hb] at h; cases h
  | some d' =>
    rw [hb] at h
    obtain ⟨y, hy, rfl⟩ := List.mem_map.1 h
    exact ⟨rfl, hy⟩
theorem momI_of {p d d' y : Nat} (hb : behI fs c p d = some d') (hy : y ∈ onwI c p) : (y, d') ∈ momI fs c p d := by
  unfold momI
  rw [hb]
  exact List.mem_map.2 ⟨y, hy, rfl⟩
theorem momI_len (p d : Nat) : (momI fs c p d).length ≤ (onwI c p).length := by
  unfold momI
  cases behI fs c p d with
  | none => simp
  | some d' => simp
/-- What one who goes all ways holds: the depths that are known of each place, and the moments to look at. -/
structure Rk (fs : List Rt) (c : List Ins) (kn : Nat → List Nat) (op : List (Nat × Nat)) : Prop where
  sound : ∀ p d, d ∈ kn p → Rch fs c p d
  osound : ∀ m ∈ op, Rch fs c m.1 m.2
  first : 0 ∈ kn 0 ∨ ((0, 0) : Nat × Nat) ∈ op
  next : ∀ p d, d ∈ kn p → ∀ m ∈ momI fs c p d, m.2 ∈ kn m.1 ∨ m ∈ op
  nodup : ∀ p, (kn p).Nodup
theorem Rk.init : Rk fs c (fun _ => []) [(0, 0)] where
  sound := fun p d h => by cases h
  osound := fun m hm => by rw [List.mem_singleton.1 hm]; exact Rch.zero
  first := .inr (by simp)
  next := fun p d h => by cases h
  nodup := fun p => List.nodup_nil
theorem Rk.known {kn : Nat → List Nat} {op : List (Nat × Nat)} {p d : Nat} (h : Rk fs c kn (op ++ [(p, d)])) (hd : d ∈ kn p) : Rk fs c kn op where
  sound := h.sound
  osound := fun m hm => h.osound m (by simp [hm])
  first := by
    rcases h.first with e | e
    · exact .inl e
    · rw [List.mem_append, List.mem_singleton, Prod.mk.injEq] at e
      rcases e with e | ⟨rfl, rfl⟩
      · exact .inr e
      · exact .inl hd
  next := fun p' d' hd' m hm => by
    rcases h.next p' d' hd' m hm with e | e
    · exact .inl e
    · rw [List.mem_append, List.mem_singleton] at e
      rcases e with e | rfl
      · exact .inr e
      · exact .inl hd
  nodup := h.nodup
/-- One more depth is known of a place. -/
def knA (kn : Nat → List Nat) (p d : Nat) : Nat → List Nat := fun q => if q = p then kn p ++ [d] else kn q
theorem knA_mem {kn : Nat → List Nat} {p d q e : Nat} : e ∈ knA kn p d q ↔ e ∈ kn q ∨ (q = p ∧ e = d) := by
  unfold knA
  by_cases h : q = p
  · subst h
    simp
  · simp [h]
theorem Rk.new {kn : Nat → List Nat} {op : List (Nat × Nat)} {p d : Nat} (h : Rk fs c kn (op ++ [(p, d)])) (hd : d ∉ kn p) : Rk fs c (knA kn p d) (op ++ momI fs c p d) where
  sound := fun q e he => by
    rcases knA_mem.1 he with he | ⟨rfl, rfl⟩
    · exact h.sound q e he
    · exact h.osound (q, e) (by simp)
  osound := fun m hm => by
    rw [List.mem_append] at hm
    rcases hm with hm | hm
    · exact h.osound m (by simp [hm])
    · obtain ⟨h1, h2⟩ := momI_mem hm
      exact (h.osound (p, d) (by simp)).on h1 h2
  first := by
    rcases h.first with e | e
    · exact .inl (knA_mem.2 (.inl e))
    · rw [List.mem_append, List.mem_singleton, Prod.mk.injEq] at e
      rcases e with e | ⟨rfl, rfl⟩
      · exact .inr (by simp [e])
      · exact .inl (knA_mem.2 (.inr ⟨rfl, rfl⟩))
  next := fun q e he m hm => by
    rcases knA_mem.1 he with he | ⟨rfl, rfl⟩
    · rcases h.next q e he m hm with x | x
      · exact .inl (knA_mem.2 (.inl x))
      · rw [List.mem_append, List.mem_singleton] at x
        rcases x with x | rfl
        · exact .inr (by simp [x])
        · exact .inl (knA_mem.2 (.inr ⟨rfl, rfl⟩))
    · exact .inr (by simp [hm])
  nodup := fun q => by
    unfold knA
    by_cases e : q = p
    · rw [if_pos e, List.nodup_append]
      refine ⟨h.nodup p, by simp, fun a ha b hb => ?_⟩
      rw [List.mem_singleton.1 hb]
      exact fun e => hd (e ▸ ha)
    · rw [if_neg e]
      exact h.nodup q
theorem Rk.done {kn : Nat → List Nat} (h : Rk fs c kn []) {p d : Nat} : d ∈ kn p ↔ Rch fs c p d := by
  have all : ∀ k p d, rch fs c k p d → d ∈ kn p := by
    intro k
    induction k with
    | zero =>
      rintro p d ⟨rfl, rfl⟩
      rcases h.first with e | e
      · exact e
      · cases e
    | succ k ih =>
      rintro p d ⟨p', d', h1, h2, h3⟩
      rcases h.next p' d' (ih p' d' h1) (p, d) (momI_of h2 h3) with e | e
      · exact e
      · cases e
  exact ⟨h.sound p d, fun ⟨k, hk⟩ => all k p d hk⟩
theorem Rk.few {kn : Nat → List Nat} {op : List (Nat × Nat)} (h : Rk fs c kn op) (h0 : 0 < c.length) (p : Nat) : (kn p).length ≤ 65 := by
  apply Classical.byContradiction
  intro e
  obtain ⟨i, j, hi, hj, hij, he⟩ := dup_of_long 65 (kn p) (fun x hx => by have := ((h.sound p x hx).lt h0).2; omega) (by omega)
  have := List.pairwise_iff_getElem.1 (h.nodup p) i j hi hj hij
  exact this he
/-- How much is left to look at. -/
def rkM (c : List Ins) (kn : Nat → List Nat) (op : List (Nat × Nat)) : Nat := sumU c.length (fun p => (65 - (kn p).length) * ((onwI c p).length + 1)) + op.length
theorem rkM_known {kn : Nat → List Nat} {op : List (Nat × Nat)} {m : Nat × Nat} : rkM c kn op < rkM c kn (op ++ [m]) := by
  unfold rkM
  simp
theorem rkM_new {kn : Nat → List Nat} {op : List (Nat × Nat)} {p d : Nat} (hp : p < c.length) (hk : (kn p).length < 65) : rkM c (knA kn p d) (op ++ momI fs c p d) < rkM c kn (op ++ [(p, d)]) := by
  unfold rkM
  have := sumU_less (n := c.length) (x := p) (c := (onwI c p).length + 1) (f := fun p => (65 - (kn p).length) * ((onwI c p).length + 1)) (g := fun q => (65 - (knA kn p d q).length) * ((onwI c q).length + 1)) hp (fun y hy => by simp [knA, hy]) (by
    have e : (knA kn p d p).length = (kn p).length + 1 := by simp [knA]
    rw [e]
    obtain ⟨z, hz⟩ : ∃ z, 65 - (kn p).length = z + 1 := ⟨64 - (kn p).length, by omega⟩
    have hz2 : 65 - ((kn p).length + 1) = z := by omega
    rw [hz, hz2, Nat.succ_mul])
  have := momI_len (fs := fs) (c := c) p d
  rw [List.length_append, List.length_append, List.length_singleton]
  omega
end
/-! ### What is wrong -/
def isJ (i : Ins) : Bool := decide (i.op = 19 ∨ i.op = 20)
def thereI (c : List Ins) (a : Int) : Bool := decide (0 ≤ a ∧ a < c.length)
/-- What is wrong with an instruction that is reached with these depths: 0 nothing, else the error. -/
def wrgI (eJump eStack eEnd : Int) (fs : List Rt) (c : List Ins) (p : Nat) (ds : List Nat) : Int :=
  if isJ (iat c p) && !thereI c (iat c p).a then eJump else if (behI fs c p (ds.headD 0)).isNone || decide (1 < ds.length) then eStack else if (onwI c p).length < (nextI c p).length then eEnd else 0
section
variable {eJ eS eE : Int} {fs : List Rt} {c : List Ins}
/-- Where nothing is wrong: one depth, the stack can do it, all that is next is there. -/
theorem wrgI_ok {p d : Nat} {ds : List Nat} (hJ : eJ ≠ 0) (hS : eS ≠ 0) (hE : eE ≠ 0) (h : wrgI eJ eS eE fs c p (d :: ds) = 0) : (isJ (iat c p) = true → thereI c (iat c p).a = true) ∧ ds = [] ∧ (∃ d', behI fs c p d = some d') ∧ ∀ x ∈ nextI c p, 0 ≤ x ∧ x < c.length := by
  unfold wrgI at h
  by_cases h1 : (isJ (iat c p) && !thereI c (iat c p).a) = true
  · rw [if_pos h1] at h
    exact absurd h hJ
  · rw [if_neg h1] at h
    by_cases h2 : ((behI fs c p ((d :: ds).headD 0)).isNone || decide (1 < (d :: ds).length)) = true
    · rw [if_pos h2] at h
      exact absurd h hS
    · rw [if_neg h2] at h
      by_cases h3 : (onwI c p).length < (nextI c p).length
      · rw [if_pos h3] at h
        exact absurd h hE
      · refine ⟨fun e => ?_, ?_, ?_, fun x hx => ?_⟩
        · rw [e] at h1
          simpa using h1
        · have : ¬ 1 < (d :: ds).length := fun e => h2 (by rw [decide_eq_true e, Bool.or_true])
          rw [List.length_cons] at this
          exact List.eq_nil_of_length_eq_zero (by omega)
        · have : behI fs c p d ≠ none := fun e => h2 (by simp [e])
          cases hb : behI fs c p d with
          | none => exact absurd hb this
          | some d' => exact ⟨d', rfl⟩
        · unfold onwI at h3
          rw [List.length_map] at h3
          have hle := List.length_filter_le (fun x => decide (0 ≤ x ∧ x < (c.length : Int))) (nextI c p)
          have := List.length_filter_eq_length_iff.1 (show ((nextI c p).filter fun x => decide (0 ≤ x ∧ x < (c.length : Int))).length = (nextI c p).length by omega) x hx
          rwa [decide_eq_true_iff] at this
end
end Go.Proofs.YtfkhhplcogedmaaGreatDoor

/-
  Verify: isBelow, isThere, isJump; next.
-/
namespace Go.Proofs.YtfkhhplcogedmaaGreatDoor
open Go.RowKit
set_option maxRecDepth 100000
theorem isbelow_any (a : Int) (n : Nat) (w : World) (_hn : (n : Int) ≤ 9223372036854775807) : Calls Tryz.prog 75 #[.int .i64 a, .int .i64 (n : Int)] w fun e w' => e = .returned (.bool (decide (0 ≤ a ∧ a < (n : Int)))) ∧ w' = w := by
  by_cases h0 : 0 ≤ a
  · have f0 : decide (0 ≤ a) = true := decide_eq_true h0
    by_cases h1 : a < (n : Int)
    · rw [decide_eq_true (show 0 ≤ a ∧ a < (n : Int) from ⟨h0, h1⟩)]
      go_enter Tryz.func75, Tryz.ntmps75
      go_wp2_with fail
      go_ret
      exact ⟨rfl, rfl⟩
    · rw [decide_eq_false (show ¬ (0 ≤ a ∧ a < (n : Int)) from fun c => h1 c.2)]
      go_enter Tryz.func75, Tryz.ntmps75
      go_wp2_with fail
      go_ret
      exact ⟨rfl, rfl⟩
  · have f0 : decide (0 ≤ a) = false := decide_eq_false h0
    rw [decide_eq_false (show ¬ (0 ≤ a ∧ a < (n : Int)) from fun c => h0 c.1)]
    go_enter Tryz.func75, Tryz.ntmps75
    go_wp2_with fail
    go_ret
    exact ⟨rfl, rfl⟩
theorem isthere_any {Q : Nat → Prop} {w : World} {vc vf : Value} {c : List Ins} (h : Il Q w vc c) (hf : ∃ a n c, vf = .slice a n c) (a : Int) : Calls Tryz.prog 82 #[.agg #[vc, vf], .int .i64 a] w fun e w' => e = .returned (.bool (thereI c a)) ∧ Below w.heap.size w w' := by
  obtain ⟨ao, co, rfl, h1, h2⟩ := h.at
  obtain ⟨af, nf, cf, rfl⟩ := hf
  obtain ⟨n, hn⟩ : ∃ n, n = c.length := ⟨_, rfl⟩
  obtain ⟨b, hb⟩ : ∃ b, b = decide (0 ≤ a ∧ a < (n : Int)) := ⟨_, rfl⟩
  have J : Hid (∀ W, Calls Tryz.prog 75 #[.int .i64 a, .int .i64 (n : Int)] W fun e w' => e = .returned (.bool b) ∧ w' = W) := fun W => by
    rw [hb]
    exact isbelow_any a n W (by omega)
  unfold thereI
  rw [← hn] at h1 ⊢
  rw [← hb]
  clear h hn hb
  go_enter Tryz.func82, Tryz.ntmps82
  go_wp2_with (go_at_call 75; refine (J.out _).mono ?_; rintro e w' ⟨rfl, rfl⟩)
  go_ret
  exact ⟨rfl, below_alloc w _⟩
theorem isjump_any (i : Ins) (w : World) : Calls Tryz.prog 48 #[insV i] w fun e w' => e = .returned (.bool (isJ i)) ∧ Below w.heap.size w w' := by
  unfold insV isJ
  by_cases h1 : i.op = 19
  · rw [decide_eq_true (show i.op = 19 ∨ i.op = 20 from .inl h1), h1]
    go_enter Tryz.func48, Tryz.ntmps48
    go_wp2_with fail
    go_ret
    exact ⟨rfl, below_alloc w _⟩
  · have f1 : (i.op == 19) = false := beq_eq_false_iff_ne.2 h1
    by_cases h2 : i.op = 20
    · rw [decide_eq_true (show i.op = 19 ∨ i.op = 20 from .inr h2)]
      rw [h2]
      go_enter Tryz.func48, Tryz.ntmps48
      go_wp2_with fail
      go_ret
      exact ⟨rfl, below_alloc w _⟩
    · have f2 : (i.op == 20) = false := beq_eq_false_iff_ne.2 h2
      rw [decide_eq_false (show ¬ (i.op = 19 ∨ i.op = 20) from fun c => c.elim h1 h2)]
      generalize i.op = x at *
      go_enter Tryz.func48, Tryz.ntmps48
      go_wp2_with fail
      go_ret
      exact ⟨rfl, below_alloc w _⟩
theorem info64 : (Tryz.prog.info? 2).map (fun i => (i.zero, i.size, i.bytes)) = some (some (.int .i64 0), 1, 8) := by kernel_rfl
/-- Numbers of 64 bits that are owned. -/
def zq (l : List Int) : List Value := l.map fun z => Value.int .i64 z
theorem zq_len (l : List Int) : (zq l).length = l.length := by simp [zq]
theorem lit64 (w : World) (x : Value) (t : TypeId) : ∀ j u, [x][j]? = some u → (w.alloc (.cells #[x] t)).cell? ((⟨w.heap.size, 0, none⟩ : Addr).add j) = some u := fun j u h => by
  have hj : j = 0 := by
    have := (List.getElem?_eq_some_iff.1 h).1
    simpa using this
  subst hj
  rw [show (⟨w.heap.size, 0, none⟩ : Addr).add 0 = ⟨w.heap.size, 0, none⟩ by simp [Addr.add], cell_of_row _ _ _ _ t (0, 0) (heap_alloc_new w _), ← h]
  rfl
end Go.Proofs.YtfkhhplcogedmaaGreatDoor

/-
  Verify: next, onward.
-/
namespace Go.Proofs.YtfkhhplcogedmaaGreatDoor
open Go.RowKit
set_option maxRecDepth 100000
/-- One number is put behind numbers of 64 bits. -/
theorem append64 {w : World} {ops : Array Oper} {rest : List Oper} {o : Oper} {a : Act} {Q : Exit → Act → World → Prop} (hgd : o.guard = none) (s x : Operand)
    (ho : o.op = .call { callee := .builtin .append, args := #[s, x], argTypes := #[152, 152] })
    (base : Nat) (v : Value) (n : Nat) (xs : List Value) (hs : a.eval s = v) (hown : w.ownsRow base 2 1 v n xs) (ad : Addr) (c : Nat) (y : Int) (hx : a.eval x = .slice (some ad) 1 c) (hy : ∀ j u, [Value.int .i64 y][j]? = some u → w.cell? (ad.add j) = some u) (hb : n ≤ 1000) (hbase : base ≤ w.heap.size)
    (h : ∀ v' w', w'.ownsRow base 2 1 v' (n + 1) (xs ++ [.int .i64 y]) → w.grownBy w' v.ownBlock → wpList Tryz.prog ops Q rest (a.put o.dst v') w') :
    wpList Tryz.prog ops Q (o :: rest) a w := by
  refine wpList_plain hgd fun K hK => ?_
  obtain ⟨i0, hi, hz0, hz1, hz2⟩ := info_parts info64
  obtain ⟨v', w', hr, h2, h3, -, -⟩ := run_append_own_at (P := Tryz.prog) w base 152 o.type 2 i0 (.int .i64 0) 1 8 Tryz.underlying152 hi hz0 hz1 hz2 rfl (by decide) v n xs hown ad 1 c [.int .i64 y] rfl hy (fun u hu => by rw [List.mem_singleton.1 hu]; rfl) (by unfold maxLen; omega) (by omega) hbase
  unfold Oper.wp execOp
  simp only [ho, resolve, invoke, builtin, Sem.run_bind, Sem.run_pure, Result.andThen_ok, List.map_toArray, List.map_cons, List.map_nil, hs, hx, hr]
  exact hK _ _ (h v' w' h2 h3)
theorem iat_eq {c : List Ins} {p : Nat} (h : p < c.length) : iat c p = c[p] := by
  unfold iat
  rw [List.getD_eq_getElem?_getD, List.getElem?_eq_getElem h]
  rfl
set_option maxHeartbeats 4000000 in
theorem next_any {Q : Nat → Prop} {w : World} {vc vf : Value} {c : List Ins} (h : Il Q w vc c) (hf : ∃ a n c, vf = .slice a n c) (p : Nat) (hp : p < c.length) : Calls Tryz.prog 83 #[.agg #[vc, vf], .int .i64 (p : Int)] w fun e w' => ∃ v, e = .returned v ∧ w'.ownsRow w.heap.size 2 1 v (nextI c p).length (zq (nextI c p)) ∧ Below w.heap.size w w' := by
  obtain ⟨ao, co, rfl, h1, h2⟩ := h.at
  obtain ⟨af, nf, cf, rfl⟩ := hf
  obtain ⟨g, o, rfl, hq, d1, d2, i1, i2⟩ := h.nth hp
  rw [← iat_eq hp] at d1 d2 i1 i2
  obtain ⟨n, hn⟩ : ∃ n, n = c.length := ⟨_, rfl⟩
  rw [← hn] at h1 hp ⊢
  have hpn : (p : Int) < (n : Int) := by omega
  have hgl : g < w.heap.size := World.block_lt_of_cell? w _ d1
  obtain ⟨op, hop⟩ : ∃ op, op = (iat c p).op := ⟨_, rfl⟩
  obtain ⟨av, hav⟩ : ∃ av, av = (iat c p).a := ⟨_, rfl⟩
  have HNX : Hid (nextI c p = if op = 22 ∨ op = 23 then [] else if op = 20 then [(p : Int) + 1, av] else if op = 19 then [av] else [(p : Int) + 1]) := by
    rw [hop, hav]
    rfl
  rw [← hop] at d1 i1
  rw [← hav] at d2 i2
  obtain ⟨L, hL⟩ : ∃ L, L = nextI c p := ⟨_, rfl⟩
  rw [← hL] at HNX ⊢
  clear h hn hop hav hL hq i1
  by_cases c1 : op = 22 ∨ op = 23
  · rw [if_pos c1] at HNX
    rw [HNX.out]
    clear HNX
    rcases c1 with rfl | rfl
    · go_enter Tryz.func83, Tryz.ntmps83
      go_wp2_with fail
      go_ret
      exact ⟨_, rfl, World.ownsRow_nil _ _ _ _, below_on (below_alloc w _) (below_alloc _ _)⟩
    · go_enter Tryz.func83, Tryz.ntmps83
      go_wp2_with fail
      go_ret
      exact ⟨_, rfl, World.ownsRow_nil _ _ _ _, below_on (below_alloc w _) (below_alloc _ _)⟩
  · rw [if_neg c1] at HNX
    have c22 : (op == 22) = false := beq_eq_false_iff_ne.2 (fun e => c1 (.inl e))
    have c23 : (op == 23) = false := beq_eq_false_iff_ne.2 (fun e => c1 (.inr e))
    by_cases c20 : op = 20
    · rw [if_pos c20] at HNX
      rw [HNX.out]
      subst c20
      clear HNX c1
      go_enter Tryz.func83, Tryz.ntmps83
      go_wp2_with (at_builtin; refine append64 rfl _ _ rfl w.heap.size (.slice none 0 0) 0 [] rfl (World.ownsRow_nil _ _ _ _) ⟨w.heap.size + 1 + 1, 0, none⟩ 1 ((p : Int) + 1) rfl ?o1 (by omega) ?o2 ?_)
      case o1 =>
        have := lit64 ((w.alloc (.cells #[.slice (some ⟨g, o, none⟩) n co, .slice af nf cf] 80)).alloc (.cells #[.int .i64 20, .int .i64 av] 28)) (.int .i64 ((p : Int) + 1)) 2
        simpa using this
      case o2 => simp; omega
      intro v1 w1 h1 hg1
      have b1 : Below w.heap.size w w1 := (below_on (below_on (below_alloc w (.cells #[.slice (some ⟨g, o, none⟩) n co, .slice af nf cf] 80)) (below_alloc _ (.cells #[.int .i64 20, .int .i64 av] 28))) (below_alloc _ (.cells #[.int .i64 ((p : Int) + 1)] 2))).grown hg1 (by simp; omega) (fun k e => by simp [Value.ownBlock] at e)
      have H1 : Hid (w1.ownsRow w.heap.size 2 1 v1 1 (zq [(p : Int) + 1]) ∧ Below w.heap.size w w1) := ⟨by simpa [zq] using h1, b1⟩
      obtain ⟨a1, e1, hv1⟩ := own_len H1.out.1
      have d5 : w1.cell? ⟨w.heap.size + 1, 1, none⟩ = some (.int .i64 av) := by
        have hB : ((w.alloc (.cells #[.slice (some ⟨g, o, none⟩) n co, .slice af nf cf] 80)).alloc (.cells #[.int .i64 20, .int .i64 av] 28)).heap[w.heap.size + 1]? = some (.cells #[.int .i64 20, .int .i64 av] 28 (0, 0)) := by
          have := heap_alloc_new (w.alloc (.cells #[.slice (some ⟨g, o, none⟩) n co, .slice af nf cf] 80)) (.cells #[.int .i64 20, .int .i64 av] 28)
          simpa using this
        have hb := (below_alloc ((w.alloc (.cells #[.slice (some ⟨g, o, none⟩) n co, .slice af nf cf] 80)).alloc (.cells #[.int .i64 20, .int .i64 av] 28)) (.cells #[.int .i64 ((p : Int) + 1)] 2)).block (w.heap.size + 1) (by simp)
        have hc : w1.heap[w.heap.size + 1]? = some (.cells #[.int .i64 20, .int .i64 av] 28 (0, 0)) := (hg1.block (w.heap.size + 1) (by simp) (by simp [Value.ownBlock])).trans (hb.trans hB)
        rw [cell_of_row _ _ _ _ 28 (0, 0) hc]
        rfl
      clear h1 hg1 b1
      subst hv1
      have hz1 : w.heap.size ≤ w1.heap.size := H1.out.2.size
      go_wp2_with (at_builtin; refine append64 rfl _ _ rfl w.heap.size (.slice a1 1 e1) 1 (zq [(p : Int) + 1]) rfl ?p1 ⟨w1.heap.size, 0, none⟩ 1 av rfl (lit64 w1 _ 2) (by omega) ?p2 ?_)
      case p1 => exact own_later H1.out.1 (below_alloc w1 _)
      case p2 => simp; omega
      intro v2 w2 h2 hg2
      have H2 : Hid (w2.ownsRow w.heap.size 2 1 v2 2 (zq [(p : Int) + 1, av]) ∧ Below w.heap.size w w2) := by
        have hb := below_on H1.out.2 (below_alloc w1 (.cells #[.int .i64 av] 2))
        exact ⟨by simpa [zq] using h2, hb.grown hg2 hb.size (fun k e => (H1.out.1.lt k e).1)⟩
      obtain ⟨a2, e2, hv2⟩ := own_len H2.out.1
      clear h2 hg2
      subst hv2
      go_wp2_with fail
      go_ret
      exact ⟨_, rfl, H2.out⟩
    · rw [if_neg c20] at HNX
      have c20' : (op == 20) = false := beq_eq_false_iff_ne.2 c20
      by_cases c19 : op = 19
      · rw [if_pos c19] at HNX
        rw [HNX.out]
        subst c19
        clear HNX c1 c20
        go_enter Tryz.func83, Tryz.ntmps83
        go_wp2_with (at_builtin; refine append64 rfl _ _ rfl w.heap.size (.slice none 0 0) 0 [] rfl (World.ownsRow_nil _ _ _ _) ⟨w.heap.size + 1 + 1, 0, none⟩ 1 (av) rfl ?o1 (by omega) ?o2 ?_)
        case o1 =>
          have := lit64 ((w.alloc (.cells #[.slice (some ⟨g, o, none⟩) n co, .slice af nf cf] 80)).alloc (.cells #[.int .i64 19, .int .i64 av] 28)) (.int .i64 (av)) 2
          simpa using this
        case o2 => simp; omega
        intro v1 w1 h1 hg1
        have b1 : Below w.heap.size w w1 := (below_on (below_on (below_alloc w (.cells #[.slice (some ⟨g, o, none⟩) n co, .slice af nf cf] 80)) (below_alloc _ (.cells #[.int .i64 19, .int .i64 av] 28))) (below_alloc _ (.cells #[.int .i64 (av)] 2))).grown hg1 (by simp; omega) (fun k e => by simp [Value.ownBlock] at e)
        have H1 : Hid (w1.ownsRow w.heap.size 2 1 v1 1 (zq [av]) ∧ Below w.heap.size w w1) := ⟨by simpa [zq] using h1, b1⟩
        obtain ⟨a1, e1, hv1⟩ := own_len H1.out.1
        clear h1 hg1 b1
        subst hv1
        go_wp2_with fail
        go_ret
        exact ⟨_, rfl, H1.out⟩
      · rw [if_neg c19] at HNX
        have c19' : (op == 19) = false := beq_eq_false_iff_ne.2 c19
        rw [HNX.out]
        clear HNX c1
        go_enter Tryz.func83, Tryz.ntmps83
        go_wp2_with (at_builtin; refine append64 rfl _ _ rfl w.heap.size (.slice none 0 0) 0 [] rfl (World.ownsRow_nil _ _ _ _) ⟨w.heap.size + 1 + 1, 0, none⟩ 1 ((p : Int) + 1) rfl ?o1 (by omega) ?o2 ?_)
        case o1 =>
          have := lit64 ((w.alloc (.cells #[.slice (some ⟨g, o, none⟩) n co, .slice af nf cf] 80)).alloc (.cells #[.int .i64 op, .int .i64 av] 28)) (.int .i64 ((p : Int) + 1)) 2
          simpa using this
        case o2 => simp; omega
        intro v1 w1 h1 hg1
        have b1 : Below w.heap.size w w1 := (below_on (below_on (below_alloc w (.cells #[.slice (some ⟨g, o, none⟩) n co, .slice af nf cf] 80)) (below_alloc _ (.cells #[.int .i64 op, .int .i64 av] 28))) (below_alloc _ (.cells #[.int .i64 ((p : Int) + 1)] 2))).grown hg1 (by simp; omega) (fun k e => by simp [Value.ownBlock] at e)
        have H1 : Hid (w1.ownsRow w.heap.size 2 1 v1 1 (zq [(p : Int) + 1]) ∧ Below w.heap.size w w1) := ⟨by simpa [zq] using h1, b1⟩
        obtain ⟨a1, e1, hv1⟩ := own_len H1.out.1
        clear h1 hg1 b1
        subst hv1
        go_wp2_with fail
        go_ret
        exact ⟨_, rfl, H1.out⟩
end Go.Proofs.YtfkhhplcogedmaaGreatDoor
