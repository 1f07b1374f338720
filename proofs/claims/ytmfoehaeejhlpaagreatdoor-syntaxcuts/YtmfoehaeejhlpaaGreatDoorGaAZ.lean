import Derived.Test.YtmfoehaeejhlpaaGreatDoorGaAR
/-
  The grammar: what is read of tokens that are cut off ahead of a place A, with the end there.
-/
namespace Go.Proofs.YtmfoehaeejhlpaaGreatDoor.Yn
set_option maxRecDepth 100000
def endT (A : Nat) : Tok := ⟨0, bs [], A⟩
def AtEnd (A : Nat) (s : S) : Prop := s.ts = [endT A]
/-- The second has what the first has, up to a place; there it ends. -/
def Cu (A : Nat) (s s' : S) : Prop := (s.sy = s'.sy ∧ s.fu = s'.fu ∧ s.st = s'.st ∧ s.de = s'.de) ∧ ∃ l rest, s.ts = l ++ rest ∧ s'.ts = l ++ [endT A] ∧ ∀ t ∈ l, t.a ≠ A
/-- It ends at that place, well or not. -/
def Good {α : Type} (A : Nat) (r : R α) : Prop := match r with | .out => True | .ok _ s => AtEnd A s | .no a _ => a = A
def Rel {α : Type} (A : Nat) (r r' : R α) : Prop := Good A r' ∨ (∃ x s1 s1', r = .ok x s1 ∧ r' = .ok x s1' ∧ Cu A s1 s1') ∨ ∃ a er, r = .no a er ∧ a ≠ A
section
variable {α β : Type} {A : Nat} {ws : List ByteArray} {s s' : S}
theorem Good.bind {r : R α} {f : α → S → R β} (h : Good A r) (hf : ∀ x s, AtEnd A s → Good A (f x s)) : Good A (r.bind f) := by
  cases r with
  | out => trivial
  | no a e => exact h
  | ok x s => exact hf x s h
theorem Rel.bind {r r' : R α} {f f' : α → S → R β} (h : Rel A r r') (hf : ∀ x s s', Cu A s s' → Rel A (f x s) (f' x s')) (hg : ∀ x s', AtEnd A s' → Good A (f' x s')) : Rel A (r.bind f) (r'.bind f') := by
  rcases h with h | ⟨x, s1, s1', rfl, rfl, hc⟩ | ⟨a, er, rfl, ha⟩
  · exact .inl (h.bind hg)
  · exact hf x s1 s1' hc
  · exact .inr (.inr ⟨a, er, rfl, ha⟩)
theorem Rel.ok {x : α} (h : Cu A s s') : Rel A (.ok x s) (.ok x s') := .inr (.inl ⟨x, s, s', rfl, rfl, h⟩)
theorem end_hd (h : AtEnd A s) : hd s = endT A := by
  unfold AtEnd at h
  unfold hd
  rw [h]
  rfl
theorem end_at (h : AtEnd A s) {x : ByteArray} (hx : x ≠ bs []) : isAt s x = false := by
  unfold isAt
  rw [end_hd h]
  exact decide_eq_false (fun e => hx e.symm)
theorem end_name (h : AtEnd A s) : isName ws s = false := by
  unfold isName
  rw [end_hd h]
  rfl
/-- At the end, or the same token stands ahead in both. -/
theorem Cu.cases (h : Cu A s s') : AtEnd A s' ∨ (hd s = hd s' ∧ Cu A (nx s) (nx s') ∧ (hd s).a ≠ A) := by
  obtain ⟨h1, l, rest, h2, h3, h4⟩ := h
  cases l with
  | nil => exact .inl h3
  | cons t l =>
    right
    have e1 : hd s = t := by unfold hd; rw [h2]; rfl
    have e2 : hd s' = t := by unfold hd; rw [h3]; rfl
    refine ⟨e1.trans e2.symm, ⟨h1, l, rest, ?_, ?_, fun x hx => h4 x (List.mem_cons_of_mem _ hx)⟩, ?_⟩
    · show s.ts.tail = _
      rw [h2]
      rfl
    · show s'.ts.tail = _
      rw [h3]
      rfl
    · rw [e1]
      exact h4 t List.mem_cons_self
theorem isAt_hd (h : hd s = hd s') (x : ByteArray) : isAt s x = isAt s' x := by unfold isAt; rw [h]
theorem isName_hd (h : hd s = hd s') : isName ws s = isName ws s' := by unfold isName; rw [h]
theorem end_take (h : AtEnd A s) {x : ByteArray} (hx : x ≠ bs []) : Good A (take x s) := by
  unfold take fail
  rw [end_at h hx, end_hd h]
  rfl
theorem end_open (h : AtEnd A s) {x : ByteArray} (hx : x ≠ bs []) : Good A (openS x s) := by
  unfold openS fail
  rw [end_at h hx, end_hd h]
  rfl
theorem end_nm (h : AtEnd A s) : Good A (name ws s) := by
  unfold name fail
  rw [end_name h, end_hd h]
  rfl
theorem end_nameNode (h : AtEnd A s) : Good A (nameNode ws s) := by
  unfold nameNode fail
  rw [end_name h, end_hd h]
  rfl
theorem take_cu (h : Cu A s s') {x : ByteArray} (hx : x ≠ bs []) : Rel A (take x s) (take x s') := by
  rcases h.cases with e | ⟨e1, e2, e3⟩
  · exact .inl (end_take e hx)
  · unfold take fail
    rw [← isAt_hd e1 x, ← e1]
    split
    · exact .ok e2
    · exact .inr (.inr ⟨_, _, rfl, e3⟩)
theorem open_cu (h : Cu A s s') {x : ByteArray} (hx : x ≠ bs []) : Rel A (openS x s) (openS x s') := by
  have hde := h.1.2.2.2
  rcases h.cases with e | ⟨e1, e2, e3⟩
  · exact .inl (end_open e hx)
  · unfold openS fail
    rw [← isAt_hd e1 x, ← e1, ← hde]
    split
    · split
      · exact .inr (.inr ⟨_, _, rfl, e3⟩)
      · obtain ⟨⟨g1, g2, g3, g4⟩, g⟩ := e2
        exact .ok ⟨⟨g1, g2, g3, rfl⟩, g⟩
    · exact .inr (.inr ⟨_, _, rfl, e3⟩)
theorem name_cu (h : Cu A s s') : Rel A (name ws s) (name ws s') := by
  rcases h.cases with e | ⟨e1, e2, e3⟩
  · exact .inl (end_nm e)
  · unfold name fail
    rw [← isName_hd e1, ← e1]
    split
    · exact .ok e2
    · exact .inr (.inr ⟨_, _, rfl, e3⟩)
theorem nameNode_cu (h : Cu A s s') : Rel A (nameNode ws s) (nameNode ws s') := by
  rcases h.cases with e | ⟨e1, e2, e3⟩
  · exact .inl (end_nameNode e)
  · unfold nameNode fail
    rw [← isName_hd e1, ← e1]
    split
    · exact .ok e2
    · exact .inr (.inr ⟨_, _, rfl, e3⟩)
theorem Cu.leave (h : Cu A s s') : Cu A (leave s) (leave s') := by
  obtain ⟨⟨g1, g2, g3, g4⟩, g⟩ := h
  exact ⟨⟨g1, g2, g3, by show s.de - 1 = s'.de - 1; rw [g4]⟩, g⟩
theorem AtEnd.leave (h : AtEnd A s) : AtEnd A (leave s) := h
end
theorem expr_end (ws : List ByteArray) (A : Nat) : ∀ n : Nat, (∀ s, AtEnd A s → Good A (cond ws n s)) ∧ (∀ m s, 1 ≤ m → AtEnd A s → Good A (binary ws n m s)) ∧ (∀ m l s, 1 ≤ m → AtEnd A s → Good A (binL ws n m l s)) ∧ (∀ s, AtEnd A s → Good A (unary ws n s)) ∧ (∀ s, AtEnd A s → Good A (primary ws n s)) ∧ (∀ s, AtEnd A s → Good A (args ws n s)) ∧ (∀ l s, AtEnd A s → Good A (conds ws n l s))
  | 0 => ⟨fun s h => by rw [cond]; trivial, fun m s _ h => by rw [binary]; trivial, fun m l s _ h => by rw [binL]; trivial, fun s h => by rw [unary]; trivial, fun s h => by rw [primary]; trivial, fun s h => by rw [args]; trivial, fun l s h => by rw [conds]; trivial⟩
  | n + 1 => by
    obtain ⟨ic, ib, il, iu, ip, ia, is⟩ := expr_end ws A n
    refine ⟨fun s h => ?_, fun m s hm h => ?_, fun m l s hm h => ?_, fun s h => ?_, fun s h => ?_, fun s h => ?_, fun l s h => ?_⟩
    · rw [cond]
      refine (ib 1 s (by omega) h).bind fun x s1 h1 => ?_
      rw [end_at h1 (by decide)]
      exact h1
    · rw [binary]
      exact (iu s h).bind fun x s1 h1 => il m x s1 hm h1
    · rw [binL, end_hd h, if_pos (show binding (endT A).t < m from Nat.lt_of_lt_of_le (show binding (bs []) < 1 by decide) hm)]
      exact h
    · rw [unary, end_at h (by decide), end_at h (by decide)]
      exact ip s h
    · rw [primary, end_at h (by decide), end_at h (by decide), end_at h (by decide), end_at h (by decide), end_hd h]
      show Good A (R.bind (nameNode ws s) _)
      refine (end_nameNode h).bind fun x s1 h1 => ?_
      rw [end_at h1 (by decide), end_at h1 (by decide)]
      exact h1
    · rw [args]
      refine (end_open h (by decide)).bind fun _ s1 h1 => ?_
      refine Good.bind ?_ fun l s2 h2 => (end_take h2 (by decide)).bind fun _ s3 h3 => h3
      rw [end_at h1 (by decide)]
      exact (ic s1 h1).bind fun x s2 h2 => is _ s2 h2
    · rw [conds, end_at h (by decide)]
      exact h
theorem expr_cu (ws : List ByteArray) (A : Nat) : ∀ n : Nat, (∀ s s', Cu A s s' → Rel A (cond ws n s) (cond ws n s')) ∧ (∀ m s s', 1 ≤ m → Cu A s s' → Rel A (binary ws n m s) (binary ws n m s')) ∧ (∀ m l s s', 1 ≤ m → Cu A s s' → Rel A (binL ws n m l s) (binL ws n m l s')) ∧ (∀ s s', Cu A s s' → Rel A (unary ws n s) (unary ws n s')) ∧ (∀ s s', Cu A s s' → Rel A (primary ws n s) (primary ws n s')) ∧ (∀ s s', Cu A s s' → Rel A (args ws n s) (args ws n s')) ∧ (∀ l s s', Cu A s s' → Rel A (conds ws n l s) (conds ws n l s'))
  | 0 => ⟨fun s s' h => .inl (by rw [cond]; trivial), fun m s s' _ h => .inl (by rw [binary]; trivial), fun m l s s' _ h => .inl (by rw [binL]; trivial), fun s s' h => .inl (by rw [unary]; trivial), fun s s' h => .inl (by rw [primary]; trivial), fun s s' h => .inl (by rw [args]; trivial), fun l s s' h => .inl (by rw [conds]; trivial)⟩
  | n + 1 => by
    obtain ⟨ic, ib, il, iu, ip, ia, is⟩ := expr_cu ws A n
    obtain ⟨ec, eb, el, eu, ep, ea, es⟩ := expr_end ws A n
    refine ⟨fun s s' h => ?_, fun m s s' hm h => ?_, fun m l s s' hm h => ?_, fun s s' h => ?_, fun s s' h => ?_, fun s s' h => ?_, fun l s s' h => ?_⟩
    · rw [cond, cond]
      refine (ib 1 s s' (by omega) h).bind (fun x s1 s1' h1 => ?_) (fun x s1' h1 => ?_)
      · rcases h1.cases with e | ⟨e1, e2, e3⟩
        · left
          rw [end_at e (by decide)]
          exact e
        · rw [← isAt_hd e1, ← e1]
          split
          · refine (open_cu h1 (by decide)).bind (fun _ s2 s2' h2 => ?_) (fun _ s2' h2 => ?_)
            · refine (ic s2 s2' h2).bind (fun _ s3 s3' h3 => ?_) (fun _ s3' h3 => ?_)
              · refine (take_cu h3 (by decide)).bind (fun _ s4 s4' h4 => ?_) (fun _ s4' h4 => ?_)
                · exact (ic s4 s4' h4).bind (fun _ s5 s5' h5 => .ok h5.leave) (fun _ s5' h5 => h5.leave)
                · exact (ec s4' h4).bind fun _ s5' h5 => h5.leave
              · exact (end_take h3 (by decide)).bind fun _ s4' h4 => (ec s4' h4).bind fun _ s5' h5 => h5.leave
            · exact (ec s2' h2).bind fun _ s3' h3 => (end_take h3 (by decide)).bind fun _ s4' h4 => (ec s4' h4).bind fun _ s5' h5 => h5.leave
          · exact .ok h1
      · rw [end_at h1 (by decide)]
        exact h1
    · rw [binary, binary]
      exact (iu s s' h).bind (fun x s1 s1' h1 => il m x s1 s1' hm h1) (fun x s1' h1 => el m x s1' hm h1)
    · rcases h.cases with e | ⟨e1, e2, e3⟩
      · exact .inl ((expr_end ws A (n + 1)).2.2.1 m l s' hm e)
      · rw [binL, binL, ← e1]
        split
        · exact .ok h
        · exact (ib _ _ _ (by omega) e2).bind (fun x s1 s1' h1 => il m _ s1 s1' hm h1) (fun x s1' h1 => el m _ s1' hm h1)
    · rcases h.cases with e | ⟨e1, e2, e3⟩
      · exact .inl ((expr_end ws A (n + 1)).2.2.2.1 s' e)
      · rw [unary, unary, ← isAt_hd e1, ← isAt_hd e1, ← e1]
        split
        · rename_i hb
          have hx : (hd s).t ≠ bs [] := by
            rw [Bool.or_eq_true] at hb
            unfold isAt at hb
            rw [decide_eq_true_eq, decide_eq_true_eq] at hb
            rcases hb with hb | hb <;> (rw [hb]; decide)
          refine (open_cu h hx).bind (fun _ s2 s2' h2 => ?_) (fun _ s2' h2 => ?_)
          · exact (iu s2 s2' h2).bind (fun _ s3 s3' h3 => .ok h3.leave) (fun _ s3' h3 => h3.leave)
          · exact (eu s2' h2).bind fun _ s3' h3 => h3.leave
        · exact ip s s' h
    · rcases h.cases with e | ⟨e1, e2, e3⟩
      · exact .inl ((expr_end ws A (n + 1)).2.2.2.2.1 s' e)
      · rw [primary, primary, ← isAt_hd e1, ← isAt_hd e1, ← isAt_hd e1, ← isAt_hd e1, ← e1]
        split
        · refine (open_cu h (by decide)).bind (fun _ s2 s2' h2 => ?_) (fun _ s2' h2 => ?_)
          · refine (ic s2 s2' h2).bind (fun _ s3 s3' h3 => ?_) (fun _ s3' h3 => ?_)
            · exact (take_cu h3 (by decide)).bind (fun _ s4 s4' h4 => .ok h4.leave) (fun _ s4' h4 => h4.leave)
            · exact (end_take h3 (by decide)).bind fun _ s4' h4 => h4.leave
          · exact (ec s2' h2).bind fun _ s3' h3 => (end_take h3 (by decide)).bind fun _ s4' h4 => h4.leave
        · split
          · exact .ok e2
          · split
            · exact .ok e2
            · split
              · refine (take_cu h (by decide)).bind (fun _ s2 s2' h2 => ?_) (fun _ s2' h2 => ?_)
                · refine (take_cu h2 (by decide)).bind (fun _ s3 s3' h3 => ?_) (fun _ s3' h3 => ?_)
                  · refine (name_cu h3).bind (fun _ s4 s4' h4 => ?_) (fun _ s4' h4 => ?_)
                    · exact (take_cu h4 (by decide)).bind (fun _ s5 s5' h5 => .ok h5) (fun _ s5' h5 => h5)
                    · exact (end_take h4 (by decide)).bind fun _ s5' h5 => h5
                  · exact (end_nm h3).bind fun _ s4' h4 => (end_take h4 (by decide)).bind fun _ s5' h5 => h5
                · exact (end_take h2 (by decide)).bind fun _ s3' h3 => (end_nm h3).bind fun _ s4' h4 => (end_take h4 (by decide)).bind fun _ s5' h5 => h5
              · split
                · exact (ia _ _ e2).bind (fun _ s2 s2' h2 => .ok h2) (fun _ s2' h2 => h2)
                · refine (nameNode_cu h).bind (fun _ s1 s1' h1 => ?_) (fun _ s1' h1 => ?_)
                  · rcases h1.cases with g | ⟨g1, g2, g3⟩
                    · left
                      rw [end_at g (by decide), end_at g (by decide)]
                      exact g
                    · rw [← isAt_hd g1, ← isAt_hd g1]
                      split
                      · exact (ia _ _ h1).bind (fun _ s2 s2' h2 => .ok h2) (fun _ s2' h2 => h2)
                      · split
                        · exact (nameNode_cu g2).bind (fun _ s2 s2' h2 => .ok h2) (fun _ s2' h2 => h2)
                        · exact .ok h1
                  · rw [end_at h1 (by decide), end_at h1 (by decide)]
                    exact h1
    · rw [args, args]
      refine (open_cu h (by decide)).bind (fun _ s1 s1' h1 => ?_) (fun _ s1' h1 => ?_)
      · refine Rel.bind ?_ (fun l s2 s2' h2 => (take_cu h2 (by decide)).bind (fun _ s3 s3' h3 => .ok h3.leave) (fun _ s3' h3 => h3.leave)) (fun l s2' h2 => (end_take h2 (by decide)).bind fun _ s3' h3 => h3.leave)
        rcases h1.cases with e | ⟨e1, e2, e3⟩
        · left
          rw [end_at e (by decide)]
          exact (ec s1' e).bind fun x s2 h2 => es _ s2 h2
        · rw [← isAt_hd e1]
          split
          · exact .ok h1
          · exact (ic s1 s1' h1).bind (fun x s2 s2' h2 => is _ s2 s2' h2) (fun x s2' h2 => es _ s2' h2)
      · refine Good.bind ?_ fun l s2 h2 => (end_take h2 (by decide)).bind fun _ s3 h3 => h3
        rw [end_at h1 (by decide)]
        exact (ec s1' h1).bind fun x s2 h2 => es _ s2 h2
    · rcases h.cases with e | ⟨e1, e2, e3⟩
      · exact .inl ((expr_end ws A (n + 1)).2.2.2.2.2.2 l s' e)
      · rw [conds, conds, ← isAt_hd e1]
        split
        · exact (ic _ _ e2).bind (fun x s2 s2' h2 => is _ s2 s2' h2) (fun x s2' h2 => es _ s2' h2)
        · exact .ok h
end Go.Proofs.YtmfoehaeejhlpaaGreatDoor.Yn

/-
  The grammar: what is read of tokens that are cut off: statements, programs.
-/
namespace Go.Proofs.YtmfoehaeejhlpaaGreatDoor.Yn
set_option maxRecDepth 100000
section
variable {A : Nat} {ws : List ByteArray} {s s' : S} {n : Nat}
theorem cond_end (h : AtEnd A s) : Good A (cond ws n s) := (expr_end ws A n).1 s h
theorem cond_cu (h : Cu A s s') : Rel A (cond ws n s) (cond ws n s') := (expr_cu ws A n).1 s s' h
theorem field_end (h : AtEnd A s) : Good A (field ws n s) := by
  unfold field
  exact (end_nm h).bind fun _ s1 h1 => (end_take h1 (by decide)).bind fun _ s2 h2 => (cond_end h2).bind fun _ s3 h3 => h3
theorem field_cu (h : Cu A s s') : Rel A (field ws n s) (field ws n s') := by
  rcases h.cases with e | ⟨e1, e2, e3⟩
  · exact .inl (field_end e)
  · unfold field
    rw [← e1]
    refine (name_cu h).bind (fun _ s1 s1' h1 => ?_) (fun _ s1' h1 => ?_)
    · refine (take_cu h1 (by decide)).bind (fun _ s2 s2' h2 => ?_) (fun _ s2' h2 => ?_)
      · exact (cond_cu h2).bind (fun _ s3 s3' h3 => .ok h3) (fun _ s3' h3 => h3)
      · exact (cond_end h2).bind fun _ s3 h3 => h3
    · exact (end_take h1 (by decide)).bind fun _ s2 h2 => (cond_end h2).bind fun _ s3 h3 => h3
section
variable {p : Nat → S → R Tree} (hE : ∀ n s, AtEnd A s → Good A (p n s)) (hC : ∀ n s s', Cu A s s' → Rel A (p n s) (p n s'))
theorem items_end (l : List Tree) : ∀ (n : Nat) (s : S), AtEnd A s → Good A (items p n l s)
  | 0, s, h => by rw [items]; trivial
  | n + 1, s, h => by
    rw [items, end_at h (by decide)]
    exact h
include hC in
theorem items_cu : ∀ (n : Nat) (l : List Tree) (s s' : S), Cu A s s' → Rel A (items p n l s) (items p n l s')
  | 0, l, s, s', h => .inl (by rw [items]; trivial)
  | n + 1, l, s, s', h => by
    rcases h.cases with e | ⟨e1, e2, e3⟩
    · exact .inl (items_end l (n + 1) s' e)
    · rw [items, items, ← isAt_hd e1]
      split
      · exact (hC n _ _ e2).bind (fun x s1 s1' h1 => items_cu n _ s1 s1' h1) (fun x s1' h1 => items_end _ n s1' h1)
      · exact .ok h
include hE in
theorem list_end {x : ByteArray} (hx : x ≠ bs []) (h : AtEnd A s) : Good A (listS p n x s) := by
  unfold listS
  rw [end_at h hx]
  exact (hE n s h).bind fun y s1 h1 => items_end _ n s1 h1
include hE hC in
theorem list_cu {x : ByteArray} (hx : x ≠ bs []) (h : Cu A s s') : Rel A (listS p n x s) (listS p n x s') := by
  rcases h.cases with e | ⟨e1, e2, e3⟩
  · exact .inl (list_end hE hx e)
  · unfold listS
    rw [← isAt_hd e1]
    split
    · exact .ok h
    · exact (hC n s s' h).bind (fun x s1 s1' h1 => items_cu hC n _ s1 s1' h1) (fun x s1' h1 => items_end _ n s1' h1)
end
theorem part_end (h : AtEnd A s) : Good A (part ws n s) := by
  rw [part_eq]
  exact (end_nm h).bind fun _ s1 h1 => (end_open h1 (by decide)).bind fun _ s2 h2 => (list_end (p := field ws) (fun _ _ h => field_end h) (x := cRb) (by decide) h2).bind fun _ s3 h3 => (end_take h3 (by decide)).bind fun _ s4 h4 => h4.leave
theorem part_cu (h : Cu A s s') : Rel A (part ws n s) (part ws n s') := by
  rcases h.cases with e | ⟨e1, e2, e3⟩
  · exact .inl (part_end e)
  · rw [part_eq, part_eq, ← e1]
    refine (name_cu h).bind (fun _ s1 s1' h1 => ?_) (fun _ s1' h1 => ?_)
    · refine (open_cu h1 (by decide)).bind (fun _ s2 s2' h2 => ?_) (fun _ s2' h2 => ?_)
      · refine (list_cu (p := field ws) (fun _ _ h => field_end h) (fun _ _ _ h => field_cu h) (x := cRb) (by decide) h2).bind (fun _ s3 s3' h3 => ?_) (fun _ s3' h3 => ?_)
        · exact (take_cu h3 (by decide)).bind (fun _ s4 s4' h4 => .ok h4.leave) (fun _ s4' h4 => h4.leave)
        · exact (end_take h3 (by decide)).bind fun _ s4 h4 => h4.leave
      · exact (list_end (p := field ws) (fun _ _ h => field_end h) (x := cRb) (by decide) h2).bind fun _ s3 h3 => (end_take h3 (by decide)).bind fun _ s4 h4 => h4.leave
    · exact (end_open h1 (by decide)).bind fun _ s2 h2 => (list_end (p := field ws) (fun _ _ h => field_end h) (x := cRb) (by decide) h2).bind fun _ s3 h3 => (end_take h3 (by decide)).bind fun _ s4 h4 => h4.leave
theorem tail_end (h : AtEnd A s) : Good A (tail ws n s) := by
  unfold tail
  exact (cond_end h).bind fun _ s1 h1 => (end_take h1 (by decide)).bind fun _ s2 h2 => h2
theorem tail_cu (h : Cu A s s') : Rel A (tail ws n s) (tail ws n s') := by
  unfold tail
  exact (cond_cu h).bind (fun _ s1 s1' h1 => (take_cu h1 (by decide)).bind (fun _ s2 s2' h2 => .ok h2) (fun _ s2' h2 => h2)) (fun _ s1' h1 => (end_take h1 (by decide)).bind fun _ s2 h2 => h2)
theorem Cu.up (h : Cu A s s') : Cu A (up s) (up s') := by
  obtain ⟨⟨g1, g2, g3, g4⟩, g⟩ := h
  exact ⟨⟨g1, g2, by show s.st + 1 = s'.st + 1; rw [g3], g4⟩, g⟩
theorem Cu.nxup (h : Cu A (nx s) (nx s')) (hst : s.st = s'.st) : Cu A (nx (Yn.up s)) (nx (Yn.up s')) := by
  obtain ⟨⟨g1, g2, g3, g4⟩, g⟩ := h
  exact ⟨⟨g1, g2, by show s.st + 1 = s'.st + 1; rw [hst], g4⟩, g⟩
theorem stmt_end (h : AtEnd A s) : Good A (stmt ws n s) := by
  cases n with
  | zero => rw [stmt]; trivial
  | succ n =>
    have hw : wayOf (hd s).t = 0 := by rw [end_hd h]; rfl
    rw [stmt_name_no hw (end_name h)]
    show (hd s).a = A
    rw [end_hd h]
    rfl
theorem block_end (h : AtEnd A s) : Good A (block ws n s) := by
  cases n with
  | zero => rw [block]; trivial
  | succ n =>
    rw [block]
    cases hop : openS cLb s with
    | out => trivial
    | no a e =>
      have := end_open h (x := cLb) (by decide)
      rw [hop] at this
      exact this
    | ok x s1 =>
      unfold openS at hop
      rw [end_at h (by decide)] at hop
      cases hop
theorem stmts_end : ∀ (n : Nat) (l : List Tree) (s : S), AtEnd A s → Good A (stmts ws n l s)
  | 0, l, s, h => by rw [stmts]; trivial
  | n + 1, l, s, h => by
    rw [stmts, end_at h (by decide)]
    exact (stmt_end h).bind fun x s1 h1 => stmts_end n _ s1 h1
end
set_option maxHeartbeats 2000000 in
theorem stmt_cu (ws : List ByteArray) (A : Nat) : ∀ n : Nat, (∀ s s', Cu A s s' → Rel A (stmt ws n s) (stmt ws n s')) ∧ (∀ s s', Cu A s s' → Rel A (block ws n s) (block ws n s')) ∧ (∀ l s s', Cu A s s' → Rel A (stmts ws n l s) (stmts ws n l s'))
  | 0 => ⟨fun s s' h => .inl (by rw [stmt]; trivial), fun s s' h => .inl (by rw [block]; trivial), fun l s s' h => .inl (by rw [stmts]; trivial)⟩
  | n + 1 => by
    obtain ⟨is, ib, il⟩ := stmt_cu ws A n
    refine ⟨fun s s' h => ?_, fun s s' h => ?_, fun l s s' h => ?_⟩
    · have hs0 := h.1.2.2.1
      rcases h.cases with e | ⟨e1, e2, e3⟩
      · exact .inl (stmt_end e)
      · by_cases hst : s.st = 200
        · rcases wayOf_cases (hd s).t with ⟨hw, -⟩ | ⟨p, hp, -, hw⟩
          · cases hn : isName ws s with
            | false => rw [stmt_name_no hw hn]; exact .inr (.inr ⟨_, _, rfl, e3⟩)
            | true => rw [stmt_name_full hw hn hst]; exact .inr (.inr ⟨_, _, rfl, e3⟩)
          · rw [stmt_word hw (by
              intro e
              rw [ways] at hp
              simp only [List.mem_cons, List.not_mem_nil, or_false] at hp
              rcases hp with rfl | rfl | rfl | rfl | rfl | rfl | rfl | rfl | rfl | rfl | rfl <;> cases e) hst]
            exact .inr (.inr ⟨_, _, rfl, e3⟩)
        · have hst' : s'.st ≠ 200 := hs0 ▸ hst
          have hu := h.up
          have hx := e2.nxup hs0
          rcases wayOf_cases (hd s).t with ⟨hw, -⟩ | ⟨p, hp, hpt, hw⟩
          · cases hn : isName ws s with
            | false => rw [stmt_name_no hw hn]; exact .inr (.inr ⟨_, _, rfl, e3⟩)
            | true =>
              rw [stmt_set hw hn hst, stmt_set (e1 ▸ hw) ((isName_hd e1).symm.trans hn) hst', ← e1]
              refine (name_cu hu).bind (fun _ s1 s1' h1 => ?_) (fun _ s1' h1 => ?_)
              · rcases h1.cases with g | ⟨g1, g2, g3⟩
                · left
                  rw [end_at g (by decide)]
                  exact (end_take g (by decide)).bind fun _ s4 h4 => (tail_end h4).bind fun _ s5 h5 => h5
                · rw [← isAt_hd g1]
                  split
                  · refine (nameNode_cu g2).bind (fun _ s2 s2' h2 => ?_) (fun _ s2' h2 => ?_)
                    · refine (take_cu h2 (by decide)).bind (fun _ s4 s4' h4 => ?_) (fun _ s4' h4 => ?_)
                      · exact (tail_cu h4).bind (fun _ s5 s5' h5 => .ok h5) (fun _ s5' h5 => h5)
                      · exact (tail_end h4).bind fun _ s5 h5 => h5
                    · exact (end_take h2 (by decide)).bind fun _ s4 h4 => (tail_end h4).bind fun _ s5 h5 => h5
                  · refine (take_cu h1 (by decide)).bind (fun _ s4 s4' h4 => ?_) (fun _ s4' h4 => ?_)
                    · exact (tail_cu h4).bind (fun _ s5 s5' h5 => .ok h5) (fun _ s5' h5 => h5)
                    · exact (tail_end h4).bind fun _ s5 h5 => h5
              · rw [end_at h1 (by decide)]
                exact (end_take h1 (by decide)).bind fun _ s4 h4 => (tail_end h4).bind fun _ s5 h5 => h5
          · rw [ways] at hp
            simp only [List.mem_cons, List.not_mem_nil, or_false] at hp
            rcases hp with rfl | rfl | rfl | rfl | rfl | rfl | rfl | rfl | rfl | rfl | rfl
            · rw [stmt_let hst hw, stmt_let hst' (e1 ▸ hw), ← e1]
              refine (name_cu hx).bind (fun _ s1 s1' h1 => ?_) (fun _ s1' h1 => ?_)
              · refine (take_cu h1 (by decide)).bind (fun _ s4 s4' h4 => ?_) (fun _ s4' h4 => ?_)
                · exact (tail_cu h4).bind (fun _ s5 s5' h5 => .ok h5) (fun _ s5' h5 => h5)
                · exact (tail_end h4).bind fun _ s5 h5 => h5
              · exact (end_take h1 (by decide)).bind fun _ s4 h4 => (tail_end h4).bind fun _ s5 h5 => h5
            · rw [stmt_if hst hw, stmt_if hst' (e1 ▸ hw), ← e1]
              have hend : ∀ (c b : Tree) (s2' : S), AtEnd A s2' → Good A (if isAt s2' wElse then (if isAt (nx s2') wIf then stmt ws n (nx s2') else block ws n (nx s2')).bind fun x s3 => R.ok (Tree.mk 13 (bs []) 0 (([] ++ [c, b]) ++ [x]) (hd s).a) s3 else R.ok (Tree.mk 13 (bs []) 0 ([] ++ [c, b]) (hd s).a) s2') := by
                intro c b s2' g
                rw [end_at g (by decide)]
                exact g
              refine (cond_cu hx).bind (fun c s1 s1' h1 => ?_) (fun c s1' h1 => ?_)
              · refine (ib s1 s1' h1).bind (fun b s2 s2' h2 => ?_) (fun b s2' h2 => hend c b s2' h2)
                rcases h2.cases with g | ⟨g1, g2, g3⟩
                · exact .inl (hend c b s2' g)
                · rw [← isAt_hd g1]
                  split
                  · refine Rel.bind ?_ (fun _ s3 s3' h3 => .ok h3) (fun _ s3' h3 => h3)
                    rcases g2.cases with k | ⟨k1, k2, k3⟩
                    · left
                      rw [end_at k (by decide)]
                      exact block_end k
                    · rw [← isAt_hd k1]
                      split
                      · exact is _ _ g2
                      · exact ib _ _ g2
                  · exact .ok h2
              · exact (block_end h1).bind fun b s2' h2 => hend c b s2' h2
            · rw [stmt_while hst hw, stmt_while hst' (e1 ▸ hw), ← e1]
              refine (cond_cu hx).bind (fun c s1 s1' h1 => ?_) (fun c s1' h1 => ?_)
              · exact (ib s1 s1' h1).bind (fun b s2 s2' h2 => .ok h2) (fun b s2' h2 => h2)
              · exact (block_end h1).bind fun b s2' h2 => h2
            · rw [stmt_repeat hst hw, stmt_repeat hst' (e1 ▸ hw), ← e1]
              refine (cond_cu hx).bind (fun c s1 s1' h1 => ?_) (fun c s1' h1 => ?_)
              · exact (ib s1 s1' h1).bind (fun b s2 s2' h2 => .ok h2) (fun b s2' h2 => h2)
              · exact (block_end h1).bind fun b s2' h2 => h2
            · rw [stmt_emit hst hw, stmt_emit hst' (e1 ▸ hw), ← e1]
              refine (cond_cu hx).bind (fun c s1 s1' h1 => ?_) (fun c s1' h1 => ?_)
              · refine (take_cu h1 (by decide)).bind (fun _ s4 s4' h4 => ?_) (fun _ s4' h4 => ?_)
                · exact (tail_cu h4).bind (fun _ s5 s5' h5 => .ok h5) (fun _ s5' h5 => h5)
                · exact (tail_end h4).bind fun _ s5 h5 => h5
              · exact (end_take h1 (by decide)).bind fun _ s4 h4 => (tail_end h4).bind fun _ s5 h5 => h5
            · rw [stmt_spawn hst hw, stmt_spawn hst' (e1 ▸ hw), ← e1]
              refine (list_cu (p := part ws) (fun _ _ h => part_end h) (fun _ _ _ h => part_cu h) (x := cSemi) (by decide) hx).bind (fun _ s1 s1' h1 => ?_) (fun _ s1' h1 => ?_)
              · exact (take_cu h1 (by decide)).bind (fun _ s4 s4' h4 => .ok h4) (fun _ s4' h4 => h4)
              · exact (end_take h1 (by decide)).bind fun _ s4 h4 => h4
            · rw [stmt_add hst hw, stmt_add hst' (e1 ▸ hw), ← e1]
              refine (part_cu hx).bind (fun _ s1 s1' h1 => ?_) (fun _ s1' h1 => ?_)
              · exact (take_cu h1 (by decide)).bind (fun _ s4 s4' h4 => .ok h4) (fun _ s4' h4 => h4)
              · exact (end_take h1 (by decide)).bind fun _ s4 h4 => h4
            · rw [stmt_remove hst hw, stmt_remove hst' (e1 ▸ hw), ← e1]
              refine (name_cu hx).bind (fun _ s1 s1' h1 => ?_) (fun _ s1' h1 => ?_)
              · exact (take_cu h1 (by decide)).bind (fun _ s4 s4' h4 => .ok h4) (fun _ s4' h4 => h4)
              · exact (end_take h1 (by decide)).bind fun _ s4 h4 => h4
            · rw [stmt_die hst hw, stmt_die hst' (e1 ▸ hw), ← e1]
              exact (take_cu hx (by decide)).bind (fun _ s4 s4' h4 => .ok h4) (fun _ s4' h4 => h4)
            · rw [stmt_stop hst hw, stmt_stop hst' (e1 ▸ hw), ← e1]
              exact (take_cu hx (by decide)).bind (fun _ s4 s4' h4 => .ok h4) (fun _ s4' h4 => h4)
            · rw [stmt_return hst hw, stmt_return hst' (e1 ▸ hw), ← e1]
              exact (tail_cu hx).bind (fun _ s4 s4' h4 => .ok h4) (fun _ s4' h4 => h4)
    · rcases h.cases with e | ⟨e1, e2, e3⟩
      · exact .inl (block_end e)
      · rw [block, block, ← e1]
        refine (open_cu h (by decide)).bind (fun _ s1 s1' h1 => ?_) (fun _ s1' h1 => ?_)
        · exact (il _ s1 s1' h1).bind (fun _ s2 s2' h2 => .ok h2.leave) (fun _ s2' h2 => h2.leave)
        · exact (stmts_end n _ s1' h1).bind fun _ s2' h2 => h2.leave
    · rcases h.cases with e | ⟨e1, e2, e3⟩
      · exact .inl (stmts_end (n + 1) l s' e)
      · rw [stmts, stmts, ← isAt_hd e1]
        split
        · exact .ok e2
        · exact (is s s' h).bind (fun x s1 s1' h1 => il _ s1 s1' h1) (fun x s1' h1 => stmts_end n _ s1' h1)
end Go.Proofs.YtmfoehaeejhlpaaGreatDoor.Yn

/-
  The grammar: what is read of tokens that are cut off: programs.
-/
namespace Go.Proofs.YtmfoehaeejhlpaaGreatDoor.Yn
set_option maxRecDepth 100000
section
variable {A : Nat} {ws : List ByteArray}
theorem names_end {most sum : Nat} {l : List Tree} {s : S} (n : Nat) (h : AtEnd A s) : Good A (names ws n most sum l s) := by
  cases n with
  | zero => rw [names]; trivial
  | succ n =>
    rw [names]
    unfold needName fail
    rw [end_name h, end_hd h]
    rfl
theorem names_cu {most : Nat} : ∀ (n sum : Nat) (l : List Tree) (s s' : S), Cu A s s' → Rel A (names ws n most sum l s) (names ws n most sum l s')
  | 0, sum, l, s, s', h => .inl (by rw [names]; trivial)
  | n + 1, sum, l, s, s', h => by
    rcases h.cases with e | ⟨e1, e2, e3⟩
    · exact .inl (names_end _ e)
    · rw [names, names]
      unfold needName fail
      rw [← isName_hd e1, ← e1]
      split
      · show Rel A (if sum = most then _ else _) (if sum = most then _ else _)
        split
        · exact .inr (.inr ⟨_, _, rfl, e3⟩)
        · refine (nameNode_cu h).bind (fun x s1 s1' h1 => ?_) (fun x s1' h1 => ?_)
          · rcases h1.cases with g | ⟨g1, g2, g3⟩
            · left
              rw [end_at g (by decide)]
              exact g
            · rw [← isAt_hd g1]
              split
              · exact names_cu n _ _ _ _ g2
              · exact .ok h1
          · rw [end_at h1 (by decide)]
            exact h1
      · exact .inr (.inr ⟨_, _, rfl, e3⟩)
variable {s s' : S} {n : Nat}
theorem clause_end {x : ByteArray} (hx : x ≠ bs []) (h : AtEnd A s) : Good A (clauseS ws n x s) := by
  unfold clauseS
  rw [end_at h hx]
  exact h
theorem clause_cu {x : ByteArray} (hx : x ≠ bs []) (h : Cu A s s') : Rel A (clauseS ws n x s) (clauseS ws n x s') := by
  rcases h.cases with e | ⟨e1, e2, e3⟩
  · exact .inl (clause_end hx e)
  · unfold clauseS
    rw [← isAt_hd e1, ← e1]
    split
    · exact (names_cu n _ _ _ _ e2).bind (fun _ s1 s1' h1 => .ok h1) (fun _ s1' h1 => h1)
    · exact .ok h
theorem clauses_endA : ∀ (l : List ByteArray) (r : List Tree) (s : S), (∀ x ∈ l, x ≠ bs []) → AtEnd A s → Good A (clausesS ws n l r s)
  | [], r, s, _, h => h
  | x :: l, r, s, hx, h => by
    rw [clausesS]
    exact (clause_end (hx x List.mem_cons_self) h).bind fun _ s1 h1 => clauses_endA l _ s1 (fun y hy => hx y (List.mem_cons_of_mem _ hy)) h1
theorem clauses_cu : ∀ (l : List ByteArray) (r : List Tree) (s s' : S), (∀ x ∈ l, x ≠ bs []) → Cu A s s' → Rel A (clausesS ws n l r s) (clausesS ws n l r s')
  | [], r, s, s', _, h => .ok h
  | x :: l, r, s, s', hx, h => by
    rw [clausesS, clausesS]
    exact (clause_cu (hx x List.mem_cons_self) h).bind (fun _ s1 s1' h1 => clauses_cu l _ s1 s1' (fun y hy => hx y (List.mem_cons_of_mem _ hy)) h1) (fun _ s1' h1 => clauses_endA l _ s1' (fun y hy => hx y (List.mem_cons_of_mem _ hy)) h1)
theorem param_end (h : AtEnd A s) : Good A (paramS ws n s) := by
  unfold paramS
  refine (end_take h (by decide)).bind fun _ s1 h1 => ?_
  rw [end_at h1 (by decide)]
  exact (names_end n h1).bind fun _ s2 h2 => (end_take h2 (by decide)).bind fun _ s3 h3 => h3
theorem param_cu (h : Cu A s s') : Rel A (paramS ws n s) (paramS ws n s') := by
  rcases h.cases with e | ⟨e1, e2, e3⟩
  · exact .inl (param_end e)
  · unfold paramS
    rw [← e1]
    have hE : ∀ s1' : S, AtEnd A s1' → Good A (if isAt s1' cClose then (take cClose s1').bind fun _ s3 => R.ok (Tree.mk 3 wFunc 0 [] (hd s).a) s3 else (names ws n 4 0 [] s1').bind fun l s2 => (take cClose s2).bind fun _ s3 => R.ok (Tree.mk 3 wFunc 0 l (hd s).a) s3) := by
      intro s1' h1
      rw [end_at h1 (by decide)]
      exact (names_end n h1).bind fun _ s2 h2 => (end_take h2 (by decide)).bind fun _ s3 h3 => h3
    refine (take_cu h (by decide)).bind (fun _ s1 s1' h1 => ?_) (fun _ s1' h1 => hE s1' h1)
    rcases h1.cases with g | ⟨g1, g2, g3⟩
    · exact .inl (hE s1' g)
    · rw [← isAt_hd g1]
      split
      · exact (take_cu h1 (by decide)).bind (fun _ s3 s3' h3 => .ok h3) (fun _ s3' h3 => h3)
      · refine (names_cu n _ _ _ _ h1).bind (fun _ s2 s2' h2 => ?_) (fun _ s2' h2 => ?_)
        · exact (take_cu h2 (by decide)).bind (fun _ s3 s3' h3 => .ok h3) (fun _ s3' h3 => h3)
        · exact (end_take h2 (by decide)).bind fun _ s3 h3 => h3
theorem func_end (h : AtEnd A s) : Good A (funcS ws n s) := by
  unfold funcS fail
  rw [end_at h (by decide), end_hd h]
  rfl
theorem func_cu (h : Cu A s s') : Rel A (funcS ws n s) (funcS ws n s') := by
  have hfu := h.1.2.1
  rcases h.cases with e | ⟨e1, e2, e3⟩
  · exact .inl (func_end e)
  · have hu : Cu A (upF s) (upF s') := by
      obtain ⟨⟨g1, g2, g3, g4⟩, g⟩ := h
      exact ⟨⟨g1, by show s.fu + 1 = s'.fu + 1; rw [g2], g3, g4⟩, g⟩
    unfold funcS fail
    rw [← isAt_hd e1, ← e1, ← hfu]
    split
    · split
      · exact .inr (.inr ⟨_, _, rfl, e3⟩)
      · refine (take_cu hu (by decide)).bind (fun _ s1 s1' h1 => ?_) (fun _ s1' h1 => ?_)
        · refine (name_cu h1).bind (fun _ s2 s2' h2 => ?_) (fun _ s2' h2 => ?_)
          · refine (param_cu h2).bind (fun _ s3 s3' h3 => ?_) (fun _ s3' h3 => ?_)
            · exact ((stmt_cu ws A n).2.1 _ _ h3).bind (fun _ s4 s4' h4 => .ok h4) (fun _ s4' h4 => h4)
            · exact (block_end h3).bind fun _ s4 h4 => h4
          · exact (param_end h2).bind fun _ s3 h3 => (block_end h3).bind fun _ s4 h4 => h4
        · exact (end_nm h1).bind fun _ s2 h2 => (param_end h2).bind fun _ s3 h3 => (block_end h3).bind fun _ s4 h4 => h4
    · exact .inr (.inr ⟨_, _, rfl, e3⟩)
theorem system_cu (h : Cu A s s') (ht : isAt s wSystem = true) : Rel A (systemS ws n s) (systemS ws n s') ∨ AtEnd A s' := by
  have hsy := h.1.1
  rcases h.cases with e | ⟨e1, e2, e3⟩
  · exact .inr e
  · left
    have _ := ht
    have hu : Cu A (upY s) (upY s') := by
      obtain ⟨⟨g1, g2, g3, g4⟩, g⟩ := h
      exact ⟨⟨by show s.sy + 1 = s'.sy + 1; rw [g1], g2, g3, g4⟩, g⟩
    unfold systemS fail
    rw [← e1, ← hsy]
    split
    · exact .inr (.inr ⟨_, _, rfl, e3⟩)
    · refine (take_cu hu (by decide)).bind (fun _ s1 s1' h1 => ?_) (fun _ s1' h1 => ?_)
      · refine (name_cu h1).bind (fun _ s2 s2' h2 => ?_) (fun _ s2' h2 => ?_)
        · refine (clauses_cu clauseWords [] s2 s2' (by decide) h2).bind (fun _ s3 s3' h3 => ?_) (fun _ s3' h3 => ?_)
          · exact ((stmt_cu ws A n).2.1 _ _ h3).bind (fun _ s4 s4' h4 => .ok h4) (fun _ s4' h4 => h4)
          · exact (block_end h3).bind fun _ s4 h4 => h4
        · exact (clauses_endA clauseWords [] s2' (by decide) h2).bind fun _ s3 h3 => (block_end h3).bind fun _ s4 h4 => h4
      · exact (end_nm h1).bind fun _ s2 h2 => (clauses_endA clauseWords [] s2 (by decide) h2).bind fun _ s3 h3 => (block_end h3).bind fun _ s4 h4 => h4
theorem member_end (h : AtEnd A s) : Good A (memberS ws n s) := by
  unfold memberS
  rw [end_at h (by decide)]
  exact func_end h
theorem member_cu (h : Cu A s s') : Rel A (memberS ws n s) (memberS ws n s') := by
  rcases h.cases with e | ⟨e1, e2, e3⟩
  · exact .inl (member_end e)
  · unfold memberS
    rw [← isAt_hd e1]
    split
    · rcases system_cu (n := n) (ws := ws) h (by assumption) with g | g
      · exact g
      · have g2 := end_at g (x := wSystem) (by decide)
        rw [← isAt_hd e1] at g2
        rename_i hb
        rw [g2] at hb
        cases hb
    · exact func_cu h
end
theorem prog_end (ws : List ByteArray) (A : Nat) {l : List Tree} {s : S} (n : Nat) (h : AtEnd A s) : Good A (progS ws n l s) := by
  cases n with
  | zero => rw [progS]; trivial
  | succ n =>
    rw [progS, end_hd h]
    exact h
/-- A program that is cut off ahead of a place: it ends there, well or not, if all of it was at fault there. -/
theorem prog_cu (ws : List ByteArray) (A : Nat) : ∀ (n : Nat) (l : List Tree) (s s' : S), Cu A s s' → Rel A (progS ws n l s) (progS ws n l s')
  | 0, l, s, s', h => .inl (by rw [progS]; trivial)
  | n + 1, l, s, s', h => by
    rcases h.cases with e | ⟨e1, e2, e3⟩
    · exact .inl (prog_end ws A _ e)
    · rw [progS, progS, ← e1]
      split
      · exact .ok h
      · exact (member_cu h).bind (fun x s1 s1' h1 => prog_cu ws A n _ s1 s1' h1) (fun x s1' h1 => prog_end ws A n h1)
theorem prog_cut {ws : List ByteArray} {A n er : Nat} {s s' : S} (h : Cu A s s') (hr : progS ws n [] s = .no A er) : Good A (progS ws n [] s') := by
  rcases prog_cu ws A n [] s s' h with g | ⟨x, s1, s1', g, -, -⟩ | ⟨a, e, g, ha⟩
  · exact g
  · rw [hr] at g
    cases g
  · rw [hr] at g
    injection g with g1 g2
    exact absurd g1.symm ha
end Go.Proofs.YtmfoehaeejhlpaaGreatDoor.Yn
