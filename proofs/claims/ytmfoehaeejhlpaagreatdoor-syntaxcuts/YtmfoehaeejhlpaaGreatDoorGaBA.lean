import Derived.Test.YtmfoehaeejhlpaaGreatDoorGaAR
import Derived.Test.YtmfoehaeejhlpaaGreatDoorGaAO
import Derived.Test.YtmfoehaeejhlpaaGreatDoorGaAZ
/-
  The grammar: where a fault may lie.
-/
namespace Go.Proofs.YtmfoehaeejhlpaaGreatDoor.Yn
set_option maxRecDepth 100000
/-- Tokens with their end. -/
def Te (T : List Tok) : Prop := ∃ l e, T = l ++ [e] ∧ e.k = 0 ∧ e.t = bs []
/-- Some of them are left. -/
def Jt (T : List Tok) (s : S) : Prop := s.ts <:+ T ∧ s.ts ≠ []
/-- A fault lies at one of them. -/
def Pl {α : Type} (T : List Tok) (r : R α) : Prop := (∀ a e, r = .no a e → (∃ t ∈ T, t.a = a) ∧ e ≠ 0) ∧ ∀ x s', r = .ok x s' → Jt T s'
section
variable {α β : Type} {ws : List ByteArray} {s : S} {T : List Tok}
theorem Pl.bind {r : R α} {f : α → S → R β} (h : Pl T r) (hf : ∀ x s', Jt T s' → Pl T (f x s')) : Pl T (r.bind f) := by
  cases r with
  | out => exact ⟨(by intro a e h; cases h), (by intro x s' h; cases h)⟩
  | no a e => exact ⟨(by intro a' e' h'; cases h'; exact h.1 a e rfl), (by intro x s' h; cases h)⟩
  | ok x s' => exact hf x s' (h.2 x s' rfl)
theorem Pl.out : Pl T (.out : R α) := ⟨(by intro a e h; cases h), (by intro x s' h; cases h)⟩
theorem Pl.ok {x : α} (h : Jt T s) : Pl T (.ok x s) := ⟨(by intro a e h; cases h), (by intro y s' e; cases e; exact h)⟩
theorem no_pl (h : Jt T s) {e : Nat} (he : e ≠ 0 := by decide) : Pl T (.no (hd s).a e : R α) := by
  refine ⟨fun a e' h' => ?_, by intro x s' h; cases h⟩
  cases h'
  refine ⟨?_, he⟩
  obtain ⟨h1, h2⟩ := h
  cases hs : s.ts with
  | nil => exact absurd hs h2
  | cons x l =>
    refine ⟨x, ?_, ?_⟩
    · obtain ⟨p, hp⟩ := h1
      rw [← hp, hs]
      simp
    · unfold hd
      rw [hs]
      rfl
theorem fail_pl (h : Jt T s) {e : Nat} (he : e ≠ 0 := by decide) : Pl T (fail s e : R α) := no_pl h he
theorem nx_j (hT : Te T) (h : Jt T s) (hn : (hd s).k ≠ 0 ∨ (hd s).t ≠ bs []) : Jt T (nx s) := by
  obtain ⟨⟨p, hp⟩, h2⟩ := h
  cases hs : s.ts with
  | nil => exact absurd hs h2
  | cons x l =>
    have ht : (nx s).ts = l := by unfold nx; rw [hs]; rfl
    have hh : hd s = x := by unfold hd; rw [hs]; rfl
    rw [hs] at hp
    refine ⟨?_, ?_⟩
    · rw [ht]
      exact ⟨p ++ [x], by rw [← hp]; simp⟩
    · rw [ht]
      intro e
      subst e
      obtain ⟨l0, e0, hT1, hT2, hT3⟩ := hT
      rw [← hp] at hT1
      have := (List.append_inj' hT1 rfl).2
      injection this with this _
      rw [hh, this] at hn
      rcases hn with hn | hn
      · exact hn hT2
      · exact hn hT3
theorem at_j (hT : Te T) {x : ByteArray} (hx : x ≠ bs []) (hj : Jt T s) (h : isAt s x = true) : Jt T (nx s) := nx_j hT hj (isAt_ne hx h)
theorem take_pl (hT : Te T) (x : ByteArray) (hx : x ≠ bs []) (hj : Jt T s) : Pl T (take x s) := by
  unfold take
  split
  · exact Pl.ok (at_j hT hx hj (by assumption))
  · exact fail_pl hj
theorem open_pl (hT : Te T) (x : ByteArray) (hx : x ≠ bs []) (hj : Jt T s) : Pl T (openS x s) := by
  unfold openS
  split
  · split
    · exact fail_pl hj
    · exact Pl.ok (at_j hT hx hj (by assumption))
  · exact fail_pl hj
theorem name_pl (hT : Te T) (hj : Jt T s) : Pl T (name ws s) := by
  unfold name
  split
  · exact Pl.ok (nx_j hT hj (name_ne (by assumption)))
  · exact fail_pl hj
theorem nameNode_pl (hT : Te T) (hj : Jt T s) : Pl T (nameNode ws s) := by
  unfold nameNode
  split
  · exact Pl.ok (nx_j hT hj (name_ne (by assumption)))
  · exact fail_pl hj
end
theorem expr_pl (ws : List ByteArray) {T : List Tok} (hT : Te T) : ∀ n : Nat, (∀ s, Jt T s → Pl T (cond ws n s)) ∧ (∀ m s, 1 ≤ m → Jt T s → Pl T (binary ws n m s)) ∧ (∀ m l s, 1 ≤ m → Jt T s → Pl T (binL ws n m l s)) ∧ (∀ s, Jt T s → Pl T (unary ws n s)) ∧ (∀ s, Jt T s → Pl T (primary ws n s)) ∧ (∀ s, Jt T s → Pl T (args ws n s)) ∧ (∀ l s, Jt T s → Pl T (conds ws n l s))
  | 0 => ⟨fun s _ => by rw [cond]; exact Pl.out, fun m s _ _ => by rw [binary]; exact Pl.out, fun m l s _ _ => by rw [binL]; exact Pl.out, fun s _ => by rw [unary]; exact Pl.out, fun s _ => by rw [primary]; exact Pl.out, fun s _ => by rw [args]; exact Pl.out, fun l s _ => by rw [conds]; exact Pl.out⟩
  | n + 1 => by
    obtain ⟨ic, ib, il, iu, ip, ia, is⟩ := expr_pl ws hT n
    refine ⟨fun s h => ?_, fun m s hm h => ?_, fun m l s hm h => ?_, fun s h => ?_, fun s h => ?_, fun s h => ?_, fun l s h => ?_⟩
    · rw [cond]
      refine (ib 1 s (by omega) h).bind fun x1 s1 h1 => ?_
      split
      · refine (open_pl hT _ (by decide) h1).bind fun _ s2 h2 => ?_
        refine (ic s2 h2).bind fun _ s3 h3 => ?_
        refine (take_pl hT _ (by decide) h3).bind fun _ s4 h4 => ?_
        exact (ic s4 h4).bind fun _ s5 h5 => Pl.ok h5
      · exact Pl.ok h1
    · rw [binary]
      exact (iu s h).bind fun x1 s1 h1 => il m x1 s1 hm h1
    · rw [binL]
      split
      · exact Pl.ok h
      · rename_i hb
        have hx := nx_j hT h (binding_ne (s := s) (by omega))
        refine (ib _ _ (by omega) hx).bind fun x1 s1 h1 => ?_
        exact il m _ s1 hm h1
    · rw [unary]
      split
      · rename_i hb
        rw [Bool.or_eq_true] at hb
        have hx : (hd s).t ≠ bs [] := by
          rcases hb with hb | hb
          · unfold isAt at hb
            rw [decide_eq_true_eq] at hb
            rw [hb]
            decide
          · unfold isAt at hb
            rw [decide_eq_true_eq] at hb
            rw [hb]
            decide
        refine (open_pl hT _ hx h).bind fun _ s2 h2 => ?_
        exact (iu s2 h2).bind fun _ s3 h3 => Pl.ok h3
      · exact ip s h
    · rw [primary]
      split
      · refine (open_pl hT _ (by decide) h).bind fun _ s2 h2 => ?_
        refine (ic s2 h2).bind fun _ s3 h3 => ?_
        exact (take_pl hT _ (by decide) h3).bind fun _ s4 h4 => Pl.ok h4
      · split
        · exact Pl.ok (nx_j hT h (.inl (by omega)))
        · split
          · rename_i hb
            rw [Bool.or_eq_true] at hb
            rcases hb with hb | hb <;> exact Pl.ok (at_j hT (by decide) h hb)
          · split
            · refine (take_pl hT _ (by decide) h).bind fun _ s2 h2 => ?_
              refine (take_pl hT _ (by decide) h2).bind fun _ s3 h3 => ?_
              refine (name_pl hT h3).bind fun _ s4 h4 => ?_
              exact (take_pl hT _ (by decide) h4).bind fun _ s5 h5 => Pl.ok h5
            · split
              · rename_i hb
                have hx := nx_j hT h (built_ne hb)
                exact (ia _ hx).bind fun _ s2 h2 => Pl.ok h2
              · refine (nameNode_pl hT h).bind fun _ s1 h1 => ?_
                split
                · exact (ia _ h1).bind fun _ s2 h2 => Pl.ok h2
                · split
                  · rename_i hb
                    have hx := at_j hT (by decide) h1 hb
                    exact (nameNode_pl hT hx).bind fun _ s2 h2 => Pl.ok h2
                  · exact Pl.ok h1
    · rw [args]
      refine (open_pl hT _ (by decide) h).bind fun _ s1 h1 => ?_
      refine Pl.bind ?_ fun _ s2 h2 => ?_
      · split
        · exact Pl.ok h1
        · exact (ic s1 h1).bind fun _ s2 h2 => is _ s2 h2
      · exact (take_pl hT _ (by decide) h2).bind fun _ s3 h3 => Pl.ok h3
    · rw [conds]
      split
      · rename_i hb
        have hx := at_j hT (by decide) h hb
        exact (ic _ hx).bind fun _ s2 h2 => is _ s2 h2
      · exact Pl.ok h
section
variable {ws : List ByteArray} {s : S} {n : Nat} {T : List Tok}
theorem cond_pl (hT : Te T) (h : Jt T s) : Pl T (cond ws n s) := (expr_pl ws hT n).1 s h
theorem field_pl (hT : Te T) (h : Jt T s) : Pl T (field ws n s) := by
  unfold field
  refine (name_pl hT h).bind fun _ s1 h1 => ?_
  refine (take_pl hT _ (by decide) h1).bind fun _ s2 h2 => ?_
  exact (cond_pl hT h2).bind fun _ s3 h3 => Pl.ok h3
theorem items_pl (hT : Te T) {p : Nat → S → R Tree} (hp : ∀ n s, Jt T s → Pl T (p n s)) : ∀ (n : Nat) (l : List Tree) (s : S), Jt T s → Pl T (items p n l s)
  | 0, l, s, h => by rw [items]; exact Pl.out
  | n + 1, l, s, h => by
    rw [items]
    split
    · rename_i hb
      have hx := at_j hT (by decide) h hb
      exact (hp _ _ hx).bind fun _ s1 h1 => items_pl hT hp n _ s1 h1
    · exact Pl.ok h
theorem list_pl (hT : Te T) {p : Nat → S → R Tree} (hp : ∀ n s, Jt T s → Pl T (p n s)) (x : ByteArray) (h : Jt T s) : Pl T (listS p n x s) := by
  unfold listS
  split
  · exact Pl.ok h
  · exact (hp _ _ h).bind fun _ s1 h1 => items_pl hT hp n _ s1 h1
theorem part_pl (hT : Te T) (h : Jt T s) : Pl T (part ws n s) := by
  rw [part_eq]
  refine (name_pl hT h).bind fun _ s1 h1 => ?_
  refine (open_pl hT _ (by decide) h1).bind fun _ s2 h2 => ?_
  refine (list_pl hT (fun n s h => field_pl hT h) _ h2).bind fun _ s3 h3 => ?_
  exact (take_pl hT _ (by decide) h3).bind fun _ s4 h4 => Pl.ok h4
theorem tail_pl (hT : Te T) (h : Jt T s) : Pl T (tail ws n s) := by
  unfold tail
  refine (cond_pl hT h).bind fun _ s1 h1 => ?_
  exact (take_pl hT _ (by decide) h1).bind fun _ s2 h2 => Pl.ok h2
theorem way_j (hT : Te T) (hj : Jt T s) {p : ByteArray × Nat} (hp : p ∈ ways) (h : p.1 = (hd s).t) : Jt T (nx s) := by
  refine nx_j hT hj (.inr ?_)
  rw [← h]
  rw [ways] at hp
  simp only [List.mem_cons, List.not_mem_nil, or_false] at hp
  rcases hp with rfl | rfl | rfl | rfl | rfl | rfl | rfl | rfl | rfl | rfl | rfl <;> decide
end
theorem stmt_pl (ws : List ByteArray) {T : List Tok} (hT : Te T) : ∀ n : Nat, (∀ s, Jt T s → Pl T (stmt ws n s)) ∧ (∀ s, Jt T s → Pl T (block ws n s)) ∧ (∀ l s, Jt T s → Pl T (stmts ws n l s))
  | 0 => ⟨fun s _ => by rw [stmt]; exact Pl.out, fun s _ => by rw [block]; exact Pl.out, fun l s _ => by rw [stmts]; exact Pl.out⟩
  | n + 1 => by
    obtain ⟨is, ib, il⟩ := stmt_pl ws hT n
    refine ⟨fun s h => ?_, fun s h => ?_, fun l s h => ?_⟩
    · by_cases hst : s.st = 200
      · rcases wayOf_cases (hd s).t with ⟨hw, -⟩ | ⟨p, hp, -, hw⟩
        · cases hn : isName ws s with
          | false => rw [stmt_name_no hw hn]; exact no_pl h
          | true => rw [stmt_name_full hw hn hst]; exact no_pl h
        · rw [stmt_word hw (by
            intro e
            rw [ways] at hp
            simp only [List.mem_cons, List.not_mem_nil, or_false] at hp
            rcases hp with rfl | rfl | rfl | rfl | rfl | rfl | rfl | rfl | rfl | rfl | rfl <;> cases e) hst]
          exact no_pl h
      · rcases wayOf_cases (hd s).t with ⟨hw, -⟩ | ⟨p, hp, hpt, hw⟩
        · cases hn : isName ws s with
          | false => rw [stmt_name_no hw hn]; exact no_pl h
          | true =>
            rw [stmt_set hw hn hst]
            refine Pl.bind (name_pl hT (show Jt T (up s) from h)) fun _ s1 h1 => ?_
            split
            · rename_i hb
              have hx := at_j hT (by decide) h1 hb
              refine (nameNode_pl hT hx).bind fun _ s2 h2 => ?_
              refine (take_pl hT _ (by decide) h2).bind fun _ s3 h3 => ?_
              exact (tail_pl hT h3).bind fun _ s4 h4 => Pl.ok h4
            · refine (take_pl hT _ (by decide) h1).bind fun _ s3 h3 => ?_
              exact (tail_pl hT h3).bind fun _ s4 h4 => Pl.ok h4
        · have e0 : Jt T (nx (up s)) := way_j hT (show Jt T (up s) from h) hp hpt
          rw [ways] at hp
          simp only [List.mem_cons, List.not_mem_nil, or_false] at hp
          rcases hp with rfl | rfl | rfl | rfl | rfl | rfl | rfl | rfl | rfl | rfl | rfl
          · rw [stmt_let hst hw]
            refine (name_pl hT e0).bind fun _ s1 h1 => ?_
            refine (take_pl hT _ (by decide) h1).bind fun _ s2 h2 => ?_
            exact (tail_pl hT h2).bind fun _ s3 h3 => Pl.ok h3
          · rw [stmt_if hst hw]
            refine (cond_pl hT e0).bind fun _ s1 h1 => ?_
            refine (ib s1 h1).bind fun _ s2 h2 => ?_
            split
            · rename_i hb
              have hx := at_j hT (by decide) h2 hb
              refine Pl.bind ?_ fun _ s3 h3 => Pl.ok h3
              split
              · exact is _ hx
              · exact ib _ hx
            · exact Pl.ok h2
          · rw [stmt_while hst hw]
            refine (cond_pl hT e0).bind fun _ s1 h1 => ?_
            exact (ib s1 h1).bind fun _ s2 h2 => Pl.ok h2
          · rw [stmt_repeat hst hw]
            refine (cond_pl hT e0).bind fun _ s1 h1 => ?_
            exact (ib s1 h1).bind fun _ s2 h2 => Pl.ok h2
          · rw [stmt_emit hst hw]
            refine (cond_pl hT e0).bind fun _ s1 h1 => ?_
            refine (take_pl hT _ (by decide) h1).bind fun _ s2 h2 => ?_
            exact (tail_pl hT h2).bind fun _ s3 h3 => Pl.ok h3
          · rw [stmt_spawn hst hw]
            refine (list_pl hT (fun n s h => part_pl hT h) _ e0).bind fun _ s1 h1 => ?_
            exact (take_pl hT _ (by decide) h1).bind fun _ s2 h2 => Pl.ok h2
          · rw [stmt_add hst hw]
            refine (part_pl hT e0).bind fun _ s1 h1 => ?_
            exact (take_pl hT _ (by decide) h1).bind fun _ s2 h2 => Pl.ok h2
          · rw [stmt_remove hst hw]
            refine (name_pl hT e0).bind fun _ s1 h1 => ?_
            exact (take_pl hT _ (by decide) h1).bind fun _ s2 h2 => Pl.ok h2
          · rw [stmt_die hst hw]
            exact (take_pl hT _ (by decide) e0).bind fun _ s2 h2 => Pl.ok h2
          · rw [stmt_stop hst hw]
            exact (take_pl hT _ (by decide) e0).bind fun _ s2 h2 => Pl.ok h2
          · rw [stmt_return hst hw]
            exact (tail_pl hT e0).bind fun _ s3 h3 => Pl.ok h3
    · rw [block]
      refine (open_pl hT _ (by decide) h).bind fun _ s1 h1 => ?_
      exact (il _ s1 h1).bind fun _ s2 h2 => Pl.ok h2
    · rw [stmts]
      split
      · exact Pl.ok (at_j hT (x := cRb) (by decide) h (by assumption))
      · exact (is s h).bind fun _ s1 h1 => il _ s1 h1
theorem names_pl (ws : List ByteArray) {T : List Tok} (hT : Te T) : ∀ (n most sum : Nat) (l : List Tree) (s : S), Jt T s → Pl T (names ws n most sum l s)
  | 0, most, sum, l, s, h => by rw [names]; exact Pl.out
  | n + 1, most, sum, l, s, h => by
    rw [names]
    unfold needName fail
    split
    · show Pl T (if sum = most then _ else _)
      split
      · exact no_pl h
      · refine (nameNode_pl hT h).bind fun _ s1 h1 => ?_
        split
        · rename_i hb
          have hx := at_j hT (by decide) h1 hb
          exact names_pl ws hT n most _ _ _ hx
        · exact Pl.ok h1
    · exact no_pl h
section
variable {ws : List ByteArray} {s : S} {n : Nat} {T : List Tok}
theorem clause_pl (hT : Te T) {x : ByteArray} (hx : x ≠ bs []) (h : Jt T s) : Pl T (clauseS ws n x s) := by
  unfold clauseS
  split
  · rename_i hb
    have h0 := at_j hT hx h hb
    exact (names_pl ws hT n _ _ _ _ h0).bind fun _ s1 h1 => Pl.ok h1
  · exact Pl.ok h
theorem clauses_pl (hT : Te T) : ∀ (l : List ByteArray) (r : List Tree) (s : S), (∀ x ∈ l, x ≠ bs []) → Jt T s → Pl T (clausesS ws n l r s)
  | [], r, s, _, h => Pl.ok h
  | x :: l, r, s, hx, h => by
    rw [clausesS]
    refine (clause_pl hT (hx x List.mem_cons_self) h).bind fun _ s1 h1 => ?_
    exact clauses_pl hT l _ s1 (fun y hy => hx y (List.mem_cons_of_mem _ hy)) h1
theorem param_pl (hT : Te T) (h : Jt T s) : Pl T (paramS ws n s) := by
  unfold paramS
  refine (take_pl hT _ (by decide) h).bind fun _ s1 h1 => ?_
  split
  · exact (take_pl hT _ (by decide) h1).bind fun _ s2 h2 => Pl.ok h2
  · refine (names_pl ws hT n _ _ _ _ h1).bind fun _ s2 h2 => ?_
    exact (take_pl hT _ (by decide) h2).bind fun _ s3 h3 => Pl.ok h3
theorem func_pl (hT : Te T) (h : Jt T s) : Pl T (funcS ws n s) := by
  unfold funcS fail
  split
  · split
    · exact no_pl h
    · refine Pl.bind (take_pl hT _ (by decide) (show Jt T (upF s) from h)) fun _ s1 h1 => ?_
      refine (name_pl hT h1).bind fun _ s2 h2 => ?_
      refine (param_pl hT h2).bind fun _ s3 h3 => ?_
      exact ((stmt_pl ws hT n).2.1 s3 h3).bind fun _ s4 h4 => Pl.ok h4
  · exact no_pl h
theorem system_pl (hT : Te T) (h : Jt T s) : Pl T (systemS ws n s) := by
  unfold systemS fail
  split
  · exact no_pl h
  · refine Pl.bind (take_pl hT _ (by decide) (show Jt T (upY s) from h)) fun _ s1 h1 => ?_
    refine (name_pl hT h1).bind fun _ s2 h2 => ?_
    refine (clauses_pl hT clauseWords [] s2 (by decide) h2).bind fun _ s3 h3 => ?_
    exact ((stmt_pl ws hT n).2.1 s3 h3).bind fun _ s4 h4 => Pl.ok h4
theorem member_pl (hT : Te T) (h : Jt T s) : Pl T (memberS ws n s) := by
  unfold memberS
  split
  · exact system_pl hT h
  · exact func_pl hT h
end
theorem prog_pl (ws : List ByteArray) {T : List Tok} (hT : Te T) : ∀ (n : Nat) (l : List Tree) (s : S), Jt T s → Pl T (progS ws n l s)
  | 0, l, s, h => by rw [progS]; exact Pl.out
  | n + 1, l, s, h => by
    rw [progS]
    split
    · exact Pl.ok h
    · exact (member_pl hT h).bind fun _ s1 h1 => prog_pl ws hT n _ s1 h1
end Go.Proofs.YtmfoehaeejhlpaaGreatDoor.Yn

/-
  A text that is cut off ahead of a token: the tokens ahead of it, and the end.
-/
namespace Go.Proofs.YtmfoehaeejhlpaaGreatDoor.Le
set_option maxRecDepth 100000
/-- Bytes up to c alone. -/
def cf (f : Nat → Nat) (c i : Nat) : Nat := if i < c then f i else 0
section
variable {f : Nat → Nat} {n a b c k e : Nat}
theorem cf_lt {i : Nat} (h : i < c) : cf f c i = f i := if_pos h
theorem cf_ge {i : Nat} (h : c ≤ i) : cf f c i = 0 := if_neg (by omega)
theorem cf_z : Fz (cf f c) c := fun _ h => cf_ge h
theorem cf_or (i : Nat) : cf f c i = f i ∨ cf f c i = 0 := by
  by_cases h : i < c
  · exact .inl (cf_lt h)
  · exact .inr (cf_ge (by omega))
theorem numV_congr {g : Nat → Nat} : ∀ (k i acc : Nat), (∀ j, i ≤ j → j < i + k → g j = f j) → numV g acc k i = numV f acc k i
  | 0, i, acc, _ => by rw [numV_zero, numV_zero]
  | k + 1, i, acc, h => by
    rw [numV_succ, numV_succ, h i (by omega) (by omega)]
    exact numV_congr k (i + 1) _ (fun j h1 h2 => h j (by omega) (by omega))
theorem step_cut_go (hcn : c < n) (hnl : f c ≠ 10) (hac : a < c) (hbc : b ≤ c) (h : stepL f n a = .go b) : stepL (cf f c) c a = .go b := by
  have ga : cf f c a = f a := cf_lt hac
  unfold stepL at h ⊢
  rw [if_neg (by omega)] at h ⊢
  rw [ga]
  split at h
  · rename_i h1
    rw [if_pos h1]
    exact h
  · rename_i h1
    rw [if_neg h1]
    split at h
    · rename_i h2
      injection h with h
      have e1 := runE_ge (fun j => f j != 10) (n - a) a
      have e2 := runE_end (fun j => f j != 10) (n - a) a
      have e3 := runE_all (fun j => f j != 10) (n - a) a
      rw [h] at e1 e2 e3
      have e4 : f b = 10 := by
        rcases e2 with e2 | e2
        · simpa using e2
        · omega
      have hb2 : a + 2 ≤ b := by
        have n1 : b ≠ a := fun e => by rw [e, h2.1] at e4; omega
        have n2 : b ≠ a + 1 := fun e => by rw [e, h2.2] at e4; omega
        omega
      have hbne : b ≠ c := fun e => hnl (e ▸ e4)
      have ga1 : cf f c (a + 1) = f (a + 1) := cf_lt (by omega)
      rw [ga1, if_pos h2]
      congr 1
      refine runE_is _ _ _ _ (by omega) (fun j j1 j2 => ?_) (.inl ⟨?_, by omega⟩)
      · show (cf f c j != 10) = true
        rw [cf_lt (by omega)]
        exact e3 j j1 j2
      · show (cf f c b != 10) = false
        rw [cf_lt (by omega), e4]
        rfl
    · rename_i h2
      split at h
      · rename_i h3
        cases hr : remE f (n - (a + 2)) (a + 2) with
        | none =>
          rw [hr] at h
          cases h
        | some e =>
          rw [hr] at h
          injection h with h
          subst h
          obtain ⟨r1, r2, r3, r4, r5⟩ := remE_some _ _ _ hr
          have ga1 : cf f c (a + 1) = f (a + 1) := cf_lt (by omega)
          rw [ga1, if_neg h2, if_pos h3]
          have hq : remE (cf f c) (c - (a + 2)) (a + 2) = some e := remE_is _ _ _ (by omega) (by omega) (by rw [cf_lt (by omega)]; exact r3) (by rw [cf_lt (by omega)]; exact r4) (fun j j1 j2 => by
            rw [cf_lt (by omega), cf_lt (by omega)]
            exact r5 j j1 j2)
          rw [hq]
      · exact absurd h tokAt_go
theorem run_cut {p : Nat → Bool} (hcn : c < n) (hac : a < c) (hec : e ≤ c) (h : runE (fun j => p (f j)) (n - a) a = e) : runE (fun j => p (cf f c j)) (c - a) a = e := by
  have e1 := runE_ge (fun j => p (f j)) (n - a) a
  have e2 := runE_end (fun j => p (f j)) (n - a) a
  have e3 := runE_all (fun j => p (f j)) (n - a) a
  rw [h] at e1 e2 e3
  refine runE_is _ _ _ _ e1 (fun j j1 j2 => ?_) ?_
  · show p (cf f c j) = true
    rw [cf_lt (by omega)]
    exact e3 j j1 j2
  · by_cases hc : e = c
    · exact .inr (by omega)
    · refine .inl ⟨?_, by omega⟩
      show p (cf f c e) = false
      rw [cf_lt (by omega)]
      rcases e2 with e2 | e2
      · exact e2
      · omega
theorem tok_cut (hz : Fz f n) (hcn : c < n) (hac : a < c) (hec : e ≤ c) (h : tokAt f n a = .tok k b e) : tokAt (cf f c) c a = .tok k b e := by
  have ga : cf f c a = f a := cf_lt hac
  have hae := (tokAt_tok hz (by omega) h).2.1
  unfold tokAt at h ⊢
  rw [ga]
  split at h
  · rename_i h1
    rw [if_pos h1]
    split at h
    · cases h
    · rename_i h2
      injection h with q1 q2 q3
      have hr := run_cut (p := isWo) hcn hac hec q3
      rw [q3] at h2
      rw [hr, if_neg h2, ← q1, ← q2]
  · rename_i h1
    rw [if_neg h1]
    split at h
    · rename_i h2
      rw [if_pos h2]
      split at h
      · rename_i h3
        split at h
        · cases h
        · rename_i h4
          injection h with q1 q2 q3
          have hr := run_cut (p := isDi) hcn hac hec q3
          rw [q3] at h3 h4
          have e1 : numOk (cf f c) a e = numOk f a e := by
            unfold numOk
            rw [ga, numV_congr (f := f) (g := cf f c) (e - a) a 0 (fun j j1 j2 => cf_lt (by omega))]
          have e2 : ¬ isWo (cf f c e) = true := by
            rcases cf_or (f := f) (c := c) e with g | g
            · rw [g]; exact h4
            · rw [g]; decide
          rw [hr, e1, if_pos h3, if_neg e2, ← q1, ← q2]
      · cases h
    · rename_i h2
      rw [if_neg h2]
      split at h
      · cases h
      · rename_i h3
        injection h with q1 q2 q3
        have e1 : sgn (f a) (cf f c (a + 1)) = sgn (f a) (f (a + 1)) := by
          by_cases hl : a + 1 < c
          · rw [cf_lt hl]
          · rw [cf_ge (by omega)]
            have s1 : sgn (f a) (f (a + 1)) = 1 := by omega
            rw [s1]
            unfold sgn at s1 ⊢
            split at s1
            · omega
            · rename_i s2
              have s3 : ¬ two (f a) 0 = true := fun s4 => two_pos s4 rfl
              rw [if_neg s3]
              exact s1
        rw [e1, if_neg h3, ← q1, ← q2, ← q3]
theorem step_cut_tok (hz : Fz f n) (hcn : c < n) (hac : a < c) (hec : e ≤ c) (h : stepL f n a = .tok k b e) : stepL (cf f c) c a = .tok k b e := by
  have ga : cf f c a = f a := cf_lt hac
  unfold stepL at h ⊢
  rw [if_neg (by omega)] at h ⊢
  rw [ga]
  split at h
  · cases h
  · rename_i h1
    rw [if_neg h1]
    split at h
    · cases h
    · rename_i h2
      split at h
      · split at h <;> cases h
      · rename_i h3
        have n2 : ¬ (f a = 47 ∧ cf f c (a + 1) = 47) := fun ⟨x, y⟩ => by
          rcases cf_or (f := f) (c := c) (a + 1) with g | g
          · exact h2 ⟨x, g ▸ y⟩
          · omega
        have n3 : ¬ (f a = 47 ∧ cf f c (a + 1) = 42) := fun ⟨x, y⟩ => by
          rcases cf_or (f := f) (c := c) (a + 1) with g | g
          · exact h3 ⟨x, g ▸ y⟩
          · omega
        rw [if_neg n2, if_neg n3]
        exact tok_cut hz hcn hac hec h
end
section
variable {f : Nat → Nat} {n : Nat}
theorem lex_ge (hz : Fz f n) : ∀ (j a : Nat) (l : List Tk), a ≤ n → lexF f n j a = .ok l → ∀ t ∈ l, a ≤ t.a
  | 0, a, l, _, h, t, ht => by
    rw [lexF] at h
    injection h with h
    rw [← h] at ht
    cases ht
  | j + 1, a, l, ha, h, t, ht => by
    rw [lexF] at h
    cases hst : stepL f n a with
    | fin =>
      rw [hst] at h
      injection h with h
      rw [← h, List.mem_singleton] at ht
      rw [ht]
      exact ha
    | go b =>
      rw [hst] at h
      have hb := stepL_go hz hst
      have := lex_ge hz j b l hb.2.1 h t ht
      omega
    | bad b =>
      rw [hst] at h
      cases h
    | tok k b e =>
      rw [hst] at h
      have h : Rs.cons ⟨k, b, e⟩ (lexF f n j e) = .ok l := h
      obtain ⟨rfl, hb1, hb2, -, -⟩ := stepL_tok hz hst
      cases hr : lexF f n j e with
      | no x =>
        rw [hr] at h
        cases h
      | ok l2 =>
        rw [hr] at h
        injection h with h
        rw [← h] at ht
        rcases List.mem_cons.1 ht with rfl | ht
        · exact Nat.le_refl _
        · have := lex_ge hz j e l2 hb2 hr t ht
          omega
theorem lex_toks (hz : Fz f n) : ∀ (j a : Nat) (l : List Tk), a ≤ n → lexF f n j a = .ok l → ∀ t ∈ l, t = ⟨0, n, n⟩ ∨ stepL f n t.a = .tok t.k t.a t.e
  | 0, a, l, _, h, t, ht => by
    rw [lexF] at h
    injection h with h
    rw [← h] at ht
    cases ht
  | j + 1, a, l, ha, h, t, ht => by
    rw [lexF] at h
    cases hst : stepL f n a with
    | fin =>
      rw [hst] at h
      injection h with h
      rw [← h, List.mem_singleton] at ht
      exact .inl ht
    | go b =>
      rw [hst] at h
      exact lex_toks hz j b l (stepL_go hz hst).2.1 h t ht
    | bad b =>
      rw [hst] at h
      cases h
    | tok k b e =>
      rw [hst] at h
      have h : Rs.cons ⟨k, b, e⟩ (lexF f n j e) = .ok l := h
      obtain ⟨rfl, hb1, hb2, -, -⟩ := stepL_tok hz hst
      cases hr : lexF f n j e with
      | no x =>
        rw [hr] at h
        cases h
      | ok l2 =>
        rw [hr] at h
        injection h with h
        rw [← h] at ht
        rcases List.mem_cons.1 ht with rfl | ht
        · exact .inr hst
        · exact lex_toks hz j e l2 hb2 hr t ht
theorem lex_cut {c : Nat} (hz : Fz f n) (hcn : c < n) : ∀ (j a : Nat) (l : List Tk), n + 1 ≤ j + a → a ≤ c → lexF f n j a = .ok l → (∃ t ∈ l, t.a = c) → ∃ l1 l2, l = l1 ++ l2 ∧ (∀ t ∈ l1, t.a < c ∧ t.a ≤ t.e ∧ t.e ≤ c) ∧ lexA (cf f c) c a = .ok (l1 ++ [⟨0, c, c⟩])
  | 0, a, l, h1, h2, _, _ => by omega
  | j + 1, a, l, h1, h2, h, ⟨t, ht, htc⟩ => by
    have hall := h
    have hgt := (lex_toks hz (j + 1) a l (by omega) h t ht)
    rw [lexF] at h
    cases hst : stepL f n a with
    | fin =>
      have := stepL_fin hst
      omega
    | bad b =>
      rw [hst] at h
      cases h
    | go b =>
      rw [hst] at h
      have hb := stepL_go hz hst
      have hge := lex_ge hz j b l hb.2.1 h t ht
      have hnl : f c ≠ 10 := by
        rcases hgt with rfl | hgt
        · exact absurd htc (by show n ≠ c; omega)
        · rw [htc] at hgt
          intro e
          unfold stepL at hgt
          rw [if_neg (by omega), e] at hgt
          cases hgt
      have hsg := step_cut_go (f := f) (n := n) hcn hnl (by omega) (by omega) hst
      obtain ⟨l1, l2, g1, g2, g3⟩ := lex_cut hz hcn j b l (by omega) (by omega) h ⟨t, ht, htc⟩
      refine ⟨l1, l2, g1, g2, ?_⟩
      rw [lexA_go cf_z hsg]
      exact g3
    | tok k b e =>
      rw [hst] at h
      have h : Rs.cons ⟨k, b, e⟩ (lexF f n j e) = .ok l := h
      obtain ⟨rfl, hb1, hb2, -, -⟩ := stepL_tok hz hst
      by_cases hbc : b = c
      · subst hbc
        exact ⟨[], l, rfl, (fun t ht => by cases ht), lexA_fin cf_z⟩
      · cases hr : lexF f n j e with
        | no x =>
          rw [hr] at h
          cases h
        | ok l2 =>
          rw [hr] at h
          injection h with h
          rw [← h] at ht
          rcases List.mem_cons.1 ht with rfl | ht
          · exact absurd htc hbc
          · have hge := lex_ge hz j e l2 hb2 hr t ht
            obtain ⟨m1, m2, g1, g2, g3⟩ := lex_cut hz hcn j e l2 (by omega) (by omega) hr ⟨t, ht, htc⟩
            refine ⟨⟨k, b, e⟩ :: m1, m2, ?_, ?_, ?_⟩
            · rw [← h, g1]
              rfl
            · intro x hx
              rcases List.mem_cons.1 hx with rfl | hx
              · exact ⟨by show b < c; omega, by show b ≤ e; omega, by show e ≤ c; omega⟩
              · exact g2 x hx
            · rw [lexA_tok cf_z (by omega) (step_cut_tok hz hcn (by omega) (by omega) hst), g3]
              rfl
end
end Go.Proofs.YtmfoehaeejhlpaaGreatDoor.Le

/-
  A source that is cut off ahead of the token at fault.
-/
namespace Go.Proofs.YtmfoehaeejhlpaaGreatDoor
open Go.RowKit Yn
set_option maxRecDepth 100000
theorem bt_cut (s : ByteArray) (c : Nat) (hc : c ≤ s.size) : Le.bt (s.extract 0 c) = Le.cf (Le.bt s) c := by
  funext i
  rw [Le.bt_ext s 0 c i hc, Nat.zero_add]
  rfl
theorem ext_ext (s : ByteArray) (a e c : Nat) (he : e ≤ c) (_hc : c ≤ s.size) : (s.extract 0 c).extract a e = s.extract a e := by
  apply ByteArray.ext
  apply Array.toList_inj.1
  rw [Le.ext_data, Le.ext_data, Le.ext_data, List.drop_zero, Nat.sub_zero, List.drop_take, List.take_take]
  congr 1
  omega
/-- What is read of a source that is cut off where it is at fault: a program, or at fault at its end. -/
theorem cut_plain {src : ByteArray} {A er : Nat} (hA : A < src.size) (hs : src.size ≤ 8000) (her : er ≠ 90) (h : parseT src = .no A er) : (∃ T s, parseT (src.extract 0 A) = .ok T s) ∨ ∃ e, parseT (src.extract 0 A) = .no A e := by
  have hz := Le.bt_z src
  unfold parseT parseS at h
  cases hl : lxS src with
  | error p =>
    exfalso
    rw [hl] at h
    injection h with h1 h2
    unfold lxS at hl
    rw [if_pos hs] at hl
    split at hl
    · cases hl
    · injection hl with hl
      rw [← hl] at h2
      exact her h2.symm
  | ok ts =>
    rw [hl] at h
    have h : progS wsB 100000 [] ⟨ts, 0, 0, 0, 0⟩ = .no A er := h
    unfold lxS at hl
    rw [if_pos hs] at hl
    split at hl
    · rename_i l hlex
      injection hl with hl
      have hlex : Le.lexF (Le.bt src) src.size (src.size + 1) 0 = .ok l := hlex
      have hgd := lex_gd hs (src.size + 1) 0 l (by omega) (by omega) hlex
      rw [hl] at hgd
      have hT : Te ts := by
        obtain ⟨p, e, g1, g2, g3, -⟩ := hgd
        exact ⟨p, e, g1, g2, g3⟩
      have hj : Jt ts ⟨ts, 0, 0, 0, 0⟩ := ⟨List.suffix_refl _, by
        obtain ⟨p, e, g1, -⟩ := hT
        rw [g1]
        simp⟩
      obtain ⟨⟨t, ht, hta⟩, -⟩ := (prog_pl wsB hT 100000 [] ⟨ts, 0, 0, 0, 0⟩ hj).1 A er h
      rw [← hl] at ht
      obtain ⟨t0, ht0, rfl⟩ := List.mem_map.1 ht
      obtain ⟨l1, l2, g1, g2, g3⟩ := Le.lex_cut hz hA (src.size + 1) 0 l (by omega) (by omega) hlex ⟨t0, ht0, hta⟩
      have hsz : (src.extract 0 A).size = A := by simp; omega
      have hlx : lxS (src.extract 0 A) = .ok (l1.map (tokOf src) ++ [endT A]) := by
        unfold lxS
        rw [if_pos (by omega)]
        have e1 : Le.lexS (src.extract 0 A) = .ok (l1 ++ [⟨0, A, A⟩]) := by
          show Le.lexA (Le.bt (src.extract 0 A)) (src.extract 0 A).size 0 = _
          rw [hsz, bt_cut src A (by omega)]
          exact g3
        rw [e1]
        show Except.ok _ = Except.ok _
        rw [List.map_append]
        congr 2
        · apply List.map_congr_left
          intro x hx
          have := g2 x hx
          unfold tokOf
          rw [ext_ext src x.a x.e A this.2.2 (by omega)]
        · show [tokOf (src.extract 0 A) ⟨0, A, A⟩] = _
          unfold tokOf endT
          have : (src.extract 0 A).extract A A = bs [] := by
            apply ByteArray.ext
            apply Array.toList_inj.1
            rw [Le.ext_data, Nat.sub_self, List.take_zero]
            rfl
          rw [this]
      have hcu : Yn.Cu A ⟨ts, 0, 0, 0, 0⟩ ⟨l1.map (tokOf src) ++ [endT A], 0, 0, 0, 0⟩ := ⟨⟨rfl, rfl, rfl, rfl⟩, l1.map (tokOf src), l2.map (tokOf src), by rw [← hl, g1, List.map_append], rfl, fun x hx => by
        obtain ⟨y, hy, rfl⟩ := List.mem_map.1 hx
        have := (g2 y hy).1
        show y.a ≠ A
        omega⟩
      have hgood := prog_cut hcu h
      have hout := parseT_out (src.extract 0 A)
      have hp : parseT (src.extract 0 A) = progS wsB 100000 [] ⟨l1.map (tokOf src) ++ [endT A], 0, 0, 0, 0⟩ := by
        unfold parseT parseS
        rw [hlx]
      rw [hp] at hout ⊢
      cases hr : progS wsB 100000 [] ⟨l1.map (tokOf src) ++ [endT A], 0, 0, 0, 0⟩ with
      | out => exact absurd hr hout
      | ok T s => exact .inl ⟨T, s, rfl⟩
      | no a e =>
        rw [hr] at hgood
        have hgood : a = A := hgood
        exact .inr ⟨e, by rw [hgood]⟩
    · cases hl
/-- A fault has a reason. -/
theorem no_ne {src : ByteArray} {A er : Nat} (h : parseT src = .no A er) : er ≠ 0 := by
  unfold parseT parseS at h
  cases hl : lxS src with
  | error p =>
    rw [hl] at h
    injection h with h1 h2
    unfold lxS at hl
    split at hl
    · split at hl
      · cases hl
      · injection hl with hl
        rw [← hl] at h2
        rw [← h2]
        show (90 : Nat) ≠ 0
        decide
    · injection hl with hl
      rw [← hl] at h2
      rw [← h2]
      decide
  | ok ts =>
    rw [hl] at h
    have h : progS wsB 100000 [] ⟨ts, 0, 0, 0, 0⟩ = .no A er := h
    unfold lxS at hl
    split at hl
    · rename_i hs
      split at hl
      · rename_i l hlex
        injection hl with hl
        have hlex : Le.lexF (Le.bt src) src.size (src.size + 1) 0 = .ok l := hlex
        have hgd := lex_gd hs (src.size + 1) 0 l (by omega) (by omega) hlex
        rw [hl] at hgd
        have hT : Te ts := by
          obtain ⟨p, e, g1, g2, g3, -⟩ := hgd
          exact ⟨p, e, g1, g2, g3⟩
        have hj : Jt ts ⟨ts, 0, 0, 0, 0⟩ := ⟨List.suffix_refl _, by
          obtain ⟨p, e, g1, -⟩ := hT
          rw [g1]
          simp⟩
        exact ((prog_pl wsB hT 100000 [] ⟨ts, 0, 0, 0, 0⟩ hj).1 A er h).2
      · cases hl
    · cases hl
end Go.Proofs.YtmfoehaeejhlpaaGreatDoor
