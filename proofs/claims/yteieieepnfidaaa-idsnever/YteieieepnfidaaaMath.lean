/-
  What IdsNever reckons with.
-/
import Derived.Test.YteieieepnfidaaaFence
namespace Go.Proofs.Yteieieepnfidaaa
/-- All that live, by their numbers. -/
def Lx (gs fr : List Nat) : List (Nat × Nat) := (lvOf gs fr).filter nz
theorem mem_lx {n : Nat} {gs fr : List Nat} (h : Ok n gs fr) (p : Nat × Nat) : p ∈ Lx gs fr ↔ p.1 < gs.length ∧ on gs fr p.1 = true ∧ p.2 = gs.getD p.1 0 := by
  simp only [Lx, List.mem_filter, lvOf, List.mem_map, List.mem_range]
  constructor
  · rintro ⟨⟨i, hi, rfl⟩, hz⟩
    cases hon : on gs fr i with
    | true => simp [hi, hon]
    | false => simp [hon, nz] at hz
  · rintro ⟨h1, h2, h3⟩
    refine ⟨⟨p.1, h1, ?_⟩, ?_⟩
    · rw [h2, if_pos rfl, ← h3]
    · have := h.gen p.1 h1
      simp only [nz, Bool.not_eq_true', Bool.and_eq_false_iff, beq_eq_false_iff_ne]
      right
      omega
theorem lx_pair (gs fr : List Nat) : (Lx gs fr).Pairwise (fun a b => a.1 < b.1) := by
  unfold Lx lvOf
  rw [List.filter_map, List.pairwise_map]
  refine List.Pairwise.imp_of_mem ?_ ((List.pairwise_lt_range (n := gs.length)).filter _)
  intro a b ha hb hab
  have key : ∀ i, i ∈ List.filter (nz ∘ fun i => if on gs fr i = true then (i, gs.getD i 0) else (0, 0)) (List.range gs.length) → (if on gs fr i = true then (i, gs.getD i 0) else ((0, 0) : Nat × Nat)).1 = i := fun i hi => by
    have := (List.mem_filter.1 hi).2
    cases hon : on gs fr i with
    | true => simp
    | false => simp [hon, nz] at this
  rw [key a ha, key b hb]
  exact hab
theorem lx_nodup (gs fr : List Nat) : (Lx gs fr).Nodup := (lx_pair gs fr).imp (fun h e => by subst e; omega)
theorem lx_le (gs fr : List Nat) : (Lx gs fr).length ≤ gs.length := by
  have := List.length_filter_le nz (lvOf gs fr)
  rw [lvOf_len] at this
  exact this
/-- Behind t rounds: who was given out and not back, and all that were given out. -/
def Nv (t : Nat) (gs fr : List Nat) (alive all : List (Nat × Nat)) : Prop :=
  (∀ x ∈ gs, x ≤ t) ∧ alive.Nodup ∧ (∀ p, p ∈ alive ↔ p ∈ Lx gs fr) ∧ (∀ p ∈ all, p.1 < gs.length ∧ p.2 ≤ gs.getD p.1 0) ∧ all.length ≤ t
section
variable {n t : Nat} {gs fr : List Nat} {alive all : List (Nat × Nat)}
theorem Nv.len (h : Nv t gs fr alive all) : alive.length = (Lx gs fr).length := ((List.perm_ext_iff_of_nodup h.2.1 (lx_nodup gs fr)).2 h.2.2.1).length_eq
theorem Nv.more (h : Nv t gs fr alive all) : Nv (t + 1) gs fr alive all := ⟨fun x hx => Nat.le_succ_of_le (h.1 x hx), h.2.1, h.2.2.1, h.2.2.2.1, by have := h.2.2.2.2; omega⟩
theorem getD_le (h : ∀ x ∈ gs, x ≤ t) (i : Nat) : gs.getD i 0 ≤ t := by
  by_cases hi : i < gs.length
  · have := h gs[i] (List.getElem_mem hi)
    simpa [hi] using this
  · simp [hi]
theorem Nv.full (h : Nv t gs [] alive all) (ho : Ok n gs []) (ht : t ≤ 1000000) : alive.length = gs.length := by
  rw [h.len]
  have : Lx gs [] = lvOf gs [] := by
    unfold Lx
    rw [List.filter_eq_self]
    intro p hp
    simp only [lvOf, List.mem_map, List.mem_range] at hp
    obtain ⟨i, hi, rfl⟩ := hp
    have h1 := getD_le h.1 i
    have h2 := ho.gen i hi
    have e : on gs [] i = true := by simp [on]; simp [hi] at h1; simp [hi]; omega
    rw [e, if_pos rfl]
    simp only [nz, Bool.not_eq_true', Bool.and_eq_false_iff, beq_eq_false_iff_ne]
    right
    omega
  rw [this, lvOf_len]
theorem Nv.room_free {i : Nat} (h : Nv t gs (i :: fr) alive all) (ho : Ok n gs (i :: fr)) : alive.length < n := by
  have hi := ho.2.2.2.2.2 i (by simp)
  have : (Lx gs (i :: fr)).length < (lvOf gs (i :: fr)).length := by
    unfold Lx
    rw [List.length_filter_lt_length_iff_exists]
    refine ⟨(0, 0), ?_, by simp [nz]⟩
    simp only [lvOf, List.mem_map, List.mem_range]
    exact ⟨i, hi.1, by simp [on]⟩
  rw [lvOf_len] at this
  have := h.len
  have := ho.2.2.1
  omega
theorem Nv.room_new (h : Nv t gs fr alive all) (hn : gs.length < n) : alive.length < n := by
  have := h.len
  have := lx_le gs fr
  omega
theorem Nv.take_free {i : Nat} (h : Nv t gs (i :: fr) alive all) (ho : Ok n gs (i :: fr)) (_ht : t ≤ 500) : Nv (t + 1) (gs.set i (gs.getD i 0 + 1)) fr (alive ++ [(i, gs.getD i 0 + 1)]) (all ++ [(i, gs.getD i 0 + 1)]) ∧ (i, gs.getD i 0 + 1) ∉ all := by
  obtain ⟨h1, h2, h3, h4, h5⟩ := h
  have hi := ho.2.2.2.2.2 i (by simp)
  have hnf : i ∉ fr := (List.nodup_cons.1 ho.2.2.2.2.1).1
  have hnal : (i, gs.getD i 0 + 1) ∉ alive := fun hc => by
    have := ((mem_lx ho _).1 ((h3 _).1 hc)).2.1
    simp [on] at this
  have hx := getD_le h1 i
  refine ⟨⟨fun x hx' => ?_, ?_, fun p => ?_, fun p hp => ?_, by simp; omega⟩, fun hc => ?_⟩
  · rcases List.mem_or_eq_of_mem_set hx' with h | h
    · have := h1 x h
      omega
    · omega
  · rw [List.nodup_append]
    refine ⟨h2, by simp, fun a ha b hb => ?_⟩
    simp only [List.mem_singleton] at hb
    subst hb
    exact fun e => hnal (e ▸ ha)
  · rw [List.mem_append, h3 p, mem_lx ho, mem_lx (ok_take ho), List.mem_singleton, List.length_set, getD_set hi.1]
    by_cases hip : i = p.1
    · rw [if_pos hip]
      constructor
      · rintro (⟨-, q2, -⟩ | rfl)
        · simp [on, hip] at q2
        · refine ⟨hi.1, ?_, rfl⟩
          simp only [on, getD_set hi.1, if_true, Bool.and_eq_true, decide_eq_true_eq, Bool.not_eq_true', List.contains_eq_mem, decide_eq_false_iff_not]
          exact ⟨by omega, hnf⟩
      · rintro ⟨-, -, q3⟩
        right
        exact Prod.ext hip.symm q3
    · have e : on (gs.set i (gs.getD i 0 + 1)) fr p.1 = on gs (i :: fr) p.1 := by
        simp only [on, getD_set hi.1, if_neg hip, contains_cons_ne hip]
      rw [if_neg hip, e]
      constructor
      · rintro (h | rfl)
        · exact h
        · exact absurd rfl hip
      · exact .inl
  · rcases List.mem_append.1 hp with h | h
    · have := h4 p h
      rw [List.length_set, getD_set hi.1]
      refine ⟨this.1, ?_⟩
      split
      · rename_i e
        rw [← e] at this
        omega
      · exact this.2
    · simp only [List.mem_singleton] at h
      subst h
      simp only [List.length_set, getD_set hi.1, if_true]
      exact ⟨hi.1, Nat.le_refl _⟩
  · have := (h4 _ hc).2
    simp only at this
    omega
theorem Nv.take_new (h : Nv t gs [] alive all) (ho : Ok n gs []) (hn : gs.length < n) (_ht : t ≤ 500) : Nv (t + 1) (gs ++ [1]) [] (alive ++ [(gs.length, 1)]) (all ++ [(gs.length, 1)]) ∧ (gs.length, 1) ∉ all := by
  obtain ⟨h1, h2, h3, h4, h5⟩ := h
  have gd : ∀ j, (gs ++ [1]).getD j 0 = if j < gs.length then gs.getD j 0 else if j = gs.length then 1 else 0 := fun j => by
    simp only [List.getD_eq_getElem?_getD, List.getElem?_append]
    by_cases hj : j < gs.length
    · simp [hj]
    · by_cases hj2 : j = gs.length
      · subst hj2
        simp
      · have e : (([1] : List Nat)[j - gs.length]?) = none := by
          rw [List.getElem?_eq_none]
          simp
          omega
        rw [if_neg hj, if_neg hj, if_neg hj2, e]
        rfl
  have hnal : (gs.length, 1) ∉ alive := fun hc => by
    have := ((mem_lx ho _).1 ((h3 _).1 hc)).1
    simp at this
  refine ⟨⟨fun x hx' => ?_, ?_, fun p => ?_, fun p hp => ?_, by simp; omega⟩, fun hc => ?_⟩
  · rcases List.mem_append.1 hx' with h | h
    · have := h1 x h
      omega
    · simp at h
      omega
  · rw [List.nodup_append]
    refine ⟨h2, by simp, fun a ha b hb => ?_⟩
    simp only [List.mem_singleton] at hb
    subst hb
    exact fun e => hnal (e ▸ ha)
  · rw [List.mem_append, h3 p, mem_lx ho, mem_lx (ok_new ho hn), List.mem_singleton, List.length_append, List.length_singleton, gd]
    have e : p.1 < gs.length → on (gs ++ [1]) [] p.1 = on gs [] p.1 := fun hp => by simp only [on, gd, if_pos hp]
    constructor
    · rintro (⟨q1, q2, q3⟩ | rfl)
      · rw [if_pos q1, e q1]
        exact ⟨by omega, q2, q3⟩
      · refine ⟨by simp, ?_, by simp⟩
        simp [on]
    · rintro ⟨q1, q2, q3⟩
      by_cases hlt : p.1 < gs.length
      · rw [if_pos hlt] at q3
        rw [e hlt] at q2
        exact .inl ⟨hlt, q2, q3⟩
      · have hpe : p.1 = gs.length := by omega
        rw [if_neg hlt, if_pos hpe] at q3
        exact .inr (Prod.ext hpe q3)
  · rw [gd, List.length_append, List.length_singleton]
    rcases List.mem_append.1 hp with h | h
    · have := h4 p h
      rw [if_pos this.1]
      exact ⟨by omega, this.2⟩
    · simp only [List.mem_singleton] at h
      subst h
      simp
  · have := (h4 _ hc).1
    simp at this
/-- Who lives, of those that were given out and not back. -/
theorem Nv.lives (h : Nv t gs fr alive all) (ho : Ok n gs fr) {p : Nat × Nat} (hp : p ∈ alive) : p.1 < gs.length ∧ gs.getD p.1 0 = p.2 ∧ gs.getD p.1 0 ≤ t ∧ p.1 ∉ fr ∧ gs.getD p.1 0 ≤ 1000000 := by
  have := (mem_lx ho p).1 ((h.2.2.1 p).1 hp)
  obtain ⟨q1, q2, q3⟩ := this
  simp only [on, Bool.and_eq_true, decide_eq_true_eq, Bool.not_eq_true', List.contains_eq_mem, decide_eq_false_iff_not] at q2
  exact ⟨q1, q3.symm, getD_le h.1 _, q2.2, q2.1⟩
theorem Nv.give (h : Nv t gs fr alive all) (ho : Ok n gs fr) (ht : t ≤ 500) (k : Nat) (hk : k < alive.length) : Nv (t + 1) gs (fr ++ [alive[k].1]) (alive.take k ++ alive.drop (k + 1)) all ∧ livesOf gs (fr ++ [alive[k].1]) (alive[k].1 : Int) (alive[k].2 : Int) = false := by
  have hl := h.lives ho (List.getElem_mem hk)
  have hok : Ok n gs (fr ++ [alive[k].1]) := by
    have := ok_give ho hl.1 hl.2.2.2.2 hl.2.2.2.1
    rw [if_neg (by omega), if_neg (by omega)] at this
    exact this
  have hnd := h.2.1
  have hsp : alive = alive.take k ++ alive[k] :: alive.drop (k + 1) := by rw [List.getElem_cons_drop, List.take_append_drop]
  generalize alive[k] = p at *
  refine ⟨⟨fun x hx => Nat.le_succ_of_le (h.1 x hx), ?_, fun q => ?_, h.2.2.2.1, by have := h.2.2.2.2; omega⟩, ?_⟩
  · rw [hsp] at hnd
    exact hnd.sublist (List.Sublist.append (List.Sublist.refl _) (List.sublist_cons_self _ _))
  · have hq := h.2.2.1 q
    rw [mem_lx ho] at hq
    rw [mem_lx hok, List.mem_append]
    have hpn : p ∉ alive.take k ∧ p ∉ alive.drop (k + 1) := by
      rw [hsp, List.nodup_append] at hnd
      refine ⟨fun hc => hnd.2.2 p hc p (by simp) rfl, (List.nodup_cons.1 hnd.2.1).1⟩
    have e : q.1 ≠ p.1 → on gs (fr ++ [p.1]) q.1 = on gs fr q.1 := fun hne => by simp [on, hne]
    constructor
    · intro hm
      have hqa : q ∈ alive := by
        rw [hsp, List.mem_append, List.mem_cons]
        rcases hm with h | h
        · exact .inl h
        · exact .inr (.inr h)
      obtain ⟨q1, q2, q3⟩ := hq.1 hqa
      have hne : q.1 ≠ p.1 := fun e => by
        have : q = p := Prod.ext e (by rw [q3, e, hl.2.1])
        subst this
        rcases hm with h | h
        · exact hpn.1 h
        · exact hpn.2 h
      rw [e hne]
      exact ⟨q1, q2, q3⟩
    · rintro ⟨q1, q2, q3⟩
      have hne : q.1 ≠ p.1 := fun e => by simp [on, e] at q2
      rw [e hne] at q2
      have hqa := hq.2 ⟨q1, q2, q3⟩
      rw [hsp, List.mem_append, List.mem_cons] at hqa
      rcases hqa with h | h | h
      · exact .inl h
      · subst h
        exact absurd rfl hne
      · exact .inr h
  · simp [livesOf, isOn, on]
end
end Go.Proofs.Yteieieepnfidaaa
