import Derived.Test.YtfbhoemfabgjpaaGreatMgAX
import Derived.Test.YtfbhoemfabgjpaaGreatWAdd2
import Derived.Test.YtfbhoemfabgjpaaGreatMgAM
import Derived.Test.YtfbhoemfabgjpaaGreatMgAS
/-
  World: who lives with what.
-/
namespace Go.Proofs.YtfbhoemfabgjpaaGreat
open Go.RowKit
set_option maxRecDepth 100000
theorem row_ext {a b : List (List Int)} {i j : Nat} (hl : a.length = b.length) (h : ∀ m (h1 : m < a.length) (h2 : m < b.length), a[m].getD i 0 = b[m].getD j 0) : rowOf a i = rowOf b j := by
  refine List.ext_getElem (by simp [rowOf, hl]) (fun m m1 m2 => ?_)
  simp only [rowOf, List.length_map] at m1 m2
  simp only [rowOf, List.getElem_map]
  exact h m m1 m2
theorem row_add_old {cols : List (List Int)} {vals : List Int} {n j : Nat} (hc : ∀ c ∈ cols, c.length = n) (hj : j < n) : rowOf (addRow cols vals) j = rowOf cols j := by
  refine row_ext (addRow_len _ _) (fun m m1 m2 => ?_)
  have := hc _ (List.getElem_mem m2)
  rw [addRow_at cols vals m m2 m1, List.getD_eq_getElem?_getD, List.getElem?_append_left (by omega), ← List.getD_eq_getElem?_getD]
theorem row_add_new {cols : List (List Int)} {vals : List Int} {n : Nat} (hc : ∀ c ∈ cols, c.length = n) (hv : vals.length = cols.length) : rowOf (addRow cols vals) n = vals := by
  refine List.ext_getElem (by rw [rowOf_len, addRow_len, hv]) (fun m m1 m2 => ?_)
  have hm : m < cols.length := by omega
  have hm1 : m < (addRow cols vals).length := by rw [addRow_len]; exact hm
  have := hc _ (List.getElem_mem hm)
  simp only [rowOf, List.getElem_map]
  rw [addRow_at cols vals m hm hm1, List.getD_eq_getElem?_getD, List.getElem?_append_right (by omega), this, Nat.sub_self]
  simp [m2]
theorem row_rem {cols : List (List Int)} {n r j : Nat} (hc : ∀ c ∈ cols, c.length = n) (hr : r < n) (hj : j < n - 1) : rowOf (remCols cols r) j = rowOf cols (if j = r then n - 1 else j) := by
  refine row_ext (remCols_len _ _) (fun m m1 m2 => ?_)
  have hl := hc _ (List.getElem_mem m2)
  have hj2 : j < (rem cols[m] r).length := by rw [rem_len]; omega
  rw [remCols_at cols r m m2 m1, List.getD_eq_getElem?_getD, List.getElem?_eq_getElem hj2, Option.getD_some, rem_at _ _ _ (by omega) hj2]
  by_cases c : j = r
  · rw [if_pos c, if_pos c, List.getD_eq_getElem?_getD, List.getElem?_eq_getElem (by omega), Option.getD_some]
    congr 1
    omega
  · rw [if_neg c, if_neg c, List.getD_eq_getElem?_getD, List.getElem?_eq_getElem (by omega), Option.getD_some]
abbrev Co := Int × Int → Option (Nat × List Int)
/-- The tables hold what is told of each. -/
def Ct (C : Co) (T : Nat → Ts) : Prop := ∀ e s vals, C e = some (s, vals) → ∃ j, ∃ hj : j < (T s).1.length, (T s).1[j] = e ∧ rowOf (T s).2 j = vals
def fC (C : Co) : Int × Int → Option Nat := fun e => (C e).map (·.1)
section
variable {ks : List Kind} {C : Co} {q : Nat → Option Nat} {T : Nat → Ts}
theorem fC_some {e : Int × Int} {s : Nat} {vals : List Int} (h : C e = some (s, vals)) : fC C e = some s := by simp [fC, h]
theorem fC_is (e : Int × Int) : (fC C e).isSome = (C e).isSome := by simp [fC]
theorem fC_less (C : Co) (e : Int × Int) : fC (fun x => if x = e then none else C x) = fun x => if x = e then none else fC C x := by
  funext x
  by_cases c : x = e <;> simp [fC, c]
theorem fC_more (C : Co) (e : Int × Int) (p : Nat × List Int) : fC (fun x => if x = e then some p else C x) = fun x => if x = e then some p.1 else fC C x := by
  funext x
  by_cases c : x = e <;> simp [fC, c]
theorem Ct.drop (h : Ct C T) (hw : Wi ks (fC C) q T) {e : Int × Int} {s r : Nat} (hf : fC C e = some s) (hr : r < (T s).1.length) (hx : (T s).1[r] = e) : Ct (fun x => if x = e then none else C x) (lessT T s r) := by
  obtain ⟨_, ⟨g, hg⟩, _⟩ := hw.1 e s hf
  obtain ⟨_, k2, k3, k4, k5, k6⟩ := hw.2 s g hg
  intro x s' vals hx'
  dsimp only at hx'
  by_cases c : x = e
  · rw [if_pos c] at hx'; cases hx'
  · rw [if_neg c] at hx'
    obtain ⟨j, hj, e1, e2⟩ := h x s' vals hx'
    by_cases d : s' = s
    · subst d
      have hjr : j ≠ r := fun e' => c (by subst e'; exact e1.symm.trans hx)
      by_cases hl : j = (T s').1.length - 1
      · have hr2 : r < (rem (T s').1 r).length := by rw [rem_len]; omega
        refine ⟨r, by simp only [lessT, if_true]; exact hr2, ?_, ?_⟩
        · simp only [lessT, if_true]
          rw [rem_at _ _ _ hr hr2, if_pos rfl]
          subst hl
          exact e1
        · simp only [lessT, if_true]
          rw [row_rem k6 hr (by omega), if_pos rfl, ← hl]
          exact e2
      · have hj2 : j < (rem (T s').1 r).length := by rw [rem_len]; omega
        refine ⟨j, by simp only [lessT, if_true]; exact hj2, ?_, ?_⟩
        · simp only [lessT, if_true]
          rw [rem_at _ _ _ hr hj2, if_neg hjr]
          exact e1
        · simp only [lessT, if_true]
          rw [row_rem k6 hr (by omega), if_neg hjr]
          exact e2
    · refine ⟨j, by simp only [lessT, if_neg d]; exact hj, ?_, ?_⟩
      · simp only [lessT, if_neg d]
        exact e1
      · simp only [lessT, if_neg d]
        exact e2
theorem Ct.put (h : Ct C T) (hw : Wi ks (fC C) q T) {e : Int × Int} {s : Nat} {vals : List Int} (hv : vals.length = fsum ks s 1) : Ct (fun x => if x = e then some (s, vals) else C x) (moreT q T s e vals) := by
  have hb : (baseT q T s vals.length).2.length = vals.length ∧ ∀ c ∈ (baseT q T s vals.length).2, c.length = (baseT q T s vals.length).1.length := by
    unfold baseT
    cases hq : q s with
    | none => simp
    | some g0 =>
      obtain ⟨_, k2, _, _, _, k6⟩ := hw.2 s g0 hq
      simp only [Option.isSome_some, if_true]
      exact ⟨by rw [k2, hv], k6⟩
  intro x s' vals' hx'
  dsimp only at hx'
  by_cases c : x = e
  · rw [if_pos c] at hx'
    simp only [Option.some.injEq, Prod.mk.injEq] at hx'
    obtain ⟨rfl, rfl⟩ := hx'
    refine ⟨(baseT q T s vals.length).1.length, by simp [moreT], ?_, ?_⟩
    · simp [moreT, c]
    · simp only [moreT, if_true]
      exact row_add_new hb.2 hb.1.symm
  · rw [if_neg c] at hx'
    obtain ⟨j, hj, e1, e2⟩ := h x s' vals' hx'
    by_cases d : s' = s
    · subst d
      obtain ⟨_, ⟨g, hg⟩, _⟩ := hw.1 x s' (fC_some hx')
      have hbe : baseT q T s' vals.length = T s' := by unfold baseT; rw [hg]; simp
      obtain ⟨_, _, _, _, _, k6⟩ := hw.2 s' g hg
      refine ⟨j, by simp only [moreT, if_true, hbe, List.length_append]; omega, ?_, ?_⟩
      · simp only [moreT, if_true, hbe]
        rw [List.getElem_append_left hj]
        exact e1
      · simp only [moreT, if_true, hbe]
        rw [row_add_old k6 hj]
        exact e2
    · refine ⟨j, by simp only [moreT, if_neg d]; exact hj, ?_, ?_⟩
      · simp only [moreT, if_neg d]
        exact e1
      · simp only [moreT, if_neg d]
        exact e2
end
/-! ### A world, as it is told -/
def Lv (gs fr : List Nat) (C : Co) : Prop := ∀ a b, livesOf gs fr a b = (C (a, b)).isSome
/-- A world: its kinds, its pool as State tells it, and who lives with what. -/
def Wn (w : World) (own : Nat → Nat) (gw N : Nat) (ks : List Kind) (gs fr : List Nat) (C : Co) : Prop :=
  ∃ vk gp gm gt q T, Wx 0 w own gw vk gp gm gt N ks gs fr (fC C) q T ∧ Wi ks (fC C) q T ∧ Ct C T ∧ mayB ks ∧ Lv gs fr C ∧ ∀ e s vals, C e = some (s, vals) → Pak.Rw.AllFit vals
theorem lives_at {gs fr : List Nat} {a b : Int} (h : livesOf gs fr a b = true) : ∃ i : Nat, a = (i : Int) ∧ i < gs.length ∧ on gs fr i = true ∧ b = ((gs.getD i 0 : Nat) : Int) := by
  simp only [livesOf, isOn, Bool.and_eq_true, decide_eq_true_eq] at h
  exact ⟨a.toNat, by omega, h.1.1.2, h.1.2, h.2.symm⟩
theorem lives_cnt {gs fr : List Nat} {C : Co} (h : Lv gs fr C) (hg : gs.length ≤ 200) (E : List (Int × Int)) (hn : E.Nodup) (hE : ∀ e ∈ E, (fC C e).isSome = true) : E.length ≤ 200 := by
  have hm : (E.map (fun e => e.1.toNat)).Nodup := by
    refine List.pairwise_map.2 (List.Pairwise.imp_of_mem (fun {x y} hx hy hne e => ?_) hn)
    have h1 := hE x hx
    have h2 := hE y hy
    rw [fC_is, ← h] at h1 h2
    obtain ⟨i, i1, i2, i3, i4⟩ := lives_at h1
    obtain ⟨j, j1, j2, j3, j4⟩ := lives_at h2
    have : i = j := by rw [i1, j1] at e; simpa using e
    subst this
    exact hne (Prod.ext (i1.trans j1.symm) (i4.trans j4.symm))
  have := nodup_len 200 _ hm (fun n hn' => by
    obtain ⟨e, he, rfl⟩ := List.mem_map.1 hn'
    have h1 := hE e he
    rw [fC_is, ← h] at h1
    obtain ⟨i, i1, i2, -⟩ := lives_at h1
    rw [i1]
    simp
    omega)
  rwa [List.length_map] at this
section
variable {w w' : World} {own : Nat → Nat} {gw N N' : Nat} {ks : List Kind} {gs fr : List Nat} {C : Co}
theorem Wn.later (h : Wn w own gw N ks gs fr C) (hb : Below w.heap.size w w') : Wn w' (rel own w 0) gw N ks gs fr C := by
  obtain ⟨vk, gp, gm, gt, q, T, h1, h2⟩ := h
  exact ⟨vk, gp, gm, gt, q, T, h1.later hb, h2⟩
theorem Wn.up (h : Wn w own gw N ks gs fr C) (hN : N ≤ N') : Wn w own gw N' ks gs fr C := by
  obtain ⟨vk, gp, gm, gt, q, T, h1, h2⟩ := h
  exact ⟨vk, gp, gm, gt, q, T, h1.up hN, h2⟩
theorem Wn.ok (h : Wn w own gw N ks gs fr C) : Ok 200 gs fr := by
  obtain ⟨vk, gp, gm, gt, q, T, h1, h2⟩ := h
  exact h1.pl.2
theorem fit_cols {q : Nat → Option Nat} {T : Nat → Ts} (hw : Wi ks (fC C) q T) (hc : Ct C T) (hf : ∀ e s vals, C e = some (s, vals) → Pak.Rw.AllFit vals) : ∀ s g, q s = some g → ∀ c ∈ (T s).2, Pak.Rw.AllFit c := fun s g hg c hcm z hz => by
  obtain ⟨_, k2, k3, k4, k5, k6⟩ := hw.2 s g hg
  obtain ⟨m, hm, rfl⟩ := List.getElem_of_mem hcm
  obtain ⟨j, hj, rfl⟩ := List.getElem_of_mem hz
  have hjl : j < (T s).1.length := by rw [← k6 _ (List.getElem_mem hm)]; exact hj
  have hfe := k4 _ (List.getElem_mem hjl)
  obtain ⟨⟨s', vals⟩, hC, hs'⟩ := Option.map_eq_some_iff.1 hfe
  dsimp only at hs'
  subst hs'
  obtain ⟨j', hj', e1, e2⟩ := hc _ _ _ hC
  obtain rfl := nodup_at k3 hj' hjl e1
  refine hf _ _ _ hC _ ?_
  rw [← e2]
  simp only [rowOf, List.mem_map]
  exact ⟨_, List.getElem_mem hm, by rw [List.getD_eq_getElem?_getD, List.getElem?_eq_getElem hj]; rfl⟩
theorem inb_of {gs fr : List Nat} {a b : Int} (ho : Ok 200 gs fr) (h : livesOf gs fr a b = true) : InB (a, b) := by
  obtain ⟨i, i1, i2, i3, i4⟩ := lives_at h
  have := ho.gen i i2
  have := ho.2.2.1
  refine ⟨⟨?_, ?_⟩, ?_, ?_⟩ <;> dsimp only <;> omega
end
end Go.Proofs.YtfbhoemfabgjpaaGreat

/-
  World: Clone, told by who lives with what.
-/
namespace Go.Proofs.YtfbhoemfabgjpaaGreat
open Go.RowKit
set_option maxRecDepth 100000
theorem Wi.same {ks : List Kind} {f : Int × Int → Option Nat} {q q' : Nat → Option Nat} {T : Nat → Ts} (h : Wi ks f q T) (hq : ∀ s, (q' s).isSome = (q s).isSome) : Wi ks f q' T := by
  refine ⟨fun e s he => ?_, fun s g hg => ?_⟩
  · obtain ⟨h1, ⟨g, h2⟩, h3⟩ := h.1 e s he
    have := hq s
    rw [h2] at this
    exact ⟨h1, Option.isSome_iff_exists.1 this, h3⟩
  · have := hq s
    rw [hg] at this
    obtain ⟨g0, h0⟩ := Option.isSome_iff_exists.1 this.symm
    exact h.2 s g0 h0
theorem Wn.clone {w : World} {own : Nat → Nat} {gw N : Nat} {ks : List Kind} {gs fr : List Nat} {C : Co} (h : Wn w own gw N ks gs fr C) : Calls Tryz.prog 10 #[.pointer (some ⟨gw, 0, none⟩)] w fun e w' => ∃ (g' : Nat) (own' : Nat → Nat), e = .returned (.pointer (some ⟨g', 0, none⟩)) ∧ Wn w' own' g' (N + 8192) ks gs fr C ∧ (∀ k, k < w.heap.size → own' k = if own k = 2 then 2 else 0) ∧ Below w.heap.size w w' := by
  obtain ⟨vk, gp, gm, gt, q, T, h1, h2, h3⟩ := h
  refine (wclone_any h1 h2).mono ?_
  rintro e w' ⟨g', gp', gm', gt', own', q', rfl, k1, k2, k3, k4⟩
  exact ⟨g', own', rfl, ⟨vk, gp', gm', gt', q', T, k1, h2.same k2, h3⟩, k3, k4⟩
end Go.Proofs.YtfbhoemfabgjpaaGreat

/-
  World: its calls, told by who lives with what.
-/
namespace Go.Proofs.YtfbhoemfabgjpaaGreat
open Go.RowKit
set_option maxRecDepth 100000
/-! ### The pool's turns -/
def takeE (gs fr : List Nat) : Nat × Nat := match fr with
  | [] => (gs.length, 1)
  | i :: _ => (i, gs.getD i 0 + 1)
def takeG (gs fr : List Nat) : List Nat := match fr with
  | [] => gs ++ [1]
  | i :: _ => gs.set i (gs.getD i 0 + 1)
def takeF (fr : List Nat) : List Nat := fr.tail
theorem getD_push (gs : List Nat) (j : Nat) : (gs ++ [1]).getD j 0 = if j < gs.length then gs.getD j 0 else if j = gs.length then 1 else 0 := by
  simp only [List.getD_eq_getElem?_getD, List.getElem?_append]
  by_cases hj : j < gs.length
  · simp [hj]
  · by_cases hj2 : j = gs.length
    · subst hj2
      simp
    · have e : (([1] : List Nat)[j - gs.length]?) = none := by
        rw [List.getElem?_eq_none]
        simp
        omega
      rw [if_neg hj, if_neg hj, if_neg hj2, e]
      rfl
theorem lives_iff (gs fr : List Nat) (a b : Int) : livesOf gs fr a b = true ↔ ∃ i : Nat, a = (i : Int) ∧ i < gs.length ∧ gs.getD i 0 ≤ 1000000 ∧ i ∉ fr ∧ b = ((gs.getD i 0 : Nat) : Int) := by
  constructor
  · intro h
    obtain ⟨i, h1, h2, h3, h4⟩ := lives_at h
    simp only [on, Bool.and_eq_true, decide_eq_true_eq, Bool.not_eq_true', List.contains_eq_mem, decide_eq_false_iff_not] at h3
    exact ⟨i, h1, h2, h3.1, h3.2, h4⟩
  · rintro ⟨i, rfl, h2, h3, h4, rfl⟩
    simp only [livesOf, isOn, on, Int.toNat_natCast, Bool.and_eq_true, decide_eq_true_eq, Bool.not_eq_true', List.contains_eq_mem, decide_eq_false_iff_not]
    exact ⟨⟨⟨by omega, h2⟩, h3, h4⟩, trivial⟩
theorem lives_take {gs fr : List Nat} (ho : Ok 200 gs fr) (hroom : fr ≠ [] ∨ gs.length < 200) (a b : Int) : livesOf (takeG gs fr) (takeF fr) a b = true ↔ (a, b) = (((takeE gs fr).1 : Int), ((takeE gs fr).2 : Int)) ∨ livesOf gs fr a b = true := by
  rw [lives_iff, lives_iff]
  cases fr with
  | nil =>
    simp only [takeG, takeF, takeE, List.tail_nil, List.length_append, List.length_singleton, List.not_mem_nil, not_false_eq_true, true_and, Prod.mk.injEq]
    constructor
    · rintro ⟨i, rfl, h2, h3, rfl⟩
      rw [getD_push] at h3 ⊢
      by_cases c : i < gs.length
      · rw [if_pos c] at h3 ⊢
        exact .inr ⟨i, rfl, c, h3, rfl⟩
      · have : i = gs.length := by omega
        subst this
        rw [if_neg c, if_pos rfl]
        exact .inl ⟨rfl, rfl⟩
    · rintro (⟨rfl, rfl⟩ | ⟨i, rfl, h2, h3, rfl⟩)
      · refine ⟨gs.length, rfl, by omega, ?_, ?_⟩
        · rw [getD_push, if_neg (by omega), if_pos rfl]
          omega
        · rw [getD_push, if_neg (by omega), if_pos rfl]
      · refine ⟨i, rfl, by omega, ?_, ?_⟩
        · rw [getD_push, if_pos h2]
          exact h3
        · rw [getD_push, if_pos h2]
  | cons k t =>
    have hk := ho.2.2.2.2.2 k (by simp)
    have hnk : k ∉ t := (List.nodup_cons.1 ho.2.2.2.2.1).1
    simp only [takeG, takeF, takeE, List.tail_cons, List.length_set, List.mem_cons, not_or, Prod.mk.injEq]
    constructor
    · rintro ⟨i, rfl, h2, h3, h4, rfl⟩
      rw [getD_set hk.1] at h3 ⊢
      by_cases c : k = i
      · subst c
        rw [if_pos rfl]
        exact .inl ⟨rfl, rfl⟩
      · rw [if_neg c] at h3 ⊢
        exact .inr ⟨i, rfl, h2, h3, ⟨fun e => c e.symm, h4⟩, rfl⟩
    · rintro (⟨rfl, rfl⟩ | ⟨i, rfl, h2, h3, h4, rfl⟩)
      · refine ⟨k, rfl, hk.1, ?_, hnk, ?_⟩
        · rw [getD_set hk.1, if_pos rfl]
          omega
        · rw [getD_set hk.1, if_pos rfl]
      · have c : ¬ k = i := fun e => h4.1 e.symm
        refine ⟨i, rfl, h2, ?_, h4.2, ?_⟩
        · rw [getD_set hk.1, if_neg c]
          exact h3
        · rw [getD_set hk.1, if_neg c]
theorem take_not {gs fr : List Nat} (ho : Ok 200 gs fr) : livesOf gs fr ((takeE gs fr).1 : Int) ((takeE gs fr).2 : Int) = false := by
  rw [← Bool.not_eq_true, lives_iff]
  rintro ⟨i, h1, h2, h3, h4, h5⟩
  cases fr with
  | nil =>
    simp only [takeE] at h1
    omega
  | cons k t =>
    simp only [takeE] at h1
    have : i = k := by omega
    subst this
    simp at h4
theorem take_inb {gs fr : List Nat} (ho : Ok 200 gs fr) : InB (((takeE gs fr).1 : Int), ((takeE gs fr).2 : Int)) := by
  have hl := ho.2.2.1
  cases fr with
  | nil =>
    simp only [takeE]
    refine ⟨⟨?_, ?_⟩, ?_, ?_⟩ <;> dsimp only <;> omega
  | cons k t =>
    have hk := ho.2.2.2.2.2 k (by simp)
    simp only [takeE]
    refine ⟨⟨?_, ?_⟩, ?_, ?_⟩ <;> dsimp only <;> omega
theorem lives_give {gs fr : List Nat} {i : Nat} (hi : i < gs.length) (_hl : gs.getD i 0 ≤ 1000000) (_hfr : i ∉ fr) (a b : Int) : livesOf (giveG gs i) (giveF gs fr i) a b = true ↔ (a, b) ≠ ((i : Int), ((gs.getD i 0 : Nat) : Int)) ∧ livesOf gs fr a b = true := by
  rw [lives_iff, lives_iff]
  simp only [ne_eq, Prod.mk.injEq, not_and]
  by_cases c : gs.getD i 0 = 1000000
  · simp only [giveG, giveF, if_pos c, List.length_set]
    constructor
    · rintro ⟨j, rfl, h2, h3, h4, rfl⟩
      rw [getD_set hi] at h3 ⊢
      by_cases d : i = j
      · rw [if_pos d] at h3
        omega
      · rw [if_neg d] at h3 ⊢
        exact ⟨fun e => absurd e (by omega), j, rfl, h2, h3, h4, rfl⟩
    · rintro ⟨h0, j, rfl, h2, h3, h4, rfl⟩
      have d : ¬ i = j := fun e => h0 (by omega) (by rw [e])
      refine ⟨j, rfl, h2, ?_, h4, ?_⟩ <;> rw [getD_set hi, if_neg d]
      exact h3
  · simp only [giveG, giveF, if_neg c, List.mem_append, List.mem_singleton, not_or]
    constructor
    · rintro ⟨j, rfl, h2, h3, ⟨h4, h5⟩, rfl⟩
      exact ⟨fun e => absurd e (by omega), j, rfl, h2, h3, h4, rfl⟩
    · rintro ⟨h0, j, rfl, h2, h3, h4, rfl⟩
      exact ⟨j, rfl, h2, h3, ⟨h4, fun e => h0 (by omega) (by rw [e])⟩, rfl⟩
/-! ### The calls -/
section
variable {w w' : World} {own : Nat → Nat} {gw N N' : Nat} {ks : List Kind} {gs fr : List Nat} {C : Co}
theorem wn_new {v : Value} (h : Kr w v ks) (hm : mayB ks) : Calls Tryz.prog 6 #[v] w fun e w' => ∃ gw, e = .returned (.tuple #[.pointer (some ⟨gw, 0, none⟩), .int .i64 0]) ∧ (∃ own, (∀ k, k < w.heap.size → own k = 0) ∧ Wn w' own gw 0 ks [] [] (fun _ => none)) ∧ Below w.heap.size w w' := by
  refine (wnew_any h hm (fun _ => ([], []))).mono ?_
  rintro e w' ⟨gw, rfl, ⟨own, vk, gp, gm, gt, h1, h2⟩, h3⟩
  refine ⟨gw, rfl, ⟨own, h1, vk, gp, gm, gt, _, _, h2, Wi.start _ _, fun e s vals h => (by cases h), hm, fun a b => ?_, fun e s vals h => (by cases h)⟩, h3⟩
  simp [livesOf, isOn]
theorem Wn.spawn (h : Wn w own gw N ks gs fr C) (hN : N ≤ 900000) (hroom : fr ≠ [] ∨ gs.length < 200) (v : Value) (l : List Pt) (V : Pt → List Int) (hv : Rp w v l) (hcome : comeL ks 0 l = 0) (hv0 : ∀ k, v.ownBlock = some k → own k = 0 ∧ k < w.heap.size) (hV : ∀ p ∈ l, Iz w (ptV p) (V p) ∧ (p.2.1 = none → p.2.2 = (0, 0))) (hV0 : ∀ p ∈ l, ∀ k, (ptV p).ownBlock = some k → own k = 0 ∧ k < w.heap.size) (hfit : ∀ p ∈ l, Pak.Rw.AllFit (V p)) :
    Calls Tryz.prog 39 #[.pointer (some ⟨gw, 0, none⟩), v] w fun e w' => e = .returned (.tuple #[ev (takeE gs fr), .int .i64 0]) ∧ ∃ (vals : List Int) (own' : Nat → Nat), Wn w' own' gw (N + 3) ks (takeG gs fr) (takeF fr) (fun x => if x = (((takeE gs fr).1 : Int), ((takeE gs fr).2 : Int)) then some (setOf l, vals) else C x) ∧ Wk own own' w w' ∧ vals.length = fsum ks (setOf l) 1 ∧ ∀ r, r ∈ partsL ks (setOf l) 1 vals ↔ ∃ p ∈ l, r = (p.1.toNat, V p) := by
  have ho := h.ok
  obtain ⟨vk, gp, gm, gt, q, T, h1, h2, h3, h4, h5, h6⟩ := h
  obtain ⟨p1, p2, p3⟩ := come_twelve hcome h4.2.1
  have hpg := come_pg hcome
  obtain ⟨-, -, -, hsb, hs⟩ := hpg.facts h4.2.1
  have hVl : ∀ p ∈ l, (V p).length = p.2.2.1 := fun p hp => by
    obtain ⟨ao, c, e, -⟩ := (hV p hp).1
    simp only [ptV, Value.slice.injEq] at e
    exact e.2.1.symm
  have hl := nvals_flat l hVl
  have h48 := fsum_le ks (setOf l) 1 (fun x hx => (h4.2.2.1 x hx).1)
  have hnl := take_not ho
  have hfn : fC C (((takeE gs fr).1 : Int), ((takeE gs fr).2 : Int)) = none := by
    rw [h5] at hnl
    have := fC_is (C := C) (((takeE gs fr).1 : Int), ((takeE gs fr).2 : Int))
    rw [hnl] at this
    simpa using this
  have hqs : ∀ g, q (setOf l) = some g → (((takeE gs fr).1 : Int), ((takeE gs fr).2 : Int)) ∉ (T (setOf l)).1 ∧ (T (setOf l)).1.length < 200 ∧ (l.flatMap V).length = (T (setOf l)).2.length := fun g hg => by
    obtain ⟨k1, k2, k3, k4, k5, k6⟩ := h2.2 _ g hg
    have hni : (((takeE gs fr).1 : Int), ((takeE gs fr).2 : Int)) ∉ (T (setOf l)).1 := fun hm => by
      have := k4 _ hm
      rw [hfn] at this
      cases this
    refine ⟨hni, ?_, by rw [hl, k2, p3]⟩
    have hlv : Lv (takeG gs fr) (takeF fr) (fun x => if x = (((takeE gs fr).1 : Int), ((takeE gs fr).2 : Int)) then some (0, []) else C x) := fun a b => by
      rw [Bool.eq_iff_iff, lives_take ho hroom, h5]
      (try dsimp only)
      by_cases c : (a, b) = (((takeE gs fr).1 : Int), ((takeE gs fr).2 : Int))
      · rw [if_pos c]; simp [c]
      · rw [if_neg c]; simp [c]
    have hg2 : (takeG gs fr).length ≤ 200 := by
      cases fr with
      | nil =>
        simp only [takeG, List.length_append, List.length_singleton]
        rcases hroom with c | c
        · exact absurd rfl c
        · omega
      | cons k t =>
        simp only [takeG, List.length_set]
        exact ho.2.2.1
    have := lives_cnt hlv hg2 ((T (setOf l)).1 ++ [(((takeE gs fr).1 : Int), ((takeE gs fr).2 : Int))]) (by
      rw [List.nodup_append]
      refine ⟨k3, by simp, fun x hx y hy e => ?_⟩
      simp only [List.mem_singleton] at hy
      exact hni (by rw [← hy, ← e]; exact hx)) (fun x hx => by
      rw [fC_is]
      (try dsimp only)
      rcases List.mem_append.1 hx with hx | hx
      · by_cases c : x = (((takeE gs fr).1 : Int), ((takeE gs fr).2 : Int))
        · rw [if_pos c]; rfl
        · rw [if_neg c, ← fC_is, k4 x hx]; rfl
      · rw [if_pos (List.mem_singleton.1 hx)]; rfl)
    rw [List.length_append, List.length_singleton] at this
    omega
  have hT : ∀ (W : World) (S : Nat → Prop), Pl W S gp 200 gs fr → Calls Tryz.prog 66 #[.pointer (some ⟨gp, 0, none⟩)] W fun e w' => e = .returned (.tuple #[.agg #[.int .i64 ((takeE gs fr).1 : Int), .int .i64 ((takeE gs fr).2 : Int)], .int .i64 0]) ∧ Pl w' (Nw W S) gp 200 (takeG gs fr) (takeF fr) ∧ Mv W w' S := fun W S hp => by
    cases fr with
    | nil =>
      rcases hroom with c | c
      · exact absurd rfl c
      · exact take_new hp c
    | cons k t => exact take_free hp
  refine (spawn_of h1 v l hv h4.2.1 hcome V hv0 p1 hV hV0 (by have := h4.2.1; omega) hN _ _ (take_inb ho) hqs hT).mono ?_
  rintro e w' ⟨rfl, l', g, own', r1, r2, r3, r4⟩
  obtain ⟨t1, t2⟩ := put_told hpg h4.2.1 hVl r1 r2
  refine ⟨rfl, l'.flatMap V, own', ⟨vk, gp, gm, gt, fun x => if x = setOf l then some g else q x, moreT q T (setOf l) (((takeE gs fr).1 : Int), ((takeE gs fr).2 : Int)) (l'.flatMap V), ?_, ?_, h3.put h2 t1, h4, fun a b => ?_, fun e s vals he => ?_⟩, r4, t1, fun r => ?_⟩
  · rw [fC_more]
    exact r3
  · rw [fC_more]
    exact h2.put hfn hs hsb t1
  · rw [Bool.eq_iff_iff, lives_take ho hroom, h5]
    (try dsimp only)
    by_cases c : (a, b) = (((takeE gs fr).1 : Int), ((takeE gs fr).2 : Int))
    · rw [if_pos c]; simp [c]
    · rw [if_neg c]; simp [c]
  · dsimp only at he
    by_cases c : e = (((takeE gs fr).1 : Int), ((takeE gs fr).2 : Int))
    · rw [if_pos c] at he
      simp only [Option.some.injEq, Prod.mk.injEq] at he
      rw [← he.2]
      intro z hz
      obtain ⟨p, hp, hzp⟩ := List.mem_flatMap.1 hz
      exact hfit p (r1.mem_iff.1 hp) z hzp
    · rw [if_neg c] at he
      exact h6 e s vals he
  · rw [t2, List.mem_map]
    constructor
    · rintro ⟨p, hp, rfl⟩
      exact ⟨p, r1.mem_iff.1 hp, rfl⟩
    · rintro ⟨p, hp, rfl⟩
      exact ⟨p, r1.mem_iff.2 hp, rfl⟩
theorem Wn.spawn_full (h : Wn w own gw N ks gs fr C) (hfr : fr = []) (hgs : gs.length = 200) (v : Value) (l : List Pt) (hv : Rp w v l) (hcome : comeL ks 0 l = 0) : Calls Tryz.prog 39 #[.pointer (some ⟨gw, 0, none⟩), v] w fun e w' => e = .returned (.tuple #[ev (0, 0), .int .i64 40]) ∧ Below w.heap.size w w' := by
  obtain ⟨vk, gp, gm, gt, q, T, h1, h2, h3, h4, h5, h6⟩ := h
  exact Go.Proofs.YtfbhoemfabgjpaaGreat.spawn_full h1 v l hv h4.2.1 hcome hfr hgs
theorem Wn.at (h : Wn w own gw N ks gs fr C) {a b : Int} (hc : (C (a, b)).isSome = true) : ∃ i : Nat, a = (i : Int) ∧ b = ((gs.getD i 0 : Nat) : Int) ∧ i < gs.length ∧ gs.getD i 0 ≤ 1000000 ∧ i ∉ fr := by
  obtain ⟨vk, gp, gm, gt, q, T, h1, h2, h3, h4, h5, h6⟩ := h
  rw [← h5] at hc
  obtain ⟨i, i1, i2, i3, i4, i5⟩ := (lives_iff gs fr a b).1 hc
  exact ⟨i, i1, i5, i2, i3, i4⟩
theorem Wn.despawn (h : Wn w own gw N ks gs fr C) (hN : N ≤ 900000) {i : Nat} (hc : (C ((i : Int), ((gs.getD i 0 : Nat) : Int))).isSome = true) (hi : i < gs.length) (hl : gs.getD i 0 ≤ 1000000) (hfr : i ∉ fr) :
    Calls Tryz.prog 40 #[.pointer (some ⟨gw, 0, none⟩), ev (i, gs.getD i 0)] w fun e w' => e = .returned (.int .i64 0) ∧ ∃ own', Wn w' own' gw (N + 1) ks (giveG gs i) (giveF gs fr i) (fun x => if x = ((i : Int), ((gs.getD i 0 : Nat) : Int)) then none else C x) ∧ Wk own own' w w' := by
  have ho := h.ok
  obtain ⟨vk, gp, gm, gt, q, T, h1, h2, h3, h4, h5, h6⟩ := h
  obtain ⟨⟨s, vals⟩, hC⟩ := Option.isSome_iff_exists.1 hc
  have hf := fC_some hC
  obtain ⟨hs, ⟨g, hq⟩, -⟩ := h2.1 _ s hf
  obtain ⟨r, hr, hx, -⟩ := h3 _ s vals hC
  refine (despawn_live h1 i _ _ rfl rfl hi hl hfr s g r hf hq hs hr hx hN (by have := ho.2.2.1; omega)).mono ?_
  rintro e w' ⟨rfl, own', r1, r2⟩
  refine ⟨rfl, own', ⟨vk, gp, gm, gt, lessQ q T s, lessT T s r, ?_, ?_, h3.drop h2 hf hr hx, h4, fun a b => ?_, fun e s vals he => ?_⟩, r2⟩
  · rw [fC_less]
    exact r1
  · rw [fC_less]
    exact h2.drop hf hr hx
  · rw [Bool.eq_iff_iff, lives_give hi hl hfr, h5]
    (try dsimp only)
    by_cases c : (a, b) = ((i : Int), ((gs.getD i 0 : Nat) : Int))
    · rw [if_pos c]
      exact ⟨fun h => absurd c h.1, fun h => by cases h⟩
    · rw [if_neg c]
      exact ⟨fun h => h.2, fun h => ⟨c, h⟩⟩
  · dsimp only at he
    by_cases c : e = ((i : Int), ((gs.getD i 0 : Nat) : Int))
    · rw [if_pos c] at he; cases he
    · rw [if_neg c] at he
      exact h6 e s vals he
theorem Wn.despawn_stale (h : Wn w own gw N ks gs fr C) (a b : Int) (hc : (C (a, b)).isSome = false) : Calls Tryz.prog 40 #[.pointer (some ⟨gw, 0, none⟩), .agg #[.int .i64 a, .int .i64 b]] w fun e w' => e = .returned (.int .i64 41) ∧ Below w.heap.size w w' := by
  obtain ⟨vk, gp, gm, gt, q, T, h1, h2, h3, h4, h5, h6⟩ := h
  exact Go.Proofs.YtfbhoemfabgjpaaGreat.despawn_stale h1 a b ((h5 a b).trans hc)
theorem Wn.add (h : Wn w own gw N ks gs fr C) (hN : N ≤ 800000) (a b x : Int) (s : Nat) (old vals : List Int) (hc : C (a, b) = some (s, old)) (av : Option Addr) (nv cv : Nat) (hvs : Iz w (.slice av nv cv) vals) (hav : av = none → (nv, cv) = (0, 0)) (hv0 : ∀ k, (Value.slice av nv cv).ownBlock = some k → own k = 0 ∧ k < w.heap.size) (hz : comeS ks s x nv = 0) (hfit : Pak.Rw.AllFit vals) :
    Calls Tryz.prog 41 #[.pointer (some ⟨gw, 0, none⟩), .agg #[.int .i64 a, .int .i64 b], .agg #[.int .i64 x, .slice av nv cv]] w fun e w' => e = .returned (.int .i64 0) ∧ ∃ (vals' : List Int) (own' : Nat → Nat), Wn w' own' gw (N + 4) ks gs fr (fun y => if y = (a, b) then some (s ||| 2 ^ x.toNat, vals') else C y) ∧ Wk own own' w w' ∧ vals'.length = fsum ks (s ||| 2 ^ x.toNat) 1 ∧ ∀ r, r ∈ partsL ks (s ||| 2 ^ x.toNat) 1 vals' ↔ r ∈ partsL ks s 1 old ∨ r = (x.toNat, vals) := by
  have ho := h.ok
  obtain ⟨vk, gp, gm, gt, q, T, h1, h2, h3, h4, h5, h6⟩ := h
  have hf := fC_some hc
  obtain ⟨hs, ⟨g, hq⟩, -⟩ := h2.1 _ s hf
  obtain ⟨i, hi, hx, hrow⟩ := h3 _ s old hc
  have hl : livesOf gs fr a b = true := by rw [h5, hc]; rfl
  refine (wadd_any h1 h2 a b x (inb_of ho hl) h4.2.1 (fun x hx => (h4.2.2.1 x hx).1) s g i hf hq hi hx (fun E e1 e2 => lives_cnt h5 ho.2.2.1 E e1 e2) hN av nv cv vals hvs hav hv0 hl hz).mono ?_
  rintro e w' ⟨rfl, vals', g', own', r1, r2, r3, r4, r5⟩
  have hfe : (fun y => if y = (a, b) then some (s ||| 2 ^ x.toNat) else if y = (a, b) then none else fC C y) = fC (fun y => if y = (a, b) then some (s ||| 2 ^ x.toNat, vals') else C y) := by
    rw [fC_more]
    funext y
    by_cases c : y = (a, b) <;> simp [c]
  rw [hfe] at r1 r3
  rw [hrow] at r5
  refine ⟨rfl, vals', own', ⟨vk, gp, gm, gt, _, _, r1, r3, ?_, h4, fun c d => ?_, fun e s' vs he => ?_⟩, r2, r4, r5⟩
  · have hd := h3.drop h2 hf hi hx
    have hwd : Wi ks (fC (fun x => if x = (a, b) then none else C x)) (lessQ q T s) (lessT T s i) := by
      rw [fC_less]
      exact h2.drop hf hi hx
    have hp := hd.put hwd (e := (a, b)) (s := s ||| 2 ^ x.toNat) (vals := vals') r4
    intro e s' vs he
    refine hp e s' vs ?_
    dsimp only at he ⊢
    by_cases c : e = (a, b)
    · rw [if_pos c] at he ⊢
      exact he
    · rw [if_neg c] at he ⊢
      rw [if_neg c]
      exact he
  · rw [h5]
    (try dsimp only)
    by_cases e : (c, d) = (a, b)
    · rw [if_pos e, e, hc]
      rfl
    · rw [if_neg e]
  · dsimp only at he
    by_cases c : e = (a, b)
    · rw [if_pos c] at he
      simp only [Option.some.injEq, Prod.mk.injEq] at he
      obtain ⟨rfl, rfl⟩ := he
      have hflat := partsL_flat ks (s ||| 2 ^ x.toNat) 1 vals' r4
      intro z hz
      rw [← hflat] at hz
      obtain ⟨r, hr, hzr⟩ := List.mem_flatMap.1 hz
      rcases (r5 r).1 hr with hr | rfl
      · exact h6 _ _ _ hc z (partsL_sub ks s 1 old r hr z hzr)
      · exact hfit z hzr
    · rw [if_neg c] at he
      exact h6 e s' vs he
theorem Wn.add_err (h : Wn w own gw N ks gs fr C) (a b x : Int) (s : Nat) (old : List Int) (hc : C (a, b) = some (s, old)) (av : Option Addr) (nv cv : Nat) (z : Int) (hz : comeS ks s x nv = z) (hz0 : z ≠ 0) : Calls Tryz.prog 41 #[.pointer (some ⟨gw, 0, none⟩), .agg #[.int .i64 a, .int .i64 b], .agg #[.int .i64 x, .slice av nv cv]] w fun e w' => e = .returned (.int .i64 z) ∧ Below w.heap.size w w' := by
  have ho := h.ok
  obtain ⟨vk, gp, gm, gt, q, T, h1, h2, h3, h4, h5, h6⟩ := h
  have hf := fC_some hc
  have hl : livesOf gs fr a b = true := by rw [h5, hc]; rfl
  exact Go.Proofs.YtfbhoemfabgjpaaGreat.add_err h1 a b x (inb_of ho hl) h4.2.1 s (h2.1 _ s hf).1 hf av nv cv hl z hz hz0
/-- What is written of one. -/
def oneB (ks : List Kind) : Option (Nat × List Int) → List UInt8
  | none => []
  | some p => wrB p.1 (partsL ks p.1 1 p.2)
theorem Wn.snapshot (h : Wn w own gw N ks gs fr C) : Calls Tryz.prog 12 #[.pointer (some ⟨gw, 0, none⟩)] w fun e w' => ∃ v, e = .returned v ∧ (∃ E, Livers (fC C) E ∧ ∃ l, l = Pak.Rw.rowB (zi gs) ++ Pak.Rw.rowB (zi fr) ++ E.flatMap (fun e => oneB ks (C e)) ∧ w'.ownsRow w.heap.size 5 1 v l.length (Lib.byteCells l)) ∧ Below w.heap.size w w' := by
  have ho := h.ok
  obtain ⟨vk, gp, gm, gt, q, T, h1, h2, h3, h4, h5, h6⟩ := h
  refine (snapshot_any h1 h2 h4.2.1 (fit_cols h2 h3 h6) (fun E e1 e2 => lives_cnt h5 ho.2.2.1 E e1 e2)).mono ?_
  rintro e w' ⟨v, rfl, ⟨E, hE, hv⟩, hb⟩
  refine ⟨v, rfl, ⟨E, hE, _, rfl, ?_⟩, hb⟩
  have : E.flatMap (fun e => oneB ks (C e)) = E.flatMap (contB ks (fC C) T) := by
    refine congrArg (fun f => E.flatMap f) (funext fun e => ?_)
    cases hC : C e with
    | none => simp [contB, fC, hC, oneB]
    | some p =>
      obtain ⟨s, vals⟩ := p
      obtain ⟨j, hj, e1, e2⟩ := h3 e s vals hC
      rw [cont_of h2 (fC_some hC) ⟨hj, e1⟩, e2]
      rfl
  rw [this]
  exact hv
end
end Go.Proofs.YtfbhoemfabgjpaaGreat

/-
  World: WorldStale's state: the world, all that were given, and which of them are there.
-/
namespace Go.Proofs.YtfbhoemfabgjpaaGreat
open Go.RowKit
set_option maxRecDepth 100000
section
variable {w W W' : World} {own own' : Nat → Nat} {gw N : Nat} {ks : List Kind} {gs fr : List Nat} {C : Co}
theorem Wn.frame {S : Nat → Prop} (h : Wn W own gw N ks gs fr C) (hm : Mv W W' S) (hS : ∀ k, k < W.heap.size → S k → own k = 0) : Wn W' (rel own W 0) gw N ks gs fr C := by
  obtain ⟨vk, gp, gm, gt, q, T, h1, h2⟩ := h
  exact ⟨vk, gp, gm, gt, q, T, h1.frame (.inl rfl) hm (fun k hk e => .inl (hS k hk e)), h2⟩
theorem Wn.lives (h : Wn W own gw N ks gs fr C) (a b : Int) : Calls Tryz.prog 13 #[.pointer (some ⟨gw, 0, none⟩), .agg #[.int .i64 a, .int .i64 b]] W fun e w' => e = .returned (.bool (C (a, b)).isSome) ∧ Below W.heap.size W w' := by
  obtain ⟨vk, gp, gm, gt, q, T, h1, h2, h3, h4, h5, h6⟩ := h
  rw [← h5]
  exact wlives_any h1 a b
def liveE (C : Co) (a b z : Int) : Int := if (C (a, b)).isSome then z else 41
theorem Wn.has (h : Wn W own gw N ks gs fr C) (a b : Int) : ∃ s, s < 8192 ∧ (livesOf gs fr a b = true → fC C (a, b) = some s) := by
  obtain ⟨vk, gp, gm, gt, q, T, h1, h2, h3, h4, h5, h6⟩ := h
  cases hc : C (a, b) with
  | none => exact ⟨0, by omega, fun e => by rw [h5, hc] at e; cases e⟩
  | some p =>
    obtain ⟨s, vals⟩ := p
    exact ⟨s, (h2.1 _ s (fC_some hc)).1, fun _ => fC_some hc⟩
end
end Go.Proofs.YtfbhoemfabgjpaaGreat
