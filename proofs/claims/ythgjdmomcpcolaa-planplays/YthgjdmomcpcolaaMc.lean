/-
  Plan, plain: orders by picks, what is legal.
-/
import Derived.Test.YthgjdmomcpcolaaMb
namespace Go.Proofs.Ythgjdmomcpcolaa
theorem cons_erase_perm {α : Type} : ∀ (l : List α) (i : Nat) (h : i < l.length), (l[i] :: l.eraseIdx i).Perm l
  | x :: t, 0, _ => List.Perm.refl _
  | x :: t, i + 1, h => by
    have := cons_erase_perm t i (by simpa using h)
    simp only [List.getElem_cons_succ, List.eraseIdx_cons_succ]
    exact (List.Perm.swap _ _ _).trans (List.Perm.cons _ this)
theorem count_range (n x : Nat) : (List.range n).count x = if x < n then 1 else 0 := by
  induction n with
  | zero => simp
  | succ n ih =>
    rw [List.range_succ, List.count_append, ih, List.count_singleton]
    by_cases c : x < n
    · have h1 : ¬ n = x := by omega
      have h2 : x < n + 1 := by omega
      simp [c, h1, h2]
    · by_cases g : n = x
      · simp [g]
      · have h2 : ¬ x < n + 1 := by omega
        simp [c, g, h2]
/-- One stage, by its picks. -/
def ord1 : List Int → List Nat → Option (List Nat)
  | [], _ => some []
  | k :: ks, left => if 0 ≤ k ∧ k < left.length then (ord1 ks (left.eraseIdx k.toNat)).map (left.getD k.toNat 0 :: ·) else none
/-- All stages. -/
def ordS : List (List Nat) → List Int → Option (List Nat)
  | [], _ => some []
  | st :: sts, ps => (ord1 (ps.take st.length) st).bind fun a => (ordS sts (ps.drop st.length)).map (a ++ ·)
theorem ord1_perm : ∀ (ks : List Int) (left a : List Nat), ks.length = left.length → ord1 ks left = some a → a.Perm left
  | [], left, a, hl, h => by
    simp only [ord1, Option.some.injEq] at h
    subst h
    rw [List.length_nil] at hl
    rw [List.eq_nil_of_length_eq_zero hl.symm]
  | k :: ks, left, a, hl, h => by
    simp only [ord1] at h
    split at h
    · rename_i hk
      obtain ⟨b, hb, rfl⟩ := Option.map_eq_some_iff.1 h
      have hi : k.toNat < left.length := by omega
      have := ord1_perm ks _ b (by rw [List.length_eraseIdx_of_lt hi]; simp at hl; omega) hb
      rw [List.getD_eq_getElem?_getD, List.getElem?_eq_getElem hi, Option.getD_some]
      exact (List.Perm.cons _ this).trans (cons_erase_perm left _ hi)
    · cases h
/-- Picks that may be. -/
def okP : List Int → Nat → Prop
  | [], _ => True
  | k :: ks, n => (0 ≤ k ∧ k < n) ∧ okP ks (n - 1)
theorem ord1_ok : ∀ (ks : List Int) (left : List Nat), okP ks left.length → ∃ a, ord1 ks left = some a
  | [], _, _ => ⟨_, rfl⟩
  | k :: ks, left, h => by
    obtain ⟨b, hb⟩ := ord1_ok ks (left.eraseIdx k.toNat) (by rw [List.length_eraseIdx_of_lt (by have := h.1; omega)]; exact h.2)
    exact ⟨_, by rw [ord1, if_pos h.1, hb]; rfl⟩
def okPs : List (List Nat) → List Int → Prop
  | [], _ => True
  | st :: sts, ps => okP (ps.take st.length) st.length ∧ okPs sts (ps.drop st.length)
theorem ordS_ok : ∀ (sts : List (List Nat)) (ps : List Int), okPs sts ps → ∃ a, ordS sts ps = some a
  | [], _, _ => ⟨_, rfl⟩
  | st :: sts, ps, h => by
    obtain ⟨a, ha⟩ := ord1_ok _ _ h.1
    obtain ⟨b, hb⟩ := ordS_ok sts _ h.2
    exact ⟨_, by rw [ordS, ha, Option.bind_some, hb]; rfl⟩
theorem ordS_perm : ∀ (sts : List (List Nat)) (ps : List Int) (a : List Nat), ps.length = sts.flatten.length → ordS sts ps = some a → a.Perm sts.flatten
  | [], _, a, _, h => by
    simp only [ordS, Option.some.injEq] at h
    subst h
    exact List.Perm.refl _
  | st :: sts, ps, a, hl, h => by
    rw [List.flatten_cons, List.length_append] at hl
    simp only [ordS, Option.bind_eq_some_iff, Option.map_eq_some_iff] at h
    obtain ⟨b, hb, c, hc, rfl⟩ := h
    rw [List.flatten_cons]
    exact List.Perm.append (ord1_perm _ _ _ (by rw [List.length_take]; omega) hb) (ordS_perm sts _ c (by rw [List.length_drop]; omega) hc)
/-- Of any two in the order the stage of the first is not greater. -/
theorem ordS_rise {f : Nat → Nat} : ∀ (sts : List (List Nat)) (ps : List Int) (a : List Nat) (j : Nat), ps.length = sts.flatten.length → (∀ i (hi : i < sts.length), ∀ x ∈ sts[i], f x = j + i) → ordS sts ps = some a → a.Pairwise (fun x y => f x ≤ f y) ∧ ∀ x ∈ a, j ≤ f x
  | [], _, a, _, _, _, h => by
    simp only [ordS, Option.some.injEq] at h
    subst h
    exact ⟨List.Pairwise.nil, fun x hx => by cases hx⟩
  | st :: sts, ps, a, j, hl, hf, h => by
    rw [List.flatten_cons, List.length_append] at hl
    simp only [ordS, Option.bind_eq_some_iff, Option.map_eq_some_iff] at h
    obtain ⟨b, hb, c, hc, rfl⟩ := h
    have hp := ord1_perm _ _ _ (by rw [List.length_take]; omega) hb
    have h0 : ∀ x ∈ b, f x = j := fun x hx => by
      have := hf 0 (by simp) x (by simpa using hp.mem_iff.1 hx)
      omega
    obtain ⟨k1, k2⟩ := ordS_rise (f := f) sts _ c (j + 1) (by rw [List.length_drop]; omega) (fun i hi x hx => by
      have := hf (i + 1) (by simpa using hi) x (by simpa using hx)
      omega) hc
    refine ⟨List.pairwise_append.2 ⟨?_, k1, fun x hx y hy => by have := h0 x hx; have := k2 y hy; omega⟩, fun x hx => ?_⟩
    · apply List.Pairwise.imp_of_mem (R := fun _ _ => True)
      · intro x y hx hy _
        rw [h0 x hx, h0 y hy]
        exact Nat.le_refl _
      · exact List.pairwise_of_forall (fun _ _ => trivial)
    · rcases List.mem_append.1 hx with hx | hx
      · exact Nat.le_of_eq (h0 x hx).symm
      · have := k2 x hx; omega
/-! ### The stages, together -/
theorem sum_filter (f : Nat → Nat) (n : Nat) : ∀ m, (∀ k, k < n → f k < m) → (((List.range m).map fun j => (List.range n).filter fun k => f k == j).flatten).Perm (List.range n) := fun m hm => by
  rw [List.perm_iff_count]
  intro x
  by_cases hx : x < n
  · have e1 : (List.range n).count x = 1 := by rw [count_range, if_pos hx]
    rw [e1, List.count_flatten, List.map_map]
    have : ∀ m, ((List.range m).map (List.count x ∘ fun j => (List.range n).filter fun k => f k == j)).sum = if f x < m then 1 else 0 := fun m => by
      induction m with
      | zero => simp
      | succ m ih =>
        rw [List.range_succ, List.map_append, List.sum_append, ih]
        simp only [List.map_cons, List.map_nil, List.sum_cons, List.sum_nil, Function.comp, Nat.add_zero]
        by_cases c : f x = m
        · rw [List.count_filter (by simp [c]), e1, if_neg (by omega), if_pos (by omega)]
        · have : ((List.range n).filter fun k => f k == m).count x = 0 := by
            rw [List.count_eq_zero]
            intro h
            have := (List.mem_filter.1 h).2
            rw [beq_iff_eq] at this
            exact c this
          rw [this]
          by_cases c2 : f x < m
          · rw [if_pos c2, if_pos (by omega)]
          · rw [if_neg c2, if_neg (by omega)]
    rw [this, if_pos (hm x hx)]
  · have e0 : (List.range n).count x = 0 := by
      rw [List.count_eq_zero]
      exact fun h => hx (List.mem_range.1 h)
    rw [e0, List.count_eq_zero]
    intro h
    obtain ⟨r, hr, hxr⟩ := List.mem_flatten.1 h
    obtain ⟨j, _, rfl⟩ := List.mem_map.1 hr
    exact hx (List.mem_range.1 (List.mem_filter.1 hxr).1)
theorem StOf.eq {l : List Sy} {n : Nat} {sts : List (List Nat)} (h : StOf l n sts) : sts = (List.range sts.length).map fun j => (List.range n).filter fun k => sg l k == j := by
  apply List.ext_getElem
  · simp
  · intro j h1 h2
    rw [List.getElem_map, List.getElem_range]
    exact (h.2 j h1).1
theorem StOf.perm {l : List Sy} {n : Nat} {sts : List (List Nat)} (h : StOf l n sts) : sts.flatten.Perm (List.range n) := by
  rw [h.eq]
  exact sum_filter (sg l) n _ h.1
theorem StOf.flat_len {l : List Sy} {n : Nat} {sts : List (List Nat)} (h : StOf l n sts) : sts.flatten.length = n := by
  rw [h.perm.length_eq, List.length_range]
theorem StOf.short {l : List Sy} {n : Nat} {sts : List (List Nat)} (h : StOf l n sts) {j : Nat} (hj : j < sts.length) : sts[j].length ≤ n := by
  rw [(h.2 j hj).1]
  exact Nat.le_trans (List.length_filter_le _ _) (by simp)
theorem len_le_flat : ∀ (sts : List (List Nat)), (∀ st ∈ sts, st ≠ []) → sts.length ≤ sts.flatten.length
  | [], _ => Nat.le_refl _
  | st :: sts, h => by
    have := len_le_flat sts (fun s hs => h s (List.mem_cons_of_mem _ hs))
    have h1 : st.length ≠ 0 := fun e => h st List.mem_cons_self (List.eq_nil_of_length_eq_zero e)
    rw [List.flatten_cons, List.length_append, List.length_cons]
    omega
theorem StOf.few {l : List Sy} {n : Nat} {sts : List (List Nat)} (h : StOf l n sts) : sts.length ≤ n := by
  rw [← h.flat_len]
  refine len_le_flat sts (fun st hst => ?_)
  obtain ⟨j, hj, rfl⟩ := List.getElem_of_mem hst
  exact (h.2 j hj).2
theorem StOf.bound {l : List Sy} {n : Nat} {sts : List (List Nat)} (h : StOf l n sts) : ∀ st ∈ sts, ∀ x ∈ st, x < n := fun st hst _x hx =>
  List.mem_range.1 (h.perm.mem_iff.1 (List.mem_flatten.2 ⟨st, hst, hx⟩))
/-! ### What is legal -/
/-- May this one stand ahead of that one? -/
def Ah (l : List Sy) (x y : Int) : Prop := x ≠ y ∧ (cn l x.toNat y.toNat = true → x < y)
def Lg (l : List Sy) (o : List Int) : Prop := o.length = l.length ∧ (∀ x ∈ o, 0 ≤ x ∧ x < l.length) ∧ o.Pairwise (Ah l)
def up (a : List Nat) : List Int := a.map fun n : Nat => (n : Int)
theorem Lg.order {l : List Sy} {sts : List (List Nat)} (h : StOf l l.length sts) {ps : List Int} (hl : ps.length = l.length) {a : List Nat} (ha : ordS sts ps = some a) : Lg l (up a) := by
  have hfl := h.flat_len
  have hp := (ordS_perm sts ps a (by omega) ha).trans h.perm
  have hr := ordS_rise (f := sg l) sts ps a 0 (by omega) (fun i hi x hx => by
    rw [(h.2 i hi).1] at hx
    have := (List.mem_filter.1 hx).2
    rw [beq_iff_eq] at this
    omega) ha
  have hb : ∀ x ∈ a, x < l.length := fun x hx => List.mem_range.1 (hp.mem_iff.1 hx)
  have hnd : a.Nodup := hp.nodup_iff.2 List.nodup_range
  refine ⟨by rw [up, List.length_map, hp.length_eq, List.length_range], fun x hx => ?_, ?_⟩
  · obtain ⟨n, hn, rfl⟩ := List.mem_map.1 hx
    have := hb n hn
    omega
  · rw [up, List.pairwise_map]
    have h2 : a.Pairwise (fun x y => x ≠ y ∧ sg l x ≤ sg l y) := by
      rw [List.pairwise_and_iff]
      exact ⟨hnd, hr.1⟩
    refine List.Pairwise.imp_of_mem (fun {x y} hx hy hxy => ?_) h2
    refine ⟨by have := hxy.1; omega, fun hc => ?_⟩
    simp only [Int.toNat_natCast] at hc
    rcases Nat.lt_or_ge x y with c | c
    · omega
    · have hlt : y < x := by have := hxy.1; omega
      rw [cn_symm] at hc
      have := sg_lt l y x hlt (hb x hx) hc
      have := hxy.2
      omega
/-- Two neighbours change places. -/
theorem Lg.swap {l : List Sy} {A B : List Int} {x y : Int} (h : Lg l (A ++ x :: y :: B)) : Lg l (A ++ y :: x :: B) ↔ cn l x.toNat y.toNat = false := by
  obtain ⟨h1, h2, h3⟩ := h
  rw [List.pairwise_append, List.pairwise_cons, List.pairwise_cons] at h3
  obtain ⟨hA, ⟨hx, hy, hB⟩, hAB⟩ := h3
  have hxy := hx y (by simp)
  constructor
  · rintro ⟨_, _, g3⟩
    rw [List.pairwise_append, List.pairwise_cons] at g3
    have hyx := g3.2.1.1 x (by simp)
    cases hc : cn l x.toNat y.toNat with
    | false => rfl
    | true =>
      have e1 := hxy.2 hc
      rw [cn_symm] at hc
      have e2 := hyx.2 hc
      omega
  · intro hc
    refine ⟨by simp at h1 ⊢; omega, fun z hz => h2 z (by simp at hz ⊢; rcases hz with h | h | h | h <;> simp [h]), ?_⟩
    rw [List.pairwise_append, List.pairwise_cons, List.pairwise_cons]
    refine ⟨hA, ⟨fun z hz => ?_, fun z hz => hx z (by simp [hz]), hB⟩, fun a ha z hz => hAB a ha z (by simp at hz ⊢; rcases hz with h | h | h <;> simp [h])⟩
    rcases List.mem_cons.1 hz with rfl | hz
    · refine ⟨fun e => hxy.1 e.symm, fun hc' => ?_⟩
      rw [cn_symm, hc] at hc'
      cases hc'
    · exact hy z hz
theorem Lg.twice {l : List Sy} {x : Int} {B : List Int} : ¬ Lg l (x :: x :: B) := fun h => by
  have := (List.pairwise_cons.1 h.2.2).1 x (by simp)
  exact this.1 rfl
theorem Lg.same {l l' : List Sy} {o : List Int} (hl : l.length = l'.length) (hc : ∀ i k, i < l.length → k < l.length → cn l i k = cn l' i k) (h : Lg l o) : Lg l' o := by
  refine ⟨by rw [← hl]; exact h.1, by rw [← hl]; exact h.2.1, List.Pairwise.imp_of_mem (fun {x y} hx hy hxy => ?_) h.2.2⟩
  have h1 := h.2.1 x hx
  have h2 := h.2.1 y hy
  refine ⟨hxy.1, fun hcc => hxy.2 ?_⟩
  rw [hc _ _ (by omega) (by omega)]
  exact hcc
end Go.Proofs.Ythgjdmomcpcolaa
