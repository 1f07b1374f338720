import Derived.Test.YtfbhoemfabgjpaaGreatMgAJ
import Derived.Test.YtfbhoemfabgjpaaGreatMgAF
import Derived.Test.YtfbhoemfabgjpaaGreatWParts
import Derived.Maps.RangeWalk
/-
  World: what a whole world is, and that it stays one.
-/
namespace Go.Proofs.YtfbhoemfabgjpaaGreat
open Go.RowKit
set_option maxRecDepth 100000
theorem nodup_at {α : Type} {l : List α} (hn : l.Nodup) {i j : Nat} (hi : i < l.length) (hj : j < l.length) (h : l[i] = l[j]) : i = j := by
  have hp := List.pairwise_iff_getElem.1 hn
  rcases Nat.lt_trichotomy i j with c | c | c
  · exact absurd h (hp i j hi hj c)
  · exact c
  · exact absurd h.symm (hp j i hj hi c)
theorem mem_rem {α : Type} [Inhabited α] {l : List α} (hn : l.Nodup) {r : Nat} (hr : r < l.length) (e : α) : e ∈ rem l r ↔ e ∈ l ∧ e ≠ l[r] := by
  constructor
  · intro h
    obtain ⟨i, hi, rfl⟩ := List.getElem_of_mem h
    have hi2 := hi
    rw [rem_len] at hi2
    rw [rem_at l r i hr hi]
    by_cases c : i = r
    · rw [if_pos c]
      exact ⟨List.getElem_mem _, fun e => by have := nodup_at hn _ _ e; omega⟩
    · rw [if_neg c]
      exact ⟨List.getElem_mem _, fun e => c (nodup_at hn _ _ e)⟩
  · rintro ⟨h, hne⟩
    obtain ⟨j, hj, rfl⟩ := List.getElem_of_mem h
    have hjr : j ≠ r := fun e => hne (by subst e; rfl)
    by_cases c : j = l.length - 1
    · have hri : r < (rem l r).length := by rw [rem_len]; omega
      have := rem_at l r r hr hri
      rw [if_pos rfl] at this
      subst c
      rw [← this]
      exact List.getElem_mem _
    · have hji : j < (rem l r).length := by rw [rem_len]; omega
      have := rem_at l r j hr hji
      rw [if_neg hjr] at this
      rw [← this]
      exact List.getElem_mem _
theorem rem_nodup {α : Type} [Inhabited α] {l : List α} (hn : l.Nodup) {r : Nat} (hr : r < l.length) : (rem l r).Nodup := by
  refine List.pairwise_iff_getElem.2 (fun i j hi hj hij => ?_)
  have hi2 := hi
  have hj2 := hj
  rw [rem_len] at hi2 hj2
  rw [rem_at l r i hr hi, rem_at l r j hr hj]
  intro e
  by_cases c : i = r
  · rw [if_pos c, if_neg (by omega)] at e
    have := nodup_at hn _ _ e
    omega
  · rw [if_neg c] at e
    by_cases d : j = r
    · rw [if_pos d] at e
      have := nodup_at hn _ _ e
      omega
    · rw [if_neg d] at e
      have := nodup_at hn _ _ e
      omega
/-- A set of some of these kinds. -/
def Sb (ks : List Kind) (s : Nat) : Prop := ∀ k, s.testBit k = true → 1 ≤ k ∧ k ≤ ks.length
/-- A whole world: each is in the table of its set, and nowhere else; a table has as many columns as its set has fields, and a row at least. -/
def Wi (ks : List Kind) (f : Int × Int → Option Nat) (q : Nat → Option Nat) (T : Nat → Ts) : Prop :=
  (∀ e s, f e = some s → s < 8192 ∧ (∃ g, q s = some g) ∧ e ∈ (T s).1) ∧
  ∀ s g, q s = some g → (s < 8192 ∧ Sb ks s) ∧ (T s).2.length = fsum ks s 1 ∧ (T s).1.Nodup ∧ (∀ e ∈ (T s).1, f e = some s) ∧ (T s).1 ≠ [] ∧ ∀ c ∈ (T s).2, c.length = (T s).1.length
section
variable {ks : List Kind} {f : Int × Int → Option Nat} {q : Nat → Option Nat} {T : Nat → Ts}
theorem Wi.start (ks : List Kind) (T : Nat → Ts) : Wi ks (fun _ => none) (fun _ => none) T := ⟨fun _ _ h => (by cases h), fun _ _ h => (by cases h)⟩
theorem addRow_len (cols : List (List Int)) (vals : List Int) : (addRow cols vals).length = cols.length := pcol_len _ _ _
theorem remCols_len (cols : List (List Int)) (row : Nat) : (remCols cols row).length = cols.length := prem_len _ _ _
theorem addRow_at (cols : List (List Int)) (vals : List Int) (j : Nat) (hj : j < cols.length) (hj2 : j < (addRow cols vals).length) : (addRow cols vals)[j] = cols[j] ++ [vals.getD j 0] := (pcol_at cols vals cols.length j hj).trans (if_pos hj)
theorem remCols_at (cols : List (List Int)) (row j : Nat) (hj : j < cols.length) (hj2 : j < (remCols cols row).length) : (remCols cols row)[j] = rem cols[j] row := (prem_at cols row cols.length j hj).trans (if_pos hj)
/-- One goes. -/
theorem Wi.drop (h : Wi ks f q T) {e : Int × Int} {s r : Nat} (hf : f e = some s) (hr : r < (T s).1.length) (hx : (T s).1[r] = e) : Wi ks (fun x => if x = e then none else f x) (lessQ q T s) (lessT T s r) := by
  obtain ⟨h1, h2⟩ := h
  obtain ⟨hs, ⟨g, hg⟩, hm⟩ := h1 e s hf
  obtain ⟨k1, k2, k3, k4, k5, k6⟩ := h2 s g hg
  have hqs : ∀ s' g', lessQ q T s s' = some g' → q s' = some g' ∧ (s' = s → (T s).1.length ≠ 1) := fun s' g' e' => by
    unfold lessQ at e'
    by_cases c : (T s).1.length = 1
    · rw [if_pos c] at e'
      by_cases d : s' = s
      · rw [if_pos d] at e'; cases e'
      · rw [if_neg d] at e'
        exact ⟨e', fun x => absurd x d⟩
    · rw [if_neg c] at e'
      exact ⟨e', fun _ => c⟩
  refine ⟨fun x s' hx' => ?_, fun s' g' hg' => ?_⟩
  · dsimp only at hx' ⊢
    by_cases c : x = e
    · rw [if_pos c] at hx'; cases hx'
    · rw [if_neg c] at hx'
      obtain ⟨m1, ⟨g2, m2⟩, m3⟩ := h1 x s' hx'
      by_cases d : s' = s
      · subst d
        have hne : (T s').1.length ≠ 1 := fun e1 => by
          obtain ⟨j, hj, hjx⟩ := List.getElem_of_mem m3
          obtain rfl : j = r := by omega
          exact c (hjx.symm.trans hx)
        refine ⟨m1, ⟨g2, ?_⟩, ?_⟩
        · unfold lessQ
          rw [if_neg hne]
          exact m2
        · simp only [lessT, if_true]
          exact (mem_rem k3 hr x).2 ⟨m3, fun e' => c (e'.trans hx)⟩
      · refine ⟨m1, ⟨g2, ?_⟩, ?_⟩
        · unfold lessQ
          by_cases c1 : (T s).1.length = 1
          · rw [if_pos c1]
            exact (if_neg d).trans m2
          · rw [if_neg c1]
            exact m2
        · simp only [lessT, if_neg d]
          exact m3
  · obtain ⟨n1, n2⟩ := hqs s' g' hg'
    obtain ⟨m1, m2, m3, m4, m5, m6⟩ := h2 s' g' n1
    by_cases d : s' = s
    · subst d
      simp only [lessT, if_true]
      refine ⟨m1, (remCols_len _ _).trans m2, rem_nodup m3 hr, fun x hx' => ?_, fun e' => ?_, fun c hc => ?_⟩
      · obtain ⟨a1, a2⟩ := (mem_rem m3 hr x).1 hx'
        rw [if_neg (fun e' => a2 (e'.trans hx.symm))]
        exact m4 x a1
      · have := congrArg List.length e'
        rw [rem_len] at this
        have := n2 rfl
        simp at *
        omega
      · obtain ⟨j, hj, rfl⟩ := List.getElem_of_mem hc
        have hj2 := hj
        rw [remCols_len] at hj2
        rw [remCols_at _ _ _ hj2, rem_len, rem_len, m6 _ (List.getElem_mem hj2)]
    · simp only [lessT, if_neg d]
      refine ⟨m1, m2, m3, fun x hx' => ?_, m5, m6⟩
      rw [if_neg (fun e' => ?_)]
      · exact m4 x hx'
      · subst e'
        have := m4 x hx'
        rw [hf] at this
        exact d (Option.some.inj this).symm
/-- One comes. -/
theorem Wi.put (h : Wi ks f q T) {e : Int × Int} {s g : Nat} {vals : List Int} (hf : f e = none) (hs : s < 8192) (hsb : Sb ks s) (hv : vals.length = fsum ks s 1) : Wi ks (fun x => if x = e then some s else f x) (fun x => if x = s then some g else q x) (moreT q T s e vals) := by
  obtain ⟨h1, h2⟩ := h
  have hb : (baseT q T s vals.length).2.length = fsum ks s 1 ∧ (baseT q T s vals.length).1.Nodup ∧ (∀ x ∈ (baseT q T s vals.length).1, f x = some s) ∧ ∀ c ∈ (baseT q T s vals.length).2, c.length = (baseT q T s vals.length).1.length := by
    unfold baseT
    cases hq : q s with
    | none => simp [hv]
    | some g0 =>
      obtain ⟨_, k2, k3, k4, _, k6⟩ := h2 s g0 hq
      simp only [Option.isSome_some, if_true]
      exact ⟨k2, k3, k4, k6⟩
  obtain ⟨b1, b2, b3, b4⟩ := hb
  have hbm : ∀ x s', f x = some s' → s' = s → x ∈ (baseT q T s vals.length).1 := fun x s' hx e' => by
    subst e'
    obtain ⟨_, ⟨g2, m2⟩, m3⟩ := h1 x s' hx
    unfold baseT
    rw [m2]
    simpa using m3
  refine ⟨fun x s' hx' => ?_, fun s' g' hg' => ?_⟩
  · dsimp only at hx' ⊢
    by_cases c : x = e
    · rw [if_pos c] at hx'
      obtain rfl := Option.some.inj hx'
      exact ⟨hs, ⟨g, if_pos rfl⟩, by simp [moreT, c]⟩
    · rw [if_neg c] at hx'
      obtain ⟨m1, ⟨g2, m2⟩, m3⟩ := h1 x s' hx'
      by_cases d : s' = s
      · refine ⟨m1, ⟨g, if_pos d⟩, ?_⟩
        simp only [moreT, if_pos d, List.mem_append]
        exact .inl (hbm x s' hx' d)
      · refine ⟨m1, ⟨g2, (if_neg d).trans m2⟩, ?_⟩
        simp only [moreT, if_neg d]
        exact m3
  · dsimp only at hg' ⊢
    by_cases d : s' = s
    · subst d
      simp only [moreT, if_true]
      refine ⟨⟨hs, hsb⟩, (addRow_len _ _).trans b1, ?_, fun x hx' => ?_, by simp, fun c hc => ?_⟩
      · rw [List.nodup_append]
        refine ⟨b2, by simp, fun x hx' y hy e' => ?_⟩
        simp only [List.mem_singleton] at hy
        have := b3 x hx'
        rw [e', hy, hf] at this
        cases this
      · rcases List.mem_append.1 hx' with c | c
        · by_cases c2 : x = e
          · rw [if_pos c2]
          · rw [if_neg c2]
            exact b3 x c
        · rw [if_pos (List.mem_singleton.1 c)]
      · obtain ⟨j, hj, rfl⟩ := List.getElem_of_mem hc
        have hj2 := hj
        rw [addRow_len] at hj2
        rw [addRow_at _ _ _ hj2, List.length_append, List.length_append, b4 _ (List.getElem_mem hj2)]
        rfl
    · rw [if_neg d] at hg'
      obtain ⟨m1, m2, m3, m4, m5, m6⟩ := h2 s' g' hg'
      simp only [moreT, if_neg d]
      refine ⟨m1, m2, m3, fun x hx' => ?_, m5, m6⟩
      rw [if_neg (fun e' => ?_)]
      · exact m4 x hx'
      · subst e'
        have := m4 x hx'
        rw [hf] at this
        cases this
end
/-! ### Parts that may come -/
theorem bit_or (s k j : Nat) : (s ||| 2 ^ k).testBit j = (s.testBit j || decide (k = j)) := by
  rw [Nat.testBit_or, Nat.testBit_two_pow]
theorem fsum_low : ∀ (ks : List Kind) (s k k0 : Nat), k < k0 → fsum ks (s ||| 2 ^ k) k0 = fsum ks s k0
  | [], _, _, _, _ => rfl
  | kd :: t, s, k, k0, h => by
    simp only [fsum]
    rw [fsum_low t s k (k0 + 1) (by omega), bit_or, decide_eq_false (by omega), Bool.or_false]
theorem fsum_or : ∀ (ks : List Kind) (s k k0 : Nat), s.testBit k = false → k0 ≤ k → k < k0 + ks.length → fsum ks (s ||| 2 ^ k) k0 = fsum ks s k0 + (ks.getD (k - k0) (ByteArray.empty, [])).2.length
  | [], _, _, _, _, h1, h2 => by simp at h2; omega
  | kd :: t, s, k, k0, h0, h1, h2 => by
    simp only [fsum]
    by_cases c : k = k0
    · subst c
      rw [fsum_low t s k (k + 1) (by omega), bit_or, decide_eq_true rfl, Bool.or_true, h0]
      simp
      omega
    · rw [fsum_or t s k (k0 + 1) h0 (by omega) (by simp at h2; omega), bit_or, decide_eq_false c, Bool.or_false]
      have : k - k0 = (k - (k0 + 1)) + 1 := by omega
      rw [this, List.getD_cons_succ]
      omega
def nvals (l : List Pt) : Nat := l.foldl (fun n p => n + p.2.2.1) 0
theorem nvals_add : ∀ (l : List Pt) (n : Nat), l.foldl (fun n p => n + p.2.2.1) n = n + nvals l
  | [], n => rfl
  | p :: t, n => by
    show t.foldl (fun n p => n + p.2.2.1) (n + p.2.2.1) = n + t.foldl (fun n p => n + p.2.2.1) (0 + p.2.2.1)
    rw [nvals_add t (n + p.2.2.1), nvals_add t (0 + p.2.2.1)]
    omega
theorem nvals_cons (p : Pt) (t : List Pt) : nvals (p :: t) = p.2.2.1 + nvals t := by
  show t.foldl (fun n p => n + p.2.2.1) (0 + p.2.2.1) = _
  rw [nvals_add]
  omega
theorem nvals_flat {V : Pt → List Int} : ∀ (l : List Pt), (∀ p ∈ l, (V p).length = p.2.2.1) → (l.flatMap V).length = nvals l
  | [], _ => rfl
  | p :: t, h => by
    rw [List.flatMap_cons, List.length_append, nvals_cons, nvals_flat t (fun x hx => h x (List.mem_cons_of_mem _ hx)), h p (by simp)]
/-- What comes one behind the other: kinds that differ, and as many values as there are fields. -/
theorem come_all (ks : List Kind) : ∀ (l : List Pt) (s : Nat), comeL ks s l = 0 → (∀ p ∈ l, 1 ≤ p.1 ∧ p.1 ≤ (ks.length : Int) ∧ s.testBit p.1.toNat = false ∧ p.2.2.1 = (ks.getD (p.1.toNat - 1) (ByteArray.empty, [])).2.length) ∧ (l.map (fun p => p.1.toNat - 1)).Nodup ∧ fsum ks (l.foldl (fun s p => s ||| 2 ^ p.1.toNat) s) 1 = fsum ks s 1 + nvals l
  | [], s, _ => ⟨fun _ h => (by cases h), List.nodup_nil, rfl⟩
  | p :: t, s, h => by
    unfold comeL at h
    have h0 : comeS ks s p.1 p.2.2.1 = 0 := by
      by_cases c : comeS ks s p.1 p.2.2.1 = 0
      · exact c
      · rw [if_neg c] at h
        exact h
    rw [if_pos h0] at h
    obtain ⟨a1, a2, a3, a4⟩ := comeS_zero h0
    obtain ⟨b1, b2, b3⟩ := come_all ks t _ h
    refine ⟨fun x hx => ?_, ?_, ?_⟩
    · rcases List.mem_cons.1 hx with rfl | hx
      · exact ⟨a1, a2, a3, a4⟩
      · obtain ⟨c1, c2, c3, c4⟩ := b1 x hx
        rw [bit_or] at c3
        simp only [Bool.or_eq_false_iff] at c3
        exact ⟨c1, c2, c3.1, c4⟩
    · rw [List.map_cons, List.nodup_cons]
      refine ⟨fun hm => ?_, b2⟩
      obtain ⟨x, hx, e⟩ := List.mem_map.1 hm
      obtain ⟨c1, c2, c3, c4⟩ := b1 x hx
      rw [bit_or] at c3
      simp only [Bool.or_eq_false_iff, decide_eq_false_iff_not] at c3
      exact c3.2 (by omega)
    · rw [List.foldl_cons, b3, nvals_cons, fsum_or ks s p.1.toNat 1 a3 (by omega) (by omega), a4]
      omega
theorem come_twelve {ks : List Kind} {l : List Pt} (h : comeL ks 0 l = 0) (hk : ks.length ≤ 12) : l.length ≤ 12 ∧ (∀ p ∈ l, 1 ≤ p.1 ∧ p.1 ≤ 12) ∧ fsum ks (setOf l) 1 = nvals l := by
  obtain ⟨h1, h2, h3⟩ := come_all ks l 0 h
  refine ⟨?_, fun p hp => ⟨(h1 p hp).1, by have := (h1 p hp).2.1; omega⟩, ?_⟩
  · have := nodup_len 12 _ h2 (fun x hx => by
      obtain ⟨p, hp, rfl⟩ := List.mem_map.1 hx
      have := h1 p hp
      omega)
    rwa [List.length_map] at this
  · have e : ∀ (ks : List Kind) (k : Nat), fsum ks 0 k = 0 := fun ks => by
      induction ks with
      | nil => intro k; rfl
      | cons a t ih => intro k; simp [fsum, ih]
    show fsum ks (l.foldl (fun s p => s ||| 2 ^ p.1.toNat) 0) 1 = nvals l
    rw [h3, e]
    omega
theorem come_sb {ks : List Kind} {l : List Pt} (h : comeL ks 0 l = 0) : Sb ks (setOf l) := fun k hk => by
  rw [setOf_bit, List.any_eq_true] at hk
  obtain ⟨p, hp, e⟩ := hk
  have := (come_all ks l 0 h).1 p hp
  have := beq_iff_eq.1 e
  omega
/-! ### Parts, as they are told -/
theorem partsL_mem : ∀ (ks : List Kind) (s k0 : Nat) (vals : List Int) (r : Nat × List Int), r ∈ partsL ks s k0 vals → k0 ≤ r.1 ∧ r.1 < k0 + ks.length ∧ s.testBit r.1 = true
  | [], _, _, _, _, h => by cases h
  | kd :: t, s, k0, vals, r, h => by
    unfold partsL at h
    by_cases c : s.testBit k0 = true
    · rw [if_pos c] at h
      rcases List.mem_cons.1 h with rfl | h
      · exact ⟨Nat.le_refl _, by simp, c⟩
      · have := partsL_mem t s (k0 + 1) _ r h
        simp only [List.length_cons]
        exact ⟨by omega, by omega, this.2.2⟩
    · rw [if_neg c] at h
      have := partsL_mem t s (k0 + 1) _ r h
      simp only [List.length_cons]
      exact ⟨by omega, by omega, this.2.2⟩
theorem partsL_all : ∀ (ks : List Kind) (s k0 : Nat) (vals : List Int) (k : Nat), k0 ≤ k → k < k0 + ks.length → s.testBit k = true → ∃ r ∈ partsL ks s k0 vals, r.1 = k
  | [], _, _, _, _, h1, h2, _ => by simp at h2; omega
  | kd :: t, s, k0, vals, k, h1, h2, h3 => by
    unfold partsL
    by_cases e : k = k0
    · subst e
      rw [if_pos h3]
      exact ⟨_, List.mem_cons_self, rfl⟩
    · simp only [List.length_cons] at h2
      by_cases c : s.testBit k0 = true
      · rw [if_pos c]
        obtain ⟨r, hr, e2⟩ := partsL_all t s (k0 + 1) (vals.drop kd.2.length) k (by omega) (by omega) h3
        exact ⟨r, List.mem_cons_of_mem _ hr, e2⟩
      · rw [if_neg c]
        exact partsL_all t s (k0 + 1) vals k (by omega) (by omega) h3
theorem partsL_pair : ∀ (ks : List Kind) (s k0 : Nat) (vals : List Int), (partsL ks s k0 vals).Pairwise (fun x y => x.1 < y.1)
  | [], _, _, _ => List.Pairwise.nil
  | kd :: t, s, k0, vals => by
    unfold partsL
    by_cases c : s.testBit k0 = true
    · rw [if_pos c]
      refine List.Pairwise.cons (fun r hr => ?_) (partsL_pair t s (k0 + 1) _)
      have := (partsL_mem t s (k0 + 1) _ r hr).1
      dsimp only
      omega
    · rw [if_neg c]
      exact partsL_pair t s (k0 + 1) vals
theorem partsL_len : ∀ (ks : List Kind) (s k0 : Nat) (vals : List Int), vals.length = fsum ks s k0 → ∀ r ∈ partsL ks s k0 vals, r.2.length = (ks.getD (r.1 - k0) (ByteArray.empty, [])).2.length
  | [], _, _, _, _, _, h => by cases h
  | kd :: t, s, k0, vals, hv, r, h => by
    unfold partsL at h
    unfold fsum at hv
    by_cases c : s.testBit k0 = true
    · rw [if_pos c] at h hv
      rcases List.mem_cons.1 h with rfl | h
      · simp only [Nat.sub_self, List.getD_cons_zero, List.length_take]
        omega
      · have h1 := partsL_len t s (k0 + 1) _ (by rw [List.length_drop]; omega) r h
        have h2 := (partsL_mem t s (k0 + 1) _ r h).1
        rw [h1, show r.1 - k0 = (r.1 - (k0 + 1)) + 1 by omega, List.getD_cons_succ]
    · rw [if_neg c] at h hv
      have h1 := partsL_len t s (k0 + 1) _ (by omega) r h
      have h2 := (partsL_mem t s (k0 + 1) _ r h).1
      rw [h1, show r.1 - k0 = (r.1 - (k0 + 1)) + 1 by omega, List.getD_cons_succ]
theorem partsL_flat : ∀ (ks : List Kind) (s k0 : Nat) (vals : List Int), vals.length = fsum ks s k0 → (partsL ks s k0 vals).flatMap (·.2) = vals
  | [], _, _, vals, hv => by
    simp [fsum] at hv
    simp [partsL, hv]
  | kd :: t, s, k0, vals, hv => by
    unfold partsL
    unfold fsum at hv
    by_cases c : s.testBit k0 = true
    · rw [if_pos c] at hv ⊢
      rw [List.flatMap_cons, partsL_flat t s (k0 + 1) _ (by rw [List.length_drop]; omega), List.take_append_drop]
    · rw [if_neg c] at hv ⊢
      exact partsL_flat t s (k0 + 1) vals (by omega)
/-- Parts that rise are told as they are. -/
theorem parts_of (V : Pt → List Int) : ∀ (ks : List Kind) (s k0 : Nat) (l : List Pt), (∀ p ∈ l, (k0 : Int) ≤ p.1 ∧ p.1 < ((k0 + ks.length : Nat) : Int) ∧ (V p).length = (ks.getD (p.1.toNat - k0) (ByteArray.empty, [])).2.length) → l.Pairwise (fun x y => x.1 < y.1) → (∀ k, k0 ≤ k → k < k0 + ks.length → (s.testBit k = true ↔ ∃ p ∈ l, p.1.toNat = k)) → partsL ks s k0 (l.flatMap V) = l.map (fun p => (p.1.toNat, V p))
  | [], s, k0, l, h1, _, _ => by
    cases l with
    | nil => rfl
    | cons p t =>
      have := h1 p (by simp)
      simp only [List.length_nil, Nat.add_zero] at this
      omega
  | kd :: t, s, k0, l, h1, h2, h3 => by
    unfold partsL
    by_cases c : s.testBit k0 = true
    · rw [if_pos c]
      obtain ⟨p, hp, hpk⟩ := (h3 k0 (Nat.le_refl _) (by simp)).1 c
      cases l with
      | nil => cases hp
      | cons p0 rest =>
        have hh := List.pairwise_cons.1 h2
        have hp0 : p = p0 := by
          rcases List.mem_cons.1 hp with e | e
          · exact e
          · have a1 := hh.1 p e
            have a2 := h1 p0 (by simp)
            have a3 := h1 p hp
            omega
        subst hp0
        have hl := (h1 p (by simp)).2.2
        rw [hpk, Nat.sub_self, List.getD_cons_zero] at hl
        rw [List.flatMap_cons, ← hl, List.take_left' rfl, List.drop_left' rfl, List.map_cons, hpk]
        congr 1
        refine parts_of V t s (k0 + 1) rest (fun x hx => ?_) hh.2 (fun k k1 k2 => ?_)
        · have a1 := h1 x (List.mem_cons_of_mem _ hx)
          have a2 := hh.1 x hx
          have a3 := h1 p (by simp)
          simp only [List.length_cons] at a1
          refine ⟨by omega, by omega, ?_⟩
          rw [a1.2.2, show x.1.toNat - k0 = (x.1.toNat - (k0 + 1)) + 1 by omega, List.getD_cons_succ]
        · rw [h3 k (by omega) (by simp only [List.length_cons]; omega)]
          constructor
          · rintro ⟨x, hx, e⟩
            rcases List.mem_cons.1 hx with rfl | hx
            · omega
            · exact ⟨x, hx, e⟩
          · rintro ⟨x, hx, e⟩
            exact ⟨x, List.mem_cons_of_mem _ hx, e⟩
    · rw [if_neg c]
      have hne : ∀ p ∈ l, p.1.toNat ≠ k0 := fun p hp e => c ((h3 k0 (Nat.le_refl _) (by simp)).2 ⟨p, hp, e⟩)
      refine parts_of V t s (k0 + 1) l (fun x hx => ?_) h2 (fun k k1 k2 => h3 k (by omega) (by simp only [List.length_cons]; omega))
      have a1 := h1 x hx
      have a2 := hne x hx
      simp only [List.length_cons] at a1
      refine ⟨by omega, by omega, ?_⟩
      rw [a1.2.2, show x.1.toNat - k0 = (x.1.toNat - (k0 + 1)) + 1 by omega, List.getD_cons_succ]
theorem fsum_le : ∀ (ks : List Kind) (s k : Nat), (∀ x ∈ ks, x.2.length ≤ 4) → fsum ks s k ≤ 4 * ks.length
  | [], _, _, _ => Nat.zero_le _
  | a :: t, s, k, h => by
    have h1 := h a (by simp)
    have h2 := fsum_le t s (k + 1) (fun x hx => h x (List.mem_cons_of_mem _ hx))
    simp only [fsum, List.length_cons]
    split <;> omega
end Go.Proofs.YtfbhoemfabgjpaaGreat

/-
  World: slices.SortFunc at rows, laid.
-/
namespace Go.Proofs.YtfbhoemfabgjpaaGreat
open Go.RowKit Go.Shelf Go.Lib Go.Sort
set_option maxRecDepth 100000
def renR : Ren := ⟨fun x => if x = 6 then 55 else if x = 14 then 80 else if x = 15 then 81 else if x = 20 then 98 else if x = 21 then 99 else if x = 22 then 100 else if x = 23 then 101 else if x = 24 then 102 else if x = 25 then 103 else if x = 26 then 104 else if x = 27 then 105 else if x = 28 then 106 else if x = 29 then 74 else if x = 46 then 117 else if x = 47 then 118 else if x = 48 then 119 else if x = 49 then 120 else if x = 50 then 121 else if x = 57 then 133 else x, fun x => if x = 22 then 84 else if x = 24 then 87 else if x = 25 then 122 else if x = 39 then 138 else if x = 45 then 166 else if x = 46 then 167 else if x = 50 then 164 else if x = 53 then 173 else if x = 55 then 113 else if x = 66 then 181 else if x = 70 then 185 else if x = 76 then 194 else if x = 77 then 114 else x, fun x => x⟩
set_option maxHeartbeats 8000000 in
theorem laidR : SlLaysF0.n6 Tryz.prog renR where
  mixed := by kernel_rfl
  f6 := ⟨"slices.SortFunc[[]hindcast/api.Row,hindcast/api.Row]", by decide, by kernel_rfl⟩
  f14 := ⟨"slices.pdqsortCmpFunc[hindcast/api.Row]", by decide, by kernel_rfl⟩
  f15 := by kernel_rfl
  f20 := ⟨"slices.insertionSortCmpFunc[hindcast/api.Row]", by decide, by kernel_rfl⟩
  f21 := ⟨"slices.heapSortCmpFunc[hindcast/api.Row]", by decide, by kernel_rfl⟩
  f22 := ⟨"slices.breakPatternsCmpFunc[hindcast/api.Row]", by decide, by kernel_rfl⟩
  f23 := ⟨"slices.choosePivotCmpFunc[hindcast/api.Row]", by decide, by kernel_rfl⟩
  f24 := ⟨"slices.reverseRangeCmpFunc[hindcast/api.Row]", by decide, by kernel_rfl⟩
  f25 := ⟨"slices.partialInsertionSortCmpFunc[hindcast/api.Row]", by decide, by kernel_rfl⟩
  f26 := ⟨"slices.partitionEqualCmpFunc[hindcast/api.Row]", by decide, by kernel_rfl⟩
  f27 := ⟨"slices.partitionCmpFunc[hindcast/api.Row]", by decide, by kernel_rfl⟩
  f28 := by kernel_rfl
  f29 := by kernel_rfl
  f46 := ⟨"slices.siftDownCmpFunc[hindcast/api.Row]", by decide, by kernel_rfl⟩
  f47 := by kernel_rfl
  f48 := by kernel_rfl
  f49 := ⟨"slices.medianAdjacentCmpFunc[hindcast/api.Row]", by decide, by kernel_rfl⟩
  f50 := ⟨"slices.medianCmpFunc[hindcast/api.Row]", by decide, by kernel_rfl⟩
  f57 := ⟨"slices.order2CmpFunc[hindcast/api.Row]", by decide, by kernel_rfl⟩
  t0 := by kernel_rfl
  a0 := fun w => by kernel_rfl
  z0 := fun w => by kernel_rfl
  v0 := fun w => by kernel_rfl
  t3 := by kernel_rfl
  a3 := fun w => by kernel_rfl
  z3 := fun w => by kernel_rfl
  v3 := fun w => by kernel_rfl
  t4 := by kernel_rfl
  a4 := fun w => by kernel_rfl
  z4 := fun w => by kernel_rfl
  v4 := fun w => by kernel_rfl
  t5 := by kernel_rfl
  a5 := fun w => by kernel_rfl
  z5 := fun w => by kernel_rfl
  v5 := fun w => by kernel_rfl
  t9 := by kernel_rfl
  a9 := fun w => by kernel_rfl
  z9 := fun w => by kernel_rfl
  v9 := fun w => by kernel_rfl
  t22 := by kernel_rfl
  a22 := fun w => by kernel_rfl
  z22 := fun w => by kernel_rfl
  v22 := fun w => by kernel_rfl
  t25 := by kernel_rfl
  a25 := fun w => by kernel_rfl
  z25 := fun w => by kernel_rfl
  v25 := fun w => by kernel_rfl
  t39 := by kernel_rfl
  a39 := fun w => by kernel_rfl
  z39 := fun w => by kernel_rfl
  v39 := fun w => by kernel_rfl
  t45 := by kernel_rfl
  a45 := fun w => by kernel_rfl
  z45 := fun w => by kernel_rfl
  v45 := fun w => by kernel_rfl
  t46 := by kernel_rfl
  a46 := fun w => by kernel_rfl
  z46 := fun w => by kernel_rfl
  v46 := fun w => by kernel_rfl
  t50 := by kernel_rfl
  a50 := fun w => by kernel_rfl
  z50 := fun w => by kernel_rfl
  v50 := fun w => by kernel_rfl
  t53 := by kernel_rfl
  a53 := fun w => by kernel_rfl
  z53 := fun w => by kernel_rfl
  v53 := fun w => by kernel_rfl
  t55 := by kernel_rfl
  a55 := fun w => by kernel_rfl
  z55 := fun w => by kernel_rfl
  v55 := fun w => by kernel_rfl
  t66 := by kernel_rfl
  a66 := fun w => by kernel_rfl
  z66 := fun w => by kernel_rfl
  v66 := fun w => by kernel_rfl
  t70 := by kernel_rfl
  a70 := fun w => by kernel_rfl
  z70 := fun w => by kernel_rfl
  v70 := fun w => by kernel_rfl
  t76 := by kernel_rfl
  a76 := fun w => by kernel_rfl
  z76 := fun w => by kernel_rfl
  v76 := fun w => by kernel_rfl
  t77 := by kernel_rfl
  a77 := fun w => by kernel_rfl
  z77 := fun w => by kernel_rfl
  v77 := fun w => by kernel_rfl
end Go.Proofs.YtfbhoemfabgjpaaGreat

/-
  World: ranging over the map of sets.
-/
namespace Go.Proofs.YtfbhoemfabgjpaaGreat
open Go.RowKit
set_option maxRecDepth 100000
theorem wf_in {x : Int} (h : (Lit.int .i64 x).wf = true) : -9223372036854775808 ≤ x ∧ x ≤ 9223372036854775807 := by
  simp [Lit.wf, IntKind.min, IntKind.max, IntKind.signed, IntKind.bits] at h
  exact h
theorem key_inv {v : Value} {kl : Lit} (h : keyOf Tryz.prog 34 v = some kl) : ∃ e : Int × Int, v = evz e ∧ InB e := by
  have hk : Tryz.prog.keyType 34 = true := by kernel_rfl
  have hc : Tryz.prog.cellsOf 34 = 2 := by kernel_rfl
  have hc3 : Tryz.prog.cellsOf 3 = 1 := by kernel_rfl
  obtain ⟨d, hd⟩ : ∃ d, Tryz.prog.types.size + 1 = d + 2 := ⟨215, by kernel_rfl⟩
  unfold keyOf at h
  rw [Tryz.underlying34] at h
  simp only [hk, Bool.true_and] at h
  split at h
  · rename_i hf
    rw [Option.map_eq_some_iff] at h
    obtain ⟨ls, hl, -⟩ := h
    rw [hd] at hl
    have hv : ∃ x y, v = .agg #[x, y] := by
      unfold Value.formed at hf
      rw [Tryz.underlying34] at hf
      split at hf
      · rename_i cs
        simp only [hc, beq_iff_eq] at hf
        obtain ⟨l⟩ := cs
        match l, hf with
        | [x, y], _ => exact ⟨x, y, rfl⟩
      · cases hf
      · cases hf
    obtain ⟨x, y, rfl⟩ := hv
    have key : ∀ (z : Value) (l : List Lit), Tryz.prog.keyLits (d + 1) 3 [z] = some l → ∃ a, z = .int .i64 a ∧ (Lit.int .i64 a).wf = true := by
      intro z l hz
      cases z <;> simp [Program.keyLits, Tryz.underlying3] at hz
      rename_i q n
      obtain ⟨⟨rfl, h2⟩, -⟩ := hz
      exact ⟨n, rfl, h2⟩
    unfold Program.keyLits at hl
    rw [Tryz.underlying34] at hl
    generalize hG : Tryz.prog.keyLits (d + 1) = G at *
    simp [Value.cells, hc, hc3, List.mapM_cons] at hl
    cases hx : G 3 [x] with
    | none => rw [hx] at hl; simp at hl
    | some lx =>
      cases hy : G 3 [y] with
      | none => rw [hx, hy] at hl; simp at hl
      | some ly =>
        obtain ⟨a, rfl, ha⟩ := key x lx hx
        obtain ⟨b, rfl, hb⟩ := key y ly hy
        exact ⟨(a, b), rfl, wf_in ha, wf_in hb⟩
  · cases h
/-- A range over a map of entities under way: E: who came. -/
def Rg (w : World) (gm r n : Nat) (f : Int × Int → Option Nat) (E : List (Int × Int)) (cnt : Nat) : Prop :=
  ∃ (D : DataW Unit) (left : Lit → Bool), w.ranges Tryz.prog 34 (plainElem Tryz.prog 3) gm r n D left cnt ∧ E.Nodup ∧ (∀ e ∈ E, InB e ∧ (f e).isSome = true) ∧ ∀ e, InB e → ∀ kl, keyOf Tryz.prog 34 (evz e) = some kl → (left kl = true ↔ (f e).isSome = true ∧ e ∉ E)
section
variable {w w' : World} {gm r n cnt : Nat} {f : Int × Int → Option Nat} {E : List (Int × Int)}
theorem Rg.kept {row : Option Nat} (h : Rg w gm r n f E cnt) (hg : w.grownBy w' row) (h1 : some gm ≠ row) (h2 : some r ≠ row) : Rg w' gm r n f E cnt := by
  obtain ⟨D, left, a1, a2⟩ := h
  exact ⟨D, left, a1.kept hg h1 h2, a2⟩
theorem Rg.later (h : Rg w gm r n f E cnt) (hb : Below w.heap.size w w') : Rg w' gm r n f E cnt := h.kept (grown_later hb) (by simp) (by simp)
theorem Rg.left_eq (h : Rg w gm r n f E cnt) : w.rangeLeft gm r = cnt := by
  obtain ⟨D, left, a1, a2⟩ := h
  exact a1.left_eq
theorem Rg.start {D : DataW Unit} (h2 : ∀ e, InB e → ∀ kl, keyOf Tryz.prog 34 (evz e) = some kl → Maps.has D kl = (f e).isSome ∧ ∀ i, f e = some i → D.atKey kl (.lit (.int .i64 0)) = .lit (.int .i64 (i : Int))) (hr : w'.ranges Tryz.prog 34 (plainElem Tryz.prog 3) gm r n D (Maps.has D) (Maps.size D)) : Rg w' gm r n f [] (Maps.size D) :=
  ⟨D, _, hr, List.nodup_nil, fun e h => (by cases h), fun e he kl hk => (by rw [(h2 e he kl hk).1]; simp)⟩
theorem Rg.done (h : Rg w gm r n f E cnt) (hl : cnt = 0) : ∀ e, InB e → (f e).isSome = true → e ∈ E := by
  obtain ⟨D, left, a1, -, -, a4⟩ := h
  rcases a1.next keyed32 0 with ⟨_, b2, _⟩ | ⟨key, v, kl, y, w', cnt', _, _, _, _, _, _, c7, _⟩
  · intro e he hf
    obtain ⟨kl, hkl⟩ := key_of e he
    by_cases c : e ∈ E
    · exact c
    · have := (a4 e he kl hkl).2 ⟨hf, c⟩
      rw [b2 kl] at this
      cases this
  · omega
/-- The next one: nobody is left, or one comes. -/
theorem Rg.next (h : Rg w gm r n f E cnt) (ty : TypeId) :
    (cnt = 0 ∧ (Instr.next (.pointer (some ⟨r, 0, none⟩)) false ty).run Tryz.prog w = .ok (.tuple #[.bool false]) w) ∨
    ∃ (a b c : Int) (w' : World) (cnt' : Nat), InB (a, b) ∧ (f (a, b)).isSome = true ∧ (a, b) ∉ E ∧ (Instr.next (.pointer (some ⟨r, 0, none⟩)) false ty).run Tryz.prog w = .ok (.tuple #[.bool true, .agg #[.int .i64 a, .int .i64 b], .int .i64 c]) w' ∧ Rg w' gm r n f (E ++ [(a, b)]) cnt' ∧ cnt' < cnt ∧ w.grownBy w' (some r) ∧ w'.heap.size = w.heap.size ∧ (Instr.entry (.pointer (some ⟨r, 0, none⟩))).run Tryz.prog w' = .ok (.tuple #[.agg #[.int .i64 a, .int .i64 b], .int .i64 c]) w' := by
  obtain ⟨D, left, a1, a2, a3, a4⟩ := h
  rcases a1.next keyed32 ty with ⟨b1, b2, b3⟩ | ⟨key, v, kl, y, w', cnt', c1, c2, c3, c4, c5, c6, c7, c8, c9, c10⟩
  · exact .inl ⟨b1, b3⟩
  · obtain ⟨⟨a, b⟩, rfl, hin⟩ := key_inv c1
    obtain ⟨c, rfl, -⟩ := plainElem_int_inv Tryz.underlying3 c3
    have h1 := (a4 _ hin kl c1).1 c2
    refine .inr ⟨a, b, c, w', cnt', hin, h1.1, h1.2, c5, ⟨D, _, c6, ?_, fun e he => ?_, fun e he kx hkx => ?_⟩, c7, c8, c9, c10⟩
    · rw [List.nodup_append]
      refine ⟨a2, by simp, fun x hx y hy e => ?_⟩
      simp only [List.mem_singleton] at hy
      subst e
      exact h1.2 (hy ▸ hx)
    · rcases List.mem_append.1 he with he | he
      · exact a3 e he
      · rw [List.mem_singleton.1 he]
        exact ⟨hin, h1.1⟩
    · have hk : (kx.sameKey kl = true) ↔ e = (a, b) := by
        rw [WideAt.sameKey_iff (keyed32.key c1)]
        constructor
        · intro e'
          subst e'
          exact evz_inj (keyed32.inj hkx c1)
        · intro e'
          subst e'
          rw [hkx] at c1
          exact Option.some.inj c1
      have h4 := a4 e he kx hkx
      simp only [Bool.and_eq_true, Bool.not_eq_true', List.mem_append, List.mem_singleton, not_or]
      rw [← Bool.not_eq_true, hk, h4]
      exact ⟨fun h => ⟨h.1.1, h.1.2, h.2⟩, fun h => ⟨⟨h.1, h.2.1⟩, h.2.2⟩⟩
end
end Go.Proofs.YtfbhoemfabgjpaaGreat

/-
  World: Row.
-/
namespace Go.Proofs.YtfbhoemfabgjpaaGreat
open Go.RowKit
set_option maxRecDepth 100000
section
variable {w w' : World} {own : Nat → Nat} {gw gp gm gt M M' : Nat} {vk : Value} {ks : List Kind} {gs fr gs' fr' : List Nat} {f f' : Int × Int → Option Nat} {q q' : Nat → Option Nat} {T T' : Nat → Ts}
theorem row_cells {w W : World} {kr : Nat} (h : w.heap[kr]? = some (.cells #[.int .i64 0, .int .i64 0, .slice none 0 0] 87 (0, 0))) (hb : Below w.heap.size w W) : (W.cell? ⟨kr, 0, none⟩ = some (.int .i64 0) ∧ W.cell? ⟨kr, 1, none⟩ = some (.int .i64 0) ∧ W.cell? ⟨kr, 2, none⟩ = some (.slice none 0 0)) ∧ W.frozen? ⟨kr, 0, none⟩ = false ∧ W.frozen? ⟨kr, 1, none⟩ = false ∧ W.frozen? ⟨kr, 2, none⟩ = false := by
  have hx := (hb.block kr (lt_of_block h)).trans h
  refine ⟨⟨?_, ?_, ?_⟩, frozen_of_row W kr 0 _ 87 hx, frozen_of_row W kr 1 _ 87 hx, frozen_of_row W kr 2 _ 87 hx⟩ <;> rw [cell_of_row W kr _ _ 87 (0, 0) hx] <;> rfl
theorem row_end {w w5 W' : World} {B kr n c : Nat} {a5 : Option Addr} {L : List Pt} {R : List (Nat × List Int)} (hg : w5.grownBy W' (some kr)) (ho : w5.ownsRow B 51 2 (.slice a5 L.length c) L.length (pz L)) (hv : Pv B w5 L R) (hb : Below w.heap.size w w5) (hB : w.heap.size ≤ B) (hk : w.heap.size ≤ kr) (hkn : kr < n) (hn : n ≤ B) : (W'.ownsRow w.heap.size 51 2 (.slice a5 L.length c) L.length (pz L) ∧ Pv w.heap.size W' L R) ∧ Below w.heap.size w W' := by
  refine ⟨⟨own_lower (own_kept ho hg (fun j e e2 => by have := (ho.lt j e).1; have := Option.some.inj e2; omega)) hB, ?_⟩, hb.grown hg hb.size (fun j e => by have := Option.some.inj e; omega)⟩
  have h2 := hv.grown hg (fun p hp j e e2 => by
    obtain ⟨m, hm, rfl⟩ := List.getElem_of_mem hp
    have := ((hv.2 m hm (by rw [← hv.1]; exact hm)).2.lt j e).1
    have := Option.some.inj e2
    omega)
  exact ⟨h2.1, fun i h1 h3 => ⟨(h2.2 i h1 h3).1, own_lower (h2.2 i h1 h3).2 hB⟩⟩
end
end Go.Proofs.YtfbhoemfabgjpaaGreat
