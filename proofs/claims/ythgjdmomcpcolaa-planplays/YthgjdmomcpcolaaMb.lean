/-
  Plan, plain: who is left of some in a row, as a tree of counts.
-/
import Derived.Test.YthgjdmomcpcolaaMa
namespace Go.Proofs.Ythgjdmomcpcolaa
/-- How many of pl lie from a up to b. -/
def cnt (pl : List Nat) (a b : Nat) : Nat := pl.countP fun x => decide (a ≤ x) && decide (x < b)
theorem cnt_split (pl : List Nat) {a b c : Nat} (h1 : a ≤ b) (h2 : b ≤ c) : cnt pl a c = cnt pl a b + cnt pl b c := by
  induction pl with
  | nil => rfl
  | cons x t ih =>
    simp only [cnt, List.countP_cons] at ih ⊢
    rw [ih]
    by_cases e1 : a ≤ x <;> by_cases e2 : x < b <;> by_cases e3 : b ≤ x <;> by_cases e4 : x < c <;> simp [e1, e2, e3, e4] <;> omega
theorem countP_erase {α : Type} (p : α → Bool) : ∀ (l : List α) (i : Nat) (h : i < l.length), l.countP p = (l.eraseIdx i).countP p + if p l[i] then 1 else 0
  | x :: t, 0, _ => by simp [List.countP_cons]
  | x :: t, i + 1, h => by
    have := countP_erase p t i (by simpa using h)
    simp only [List.eraseIdx_cons_succ, List.countP_cons, List.getElem_cons_succ]
    omega
/-- In a rising row: how many are below. -/
theorem cnt_below : ∀ (pl : List Nat), pl.Pairwise (· < ·) → ∀ (i : Nat) (h : i < pl.length) (b : Nat), cnt pl 0 b ≤ i ↔ b ≤ pl[i]
  | x :: t, hp, 0, _, b => by
    simp only [List.getElem_cons_zero, cnt, List.countP_cons]
    have hx : ∀ y ∈ t, x < y := (List.pairwise_cons.1 hp).1
    constructor
    · intro h
      by_cases c : x < b
      · simp [c] at h
      · omega
    · intro h
      have e : t.countP (fun x => decide (0 ≤ x) && decide (x < b)) = 0 := by
        rw [List.countP_eq_zero]
        intro y hy
        have := hx y hy
        simp
        omega
      rw [e]
      simp
      omega
  | x :: t, hp, i + 1, h, b => by
    have ih := cnt_below t (List.pairwise_cons.1 hp).2 i (by simpa using h) b
    have hx : ∀ y ∈ t, x < y := (List.pairwise_cons.1 hp).1
    simp only [List.getElem_cons_succ]
    have hlt : x < t[i]'(by simpa using h) := hx _ (List.getElem_mem _)
    have e : cnt (x :: t) 0 b = cnt t 0 b + if x < b then 1 else 0 := by simp [cnt, List.countP_cons]
    rw [e]
    by_cases c : x < b
    · rw [if_pos c]
      omega
    · rw [if_neg c]
      have : cnt t 0 b = 0 := by
        unfold cnt
        rw [List.countP_eq_zero]
        intro y hy
        have := hx y hy
        simp
        omega
      omega
/-- The tree of counts, above the level e with p taken. -/
def FwX (l : List Int) (n : Nat) (pl : List Nat) (p e : Nat) : Prop :=
  l.length = n + 1 ∧ ∀ e' q, (2 * q + 1) * 2 ^ e' ≤ n → l[(2 * q + 1) * 2 ^ e']? = some ((cnt pl (2 * q * 2 ^ e') ((2 * q + 1) * 2 ^ e') : Int) - if e ≤ e' ∧ 2 * q * 2 ^ e' ≤ p ∧ p < (2 * q + 1) * 2 ^ e' then 1 else 0)
def Fw (l : List Int) (n : Nat) (pl : List Nat) : Prop :=
  l.length = n + 1 ∧ ∀ e' q, (2 * q + 1) * 2 ^ e' ≤ n → l[(2 * q + 1) * 2 ^ e']? = some (cnt pl (2 * q * 2 ^ e') ((2 * q + 1) * 2 ^ e') : Int)
theorem odd_pow_inj {q q' e e' : Nat} (h : (2 * q + 1) * 2 ^ e = (2 * q' + 1) * 2 ^ e') : e = e' ∧ q = q' := by
  induction e generalizing e' with
  | zero =>
    cases e' with
    | zero => simp at h; omega
    | succ e' =>
      rw [Nat.pow_succ, Nat.pow_zero, Nat.mul_one, ← Nat.mul_assoc] at h
      omega
  | succ e ih =>
    cases e' with
    | zero =>
      rw [Nat.pow_succ, Nat.pow_zero, Nat.mul_one, ← Nat.mul_assoc] at h
      omega
    | succ e' =>
      rw [Nat.pow_succ, Nat.pow_succ, ← Nat.mul_assoc, ← Nat.mul_assoc] at h
      have := ih (e' := e') (by omega)
      omega
/-- On the way down, at the level e: what is left of the search for the i-th. -/
def TP (n : Nat) (pl : List Nat) (i e : Nat) (l : List Int) (a : Nat) (k : Int) : Prop :=
  ∃ (hi : i < pl.length) (q : Nat), a = q * 2 ^ e ∧ a ≤ pl[i] ∧ pl[i] < a + 2 ^ e ∧ pl[i] < n ∧ k = (i : Int) - cnt pl 0 a ∧ FwX l n pl pl[i] e
theorem TP.step {n : Nat} {pl : List Nat} {i e : Nat} {l : List Int} {a : Nat} {k : Int} (h : TP n pl i (e + 1) l a k) (hp : pl.Pairwise (· < ·)) :
    (n + 1 ≤ a + 2 ^ e → TP n pl i e l a k) ∧ (a + 2 ^ e ≤ n → l[a + 2 ^ e]? = some (cnt pl a (a + 2 ^ e) : Int) ∧ ((cnt pl a (a + 2 ^ e) : Int) ≤ k → TP n pl i e l (a + 2 ^ e) (k - cnt pl a (a + 2 ^ e))) ∧ (¬ (cnt pl a (a + 2 ^ e) : Int) ≤ k → TP n pl i e (l.set (a + 2 ^ e) ((cnt pl a (a + 2 ^ e) : Int) - 1)) a k)) := by
  obtain ⟨hi, q, h1, h2, h3, h3n, h4, h5⟩ := h
  have ea : a = 2 * q * 2 ^ e := by rw [h1, Nat.pow_succ, Nat.mul_comm (2 ^ e) 2, ← Nat.mul_assoc, Nat.mul_comm q 2]
  have eb : a + 2 ^ e = (2 * q + 1) * 2 ^ e := by rw [ea, Nat.add_mul, Nat.one_mul]
  have e3 : a + 2 ^ (e + 1) = a + 2 ^ e + 2 ^ e := by rw [Nat.pow_succ]; omega
  rw [e3] at h3
  have hpos : 0 < 2 ^ e := Nat.two_pow_pos e
  -- no other node of this level holds it
  have hoth : ∀ q', 2 * q' * 2 ^ e ≤ pl[i] → pl[i] < (2 * q' + 1) * 2 ^ e → q' = q := fun q' g1 g2 => by
    rw [Nat.add_mul, Nat.one_mul] at g2
    rw [ea] at h2 h3
    have k1 : 2 * q' < 2 * q + 2 := by
      apply Nat.lt_of_mul_lt_mul_right (a := 2 ^ e)
      have : (2 * q + 2) * 2 ^ e = 2 * q * 2 ^ e + 2 ^ e + 2 ^ e := by rw [Nat.add_mul]; omega
      omega
    have k2 : 2 * q < 2 * q' + 1 := by
      apply Nat.lt_of_mul_lt_mul_right (a := 2 ^ e)
      have : (2 * q' + 1) * 2 ^ e = 2 * q' * 2 ^ e + 2 ^ e := by rw [Nat.add_mul]; omega
      omega
    omega
  have lower : ∀ (l' : List Int), l'.length = n + 1 → (∀ e' q', (2 * q' + 1) * 2 ^ e' ≤ n → ¬ (e' = e ∧ q' = q) → l'[(2 * q' + 1) * 2 ^ e']? = l[(2 * q' + 1) * 2 ^ e']?) → ((2 * q + 1) * 2 ^ e ≤ n → l'[(2 * q + 1) * 2 ^ e]? = some ((cnt pl (2 * q * 2 ^ e) ((2 * q + 1) * 2 ^ e) : Int) - if pl[i] < (2 * q + 1) * 2 ^ e then 1 else 0)) → FwX l' n pl pl[i] e := fun l' g1 g2 g3 => by
    refine ⟨g1, fun e' q' hn => ?_⟩
    by_cases c : e' = e ∧ q' = q
    · obtain ⟨rfl, rfl⟩ := c
      rw [g3 hn]
      have : (e' ≤ e' ∧ 2 * q' * 2 ^ e' ≤ pl[i] ∧ pl[i] < (2 * q' + 1) * 2 ^ e') ↔ pl[i] < (2 * q' + 1) * 2 ^ e' := ⟨fun h => h.2.2, fun h => ⟨Nat.le_refl _, by omega, h⟩⟩
      simp only [this]
    · rw [g2 e' q' hn c, h5.2 e' q' hn]
      have : (e + 1 ≤ e' ∧ 2 * q' * 2 ^ e' ≤ pl[i] ∧ pl[i] < (2 * q' + 1) * 2 ^ e') ↔ (e ≤ e' ∧ 2 * q' * 2 ^ e' ≤ pl[i] ∧ pl[i] < (2 * q' + 1) * 2 ^ e') := by
        constructor
        · exact fun h => ⟨by omega, h.2⟩
        · rintro ⟨m1, m2, m3⟩
          refine ⟨?_, m2, m3⟩
          rcases Nat.lt_or_ge e e' with h | h
          · exact h
          · have : e' = e := by omega
            subst this
            exact absurd ⟨rfl, hoth q' m2 m3⟩ c
      simp only [this]
  refine ⟨fun c1 => ?_, fun c1 => ?_⟩
  · exact ⟨hi, 2 * q, ea, h2, by omega, h3n, h4, lower l h5.1 (fun _ _ _ _ => rfl) (fun hn => by omega)⟩
  · have hn : (2 * q + 1) * 2 ^ e ≤ n := by omega
    have hd := h5.2 e q hn
    have hno : ¬ (e + 1 ≤ e ∧ 2 * q * 2 ^ e ≤ pl[i] ∧ pl[i] < (2 * q + 1) * 2 ^ e) := fun h => by omega
    rw [if_neg hno, Int.sub_zero] at hd
    have hs := cnt_split pl (Nat.zero_le a) (Nat.le_add_right a (2 ^ e))
    have hb := cnt_below pl hp i hi (a + 2 ^ e)
    refine ⟨by rw [eb, hd, ← eb, ← ea], fun c2 => ?_, fun c2 => ?_⟩
    · have hle : a + 2 ^ e ≤ pl[i] := hb.1 (by omega)
      refine ⟨hi, 2 * q + 1, eb, hle, h3, h3n, by omega, lower l h5.1 (fun _ _ _ _ => rfl) (fun _ => ?_)⟩
      rw [hd, if_neg (by omega), Int.sub_zero]
    · have hlt : pl[i] < a + 2 ^ e := by
        rcases Nat.lt_or_ge pl[i] (a + 2 ^ e) with h | h
        · exact h
        · have := hb.2 h; omega
      refine ⟨hi, 2 * q, ea, h2, hlt, h3n, h4, lower _ (by rw [List.length_set]; exact h5.1) (fun e' q' _ hne => ?_) (fun hn2 => ?_)⟩
      · rw [eb, List.getElem?_set_ne]
        exact fun h => hne (by have := odd_pow_inj h; exact ⟨this.1.symm, this.2.symm⟩)
      · rw [eb, List.getElem?_set_self (by rw [h5.1]; omega), if_pos (by omega), ← eb, ← ea]
theorem cnt_range (n a b : Nat) (h : a ≤ b) (hb : b ≤ n) : cnt (List.range n) a b = b - a := by
  induction n with
  | zero => simp [cnt]; omega
  | succ n ih =>
    have e : cnt (List.range (n + 1)) a b = cnt (List.range n) a b + if a ≤ n ∧ n < b then 1 else 0 := by
      simp [cnt, List.range_succ, List.countP_append, List.countP_cons]
    rw [e]
    by_cases c : b ≤ n
    · rw [ih c, if_neg (by omega)]; omega
    · have hb' : b = n + 1 := by omega
      subst hb'
      have e2 : cnt (List.range n) a (n + 1) = cnt (List.range n) a n := by
        unfold cnt
        apply List.countP_congr
        intro x hx
        have := List.mem_range.1 hx
        simp
        omega
      rw [e2]
      by_cases c2 : a ≤ n
      · have : cnt (List.range n) a n = n - a := by
          by_cases c3 : a ≤ n
          · exact (by
              have := ih
              clear ih
              have h9 : ∀ m, a ≤ m → m ≤ n → cnt (List.range m) a m = m - a := fun m => by
                induction m with
                | zero => intro _ _; simp [cnt]
                | succ m ihm =>
                  intro g1 g2
                  have e : cnt (List.range (m + 1)) a (m + 1) = cnt (List.range m) a (m + 1) + if a ≤ m then 1 else 0 := by
                    simp [cnt, List.range_succ, List.countP_append, List.countP_cons]
                  have e2 : cnt (List.range m) a (m + 1) = cnt (List.range m) a m := by
                    unfold cnt
                    apply List.countP_congr
                    intro x hx
                    have := List.mem_range.1 hx
                    simp
                    omega
                  rw [e, e2]
                  by_cases g3 : a ≤ m
                  · rw [ihm g3 (by omega), if_pos g3]; omega
                  · rw [if_neg g3]
                    have : cnt (List.range m) a m = 0 := by
                      unfold cnt
                      rw [List.countP_eq_zero]
                      intro x hx
                      have := List.mem_range.1 hx
                      simp
                      omega
                    omega
              exact h9 n c3 (Nat.le_refl _))
          · omega
        rw [this, if_pos ⟨c2, by omega⟩]; omega
      · rw [if_neg (by omega)]
        have : cnt (List.range n) a n = 0 := by
          unfold cnt
          rw [List.countP_eq_zero]
          intro x hx
          have := List.mem_range.1 hx
          simp
          omega
        omega
/-- All are left. -/
theorem Fw.all (n : Nat) (l : List Int) (h : l.length = n + 1) (hl : ∀ e q, (2 * q + 1) * 2 ^ e ≤ n → l[(2 * q + 1) * 2 ^ e]? = some ((2 ^ e : Nat) : Int)) : Fw l n (List.range n) := by
  refine ⟨h, fun e q hn => ?_⟩
  have : (2 * q + 1) * 2 ^ e = 2 * q * 2 ^ e + 2 ^ e := by rw [Nat.add_mul, Nat.one_mul]
  have hpos : 0 < 2 ^ e := Nat.two_pow_pos e
  rw [hl e q hn, cnt_range n _ _ (by omega) hn, show (2 * q + 1) * 2 ^ e - 2 * q * 2 ^ e = 2 ^ e by omega]
/-- The way down begins. -/
theorem Fw.begin {l : List Int} {n : Nat} {pl : List Nat} (h : Fw l n pl) (i : Nat) (hi : i < pl.length) (hb : ∀ x ∈ pl, x < n) (E : Nat) (hE : n < 2 ^ E) : TP n pl i E l 0 i := by
  have hx := hb _ (List.getElem_mem hi)
  refine ⟨hi, 0, by simp, Nat.zero_le _, by omega, hx, ?_, h.1, fun e q hn => ?_⟩
  · have : cnt pl 0 0 = 0 := by simp [cnt]
    omega
  · rw [h.2 e q hn, if_neg]
    · simp
    · rintro ⟨h1, h2, h3⟩
      have hE2 : 2 ^ E ≤ 2 ^ e := Nat.pow_le_pow_right (by omega) h1
      have h4 : 2 ^ e ≤ (2 * q + 1) * 2 ^ e := Nat.le_mul_of_pos_left _ (by omega)
      omega
/-- One is taken. -/
theorem TP.done {n : Nat} {pl : List Nat} {i : Nat} {l : List Int} {a : Nat} {k : Int} (h : TP n pl i 0 l a k) : ∃ hi : i < pl.length, a = pl[i] ∧ Fw l n (pl.eraseIdx i) := by
  obtain ⟨hi, q, h1, h2, h3, h3n, h4, h5⟩ := h
  rw [Nat.pow_zero] at h3
  refine ⟨hi, by omega, h5.1, fun e q hn => ?_⟩
  rw [h5.2 e q hn]
  have this := countP_erase (fun x => decide (2 * q * 2 ^ e ≤ x) && decide (x < (2 * q + 1) * 2 ^ e)) pl i hi
  by_cases c : 2 * q * 2 ^ e ≤ pl[i] ∧ pl[i] < (2 * q + 1) * 2 ^ e
  · rw [if_pos ⟨Nat.zero_le _, c.1, c.2⟩]
    rw [if_pos (by simp [c.1, c.2])] at this
    unfold cnt
    rw [this]
    congr 1
    omega
  · rw [if_neg (fun h => c h.2)]
    have hn : (decide (2 * q * 2 ^ e ≤ pl[i]) && decide (pl[i] < (2 * q + 1) * 2 ^ e)) = false := by
      rw [Bool.eq_false_iff]
      intro h
      simp only [Bool.and_eq_true, decide_eq_true_eq] at h
      exact c h
    rw [if_neg (by rw [hn]; simp)] at this
    unfold cnt
    rw [this]
    simp
end Go.Proofs.Ythgjdmomcpcolaa
