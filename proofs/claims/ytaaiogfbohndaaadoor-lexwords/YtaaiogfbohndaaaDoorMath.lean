import Derived.Lib.Strings
namespace Go.Proofs.YtaaiogfbohndaaaDoor

def isBl (c : Nat) : Bool := c == 32 || c == 9 || c == 10 || c == 13
def isLe (c : Nat) : Bool := (decide (65 ≤ c) && decide (c ≤ 90)) || (decide (97 ≤ c) && decide (c ≤ 122))
def isDi (c : Nat) : Bool := decide (48 ≤ c) && decide (c ≤ 57)
def isWo (c : Nat) : Bool := isLe c || isDi c || c == 95

/-- The first place from i on at which p does not hold, at most k further on. -/
def runE (p : Nat → Bool) : Nat → Nat → Nat
  | 0, i => i
  | k + 1, i => if p i then runE p k (i + 1) else i

/-- Behind the first star and stroke from i on. -/
def remE (f : Nat → Nat) : Nat → Nat → Option Nat
  | 0, _ => none
  | k + 1, i => if f i == 42 && f (i + 1) == 47 then some (i + 2) else remE f k (i + 1)

/-- What k digits from i on are worth, behind acc. -/
def numW (f : Nat → Nat) : Nat → Nat → Nat → Nat
  | 0, acc, _ => acc
  | k + 1, acc, i => numW f k (acc * 10 + (f i - 48)) (i + 1)
def numV (f : Nat → Nat) (acc k i : Nat) : Nat := numW f k acc i
theorem numV_zero (f : Nat → Nat) (acc i : Nat) : numV f acc 0 i = acc := by unfold numV numW; rfl
theorem numV_succ (f : Nat → Nat) (acc k i : Nat) : numV f acc (k + 1) i = numV f (acc * 10 + (f i - 48)) k (i + 1) := by
  unfold numV
  rw [numW]

def numOk (f : Nat → Nat) (a e : Nat) : Bool := (e == a + 1 || f a != 48) && decide (numV f 0 (e - a) a < 9223372036854775808)

def two (c d : Nat) : Bool := (c == 61 && d == 61) || (c == 33 && d == 61) || (c == 60 && d == 61) || (c == 62 && d == 61) || (c == 38 && d == 38) || (c == 124 && d == 124)
def one (c : Nat) : Bool := c == 43 || c == 45 || c == 42 || c == 47 || c == 37 || c == 60 || c == 62 || c == 33 || c == 61 || c == 40 || c == 41 || c == 123 || c == 125 || c == 44 || c == 59 || c == 58 || c == 63 || c == 46
def sgn (c d : Nat) : Nat := if two c d then 2 else if one c then 1 else 0

inductive St | fin | go (a : Nat) | bad (a : Nat) | tok (k a e : Nat)

/-- What stands at a place that is neither blank nor remark. -/
def tokAt (f : Nat → Nat) (n a : Nat) : St :=
  if isLe (f a) then
    if 16 < runE (fun j => isWo (f j)) (n - a) a - a then .bad a else .tok 1 a (runE (fun j => isWo (f j)) (n - a) a)
  else if isDi (f a) then
    if numOk f a (runE (fun j => isDi (f j)) (n - a) a) then
      if isWo (f (runE (fun j => isDi (f j)) (n - a) a)) then .bad (runE (fun j => isDi (f j)) (n - a) a)
      else .tok 2 a (runE (fun j => isDi (f j)) (n - a) a)
    else .bad a
  else if sgn (f a) (f (a + 1)) = 0 then .bad a
  else .tok 3 a (a + sgn (f a) (f (a + 1)))

def stepL (f : Nat → Nat) (n a : Nat) : St :=
  if n ≤ a then .fin
  else if isBl (f a) then .go (a + 1)
  else if f a = 47 ∧ f (a + 1) = 47 then .go (runE (fun j => f j != 10) (n - a) a)
  else if f a = 47 ∧ f (a + 1) = 42 then
    match remE f (n - (a + 2)) (a + 2) with
    | none => .bad a
    | some e => .go e
  else tokAt f n a

structure Tk where
  k : Nat
  a : Nat
  e : Nat

/-- Tokens, or the place of the first fault. -/
inductive Rs | ok (l : List Tk) | no (a : Nat)
def Rs.cons (t : Tk) : Rs → Rs | .ok l => .ok (t :: l) | .no a => .no a
def Rs.pre (p : List Tk) : Rs → Rs | .ok l => .ok (p ++ l) | .no a => .no a

def lexF (f : Nat → Nat) (n : Nat) : Nat → Nat → Rs
  | 0, _ => .ok []
  | j + 1, a => match stepL f n a with
    | .fin => .ok [⟨0, n, n⟩]
    | .go b => lexF f n j b
    | .bad b => .no b
    | .tok k b e => Rs.cons ⟨k, b, e⟩ (lexF f n j e)

def lexA (f : Nat → Nat) (n a : Nat) : Rs := lexF f n (n + 1 - a) a

/-- Bytes up to n alone, and each below 256. -/
def Fz (f : Nat → Nat) (n : Nat) : Prop := ∀ i, n ≤ i → f i = 0

theorem runE_ge (p : Nat → Bool) : ∀ k i, i ≤ runE p k i
  | 0, i => by simp [runE]
  | k + 1, i => by
    simp only [runE]; split
    · have := runE_ge p k (i + 1); omega
    · omega
theorem runE_le (p : Nat → Bool) : ∀ k i, runE p k i ≤ i + k
  | 0, i => by simp [runE]
  | k + 1, i => by
    simp only [runE]; split
    · have := runE_le p k (i + 1); omega
    · omega
theorem runE_all (p : Nat → Bool) : ∀ k i j, i ≤ j → j < runE p k i → p j = true
  | 0, i, j, h1, h2 => by simp [runE] at h2; omega
  | k + 1, i, j, h1, h2 => by
    simp only [runE] at h2; split at h2
    · rename_i hp
      by_cases e : j = i
      · rw [e]; exact hp
      · exact runE_all p k (i + 1) j (by omega) h2
    · omega
/-- Either it stops where p does not hold, or at the very end. -/
theorem runE_end (p : Nat → Bool) : ∀ k i, p (runE p k i) = false ∨ runE p k i = i + k
  | 0, i => by simp [runE]
  | k + 1, i => by
    simp only [runE]; split
    · rcases runE_end p k (i + 1) with h | h
      · exact Or.inl h
      · right; omega
    · rename_i hp
      left; simpa using hp
theorem runE_is (p : Nat → Bool) (k i e : Nat) (h1 : i ≤ e) (h2 : ∀ j, i ≤ j → j < e → p j = true) (h3 : p e = false ∧ e ≤ i + k ∨ e = i + k) : runE p k i = e := by
  have g1 := runE_ge p k i
  have g2 := runE_le p k i
  rcases Nat.lt_trichotomy (runE p k i) e with h | h | h
  · have := h2 _ g1 h
    rcases runE_end p k i with h' | h'
    · rw [this] at h'; cases h'
    · rcases h3 with ⟨_, h3⟩ | h3 <;> omega
  · exact h
  · have := runE_all p k i e h1 h
    rcases h3 with ⟨h3, _⟩ | h3
    · rw [this] at h3; cases h3
    · omega
theorem runE_pos (p : Nat → Bool) (k i : Nat) (h : p i = true) (hk : 0 < k) : i < runE p k i := by
  obtain ⟨k, rfl⟩ : ∃ m, k = m + 1 := ⟨k - 1, by omega⟩
  simp only [runE, h, if_true]
  have := runE_ge p k (i + 1)
  omega

theorem remE_some {f : Nat → Nat} : ∀ k i e, remE f k i = some e → i + 2 ≤ e ∧ e ≤ i + k + 1 ∧ f (e - 2) = 42 ∧ f (e - 1) = 47 ∧ ∀ j, i ≤ j → j + 2 < e → ¬(f j = 42 ∧ f (j + 1) = 47)
  | 0, i, e, h => by simp [remE] at h
  | k + 1, i, e, h => by
    simp only [remE] at h; split at h
    · rename_i hp
      simp only [Bool.and_eq_true, beq_iff_eq] at hp
      have he : i + 2 = e := by simpa using h
      subst he
      refine ⟨by omega, by omega, hp.1, by simpa using hp.2, fun j h1 h2 => by omega⟩
    · rename_i hp
      obtain ⟨h1, h2, h3, h4, h5⟩ := remE_some k (i + 1) e h
      refine ⟨by omega, by omega, h3, h4, fun j g1 g2 => ?_⟩
      by_cases e : j = i
      · subst e; intro hh; exact hp (by simp [hh.1, hh.2])
      · exact h5 j (by omega) g2
theorem remE_none {f : Nat → Nat} : ∀ k i, remE f k i = none → ∀ j, i ≤ j → j < i + k → ¬(f j = 42 ∧ f (j + 1) = 47)
  | 0, i, h => fun j h1 h2 => by omega
  | k + 1, i, h => fun j h1 h2 => by
    simp only [remE] at h; split at h
    · cases h
    · rename_i hp
      by_cases e : j = i
      · subst e; intro hh; exact hp (by simp [hh.1, hh.2])
      · exact remE_none k (i + 1) h j (by omega) (by omega)
theorem remE_is {f : Nat → Nat} (k i e : Nat) (h1 : i + 2 ≤ e) (h2 : e ≤ i + k + 1) (h3 : f (e - 2) = 42) (h4 : f (e - 1) = 47) (h5 : ∀ j, i ≤ j → j + 2 < e → ¬(f j = 42 ∧ f (j + 1) = 47)) : remE f k i = some e := by
  induction k generalizing i with
  | zero => omega
  | succ k ih =>
    simp only [remE]
    by_cases he : e = i + 2
    · subst he
      have a3 : f i = 42 := h3
      have a4 : f (i + 1) = 47 := h4
      simp [a3, a4]
    · have := h5 i (by omega) (by omega)
      rw [if_neg]
      · exact ih (i + 1) (by omega) (by omega) (fun j g1 g2 => h5 j (by omega) g2)
      · intro hh
        simp only [Bool.and_eq_true, beq_iff_eq] at hh
        exact this hh
theorem remE_not {f : Nat → Nat} (k i : Nat) (h : ∀ j, i ≤ j → j < i + k → ¬(f j = 42 ∧ f (j + 1) = 47)) : remE f k i = none := by
  cases hr : remE f k i with
  | none => rfl
  | some e =>
    obtain ⟨h1, h2, h3, h4, _⟩ := remE_some k i e hr
    exact absurd ⟨h3, by rw [show e - 2 + 1 = e - 1 by omega]; exact h4⟩ (h (e - 2) (by omega) (by omega))

theorem sgn_le (c d : Nat) : sgn c d ≤ 2 := by unfold sgn; split <;> (try split) <;> omega
theorem two_pos {c d : Nat} (h : two c d = true) : d ≠ 0 := by
  rintro rfl
  simp [two] at h
theorem sgn_two {c d : Nat} (h : sgn c d = 2) : d ≠ 0 := by
  unfold sgn at h
  split at h
  · rename_i h'; exact two_pos h'
  · split at h <;> omega
theorem isWo_zero : isWo 0 = false := rfl
theorem isLe_wo {c : Nat} (h : isLe c = true) : isWo c = true := by simp [isWo, h]
theorem isDi_wo {c : Nat} (h : isDi c = true) : isWo c = true := by simp [isWo, h]

theorem tokAt_tok {f : Nat → Nat} {n a k b e : Nat} (hz : Fz f n) (han : a < n) (h : tokAt f n a = .tok k b e) : b = a ∧ a < e ∧ e ≤ n ∧ 1 ≤ k ∧ k ≤ 3 := by
  unfold tokAt at h
  split at h
  · rename_i hl
    split at h
    · cases h
    · injection h with h1 h2 h3
      subst h1 h2 h3
      have := runE_pos (fun j => isWo (f j)) (n - a) a (isLe_wo hl) (by omega)
      have := runE_le (fun j => isWo (f j)) (n - a) a
      omega
  · split at h
    · rename_i hd
      split at h
      · split at h
        · cases h
        · injection h with h1 h2 h3
          subst h1 h2 h3
          have := runE_pos (fun j => isDi (f j)) (n - a) a hd (by omega)
          have := runE_le (fun j => isDi (f j)) (n - a) a
          omega
      · cases h
    · split at h
      · cases h
      · rename_i hs
        injection h with h1 h2 h3
        subst h1 h2 h3
        have := sgn_le (f a) (f (a + 1))
        refine ⟨rfl, by omega, ?_, by omega, by omega⟩
        by_cases e2 : sgn (f a) (f (a + 1)) = 2
        · have := sgn_two e2
          by_cases hlt : a + 1 < n
          · omega
          · exact absurd (hz (a + 1) (by omega)) this
        · omega
theorem tokAt_go {f : Nat → Nat} {n a b : Nat} : tokAt f n a ≠ .go b := by
  unfold tokAt
  intro h
  repeat' split at h
  all_goals cases h
theorem tokAt_fin {f : Nat → Nat} {n a : Nat} : tokAt f n a ≠ .fin := by
  unfold tokAt
  intro h
  repeat' split at h
  all_goals cases h

theorem stepL_go {f : Nat → Nat} {n a b : Nat} (hz : Fz f n) (h : stepL f n a = .go b) : a < b ∧ b ≤ n ∧ a < n := by
  unfold stepL at h
  split at h
  · cases h
  · rename_i hn
    split at h
    · injection h with h; omega
    · split at h
      · rename_i hs
        injection h with h
        have h1 := runE_pos (fun j => f j != 10) (n - a) a (by rw [hs.1]; rfl) (by omega)
        have h2 := runE_le (fun j => f j != 10) (n - a) a
        omega
      · split at h
        · rename_i hs
          split at h
          · cases h
          · rename_i e he
            injection h with h
            obtain ⟨h1, h2, h3, h4, _⟩ := remE_some _ _ _ he
            have : e - 1 < n := by
              by_cases g : e - 1 < n
              · exact g
              · have := hz (e - 1) (by omega); omega
            omega
        · exact absurd h tokAt_go
theorem stepL_fin {f : Nat → Nat} {n a : Nat} (h : stepL f n a = .fin) : n ≤ a := by
  unfold stepL at h
  split at h
  · assumption
  · split at h
    · cases h
    · split at h
      · cases h
      · split at h
        · split at h <;> cases h
        · exact absurd h tokAt_fin
theorem stepL_tok {f : Nat → Nat} {n a k b e : Nat} (hz : Fz f n) (h : stepL f n a = .tok k b e) : b = a ∧ a < e ∧ e ≤ n ∧ 1 ≤ k ∧ k ≤ 3 := by
  unfold stepL at h
  split at h
  · cases h
  · rename_i hn
    split at h
    · cases h
    · split at h
      · cases h
      · split at h
        · split at h <;> cases h
        · exact tokAt_tok hz (by omega) h

theorem lexF_more {f : Nat → Nat} {n : Nat} (hz : Fz f n) : ∀ j i a, n + 1 ≤ j + a → n + 1 ≤ i + a → a ≤ n → lexF f n j a = lexF f n i a
  | 0, i, a, h1, h2, h3 => by omega
  | j + 1, 0, a, h1, h2, h3 => by omega
  | j + 1, i + 1, a, h1, h2, h3 => by
    simp only [lexF]
    cases hs : stepL f n a with
    | fin => rfl
    | bad b => rfl
    | go b =>
      have := stepL_go hz hs
      exact lexF_more hz j i b (by omega) (by omega) (by omega)
    | tok k b e =>
      have := stepL_tok hz hs
      simp only []
      rw [lexF_more hz j i e (by omega) (by omega) (by omega)]

theorem lexA_unf {f : Nat → Nat} {n a : Nat} (hz : Fz f n) (h : a ≤ n) : lexA f n a = match stepL f n a with
    | .fin => .ok [⟨0, n, n⟩]
    | .go b => lexA f n b
    | .bad b => .no b
    | .tok k b e => Rs.cons ⟨k, b, e⟩ (lexA f n e) := by
  unfold lexA
  rw [show n + 1 - a = (n - a) + 1 by omega]
  simp only [lexF]
  cases hs : stepL f n a with
  | fin => rfl
  | bad b => rfl
  | go b =>
    have := stepL_go hz hs
    exact lexF_more hz _ _ b (by omega) (by omega) (by omega)
  | tok k b e =>
    have := stepL_tok hz hs
    simp only []
    rw [lexF_more hz (n - a) (n + 1 - e) e (by omega) (by omega) (by omega)]

theorem lexA_fin {f : Nat → Nat} {n : Nat} (hz : Fz f n) : lexA f n n = .ok [⟨0, n, n⟩] := by
  rw [lexA_unf hz (Nat.le_refl n)]
  have : stepL f n n = .fin := by simp [stepL]
  rw [this]
theorem lexA_go {f : Nat → Nat} {n a b : Nat} (hz : Fz f n) (h : stepL f n a = .go b) : lexA f n a = lexA f n b := by
  have := stepL_go hz h
  rw [lexA_unf hz (by omega), h]
theorem lexA_bad {f : Nat → Nat} {n a b : Nat} (hz : Fz f n) (hn : a ≤ n) (h : stepL f n a = .bad b) : lexA f n a = .no b := by
  rw [lexA_unf hz hn, h]
theorem lexA_tok {f : Nat → Nat} {n a k b e : Nat} (hz : Fz f n) (hn : a ≤ n) (h : stepL f n a = .tok k b e) : lexA f n a = Rs.cons ⟨k, b, e⟩ (lexA f n e) := by
  rw [lexA_unf hz hn, h]

/-- Neither a blank nor a remark begins. -/
def Stl (f : Nat → Nat) (a : Nat) : Prop := isBl (f a) = false ∧ ¬(f a = 47 ∧ f (a + 1) = 47) ∧ ¬(f a = 47 ∧ f (a + 1) = 42)
theorem stepL_stl {f : Nat → Nat} {n a : Nat} (hn : a < n) (h : Stl f a) : stepL f n a = tokAt f n a := by
  unfold stepL
  rw [if_neg (by omega), if_neg (by simp [h.1]), if_neg h.2.1, if_neg h.2.2]

theorem lexA_blank {f : Nat → Nat} {n p : Nat} (hz : Fz f n) (h : isBl (f p) = true) : p < n ∧ lexA f n p = lexA f n (p + 1) := by
  have hn : p < n := by
    by_cases g : p < n
    · exact g
    · rw [hz p (by omega)] at h; cases h
  exact ⟨hn, lexA_go hz (by unfold stepL; rw [if_neg (by omega), if_pos h])⟩
theorem lexA_line {f : Nat → Nat} {n p : Nat} (hz : Fz f n) (h : f p = 47 ∧ f (p + 1) = 47) : p + 1 < n ∧ lexA f n p = lexA f n (runE (fun j => f j != 10) (n - p) p) := by
  have hn : p + 1 < n := by
    by_cases g : p + 1 < n
    · exact g
    · have := hz (p + 1) (by omega); omega
  refine ⟨hn, lexA_go hz ?_⟩
  unfold stepL
  rw [if_neg (by omega), if_neg (by rw [h.1]; decide), if_pos h]
/-- Behind a remark that begins at st. -/
def remR (f : Nat → Nat) (n st : Nat) : Option Nat → Rs
  | none => .no st
  | some e => lexA f n e
theorem lexA_rem {f : Nat → Nat} {n p : Nat} (hz : Fz f n) (h : f p = 47 ∧ f (p + 1) = 42) :
    p + 1 < n ∧ lexA f n p = remR f n p (remE f (n - (p + 2)) (p + 2)) := by
  have hn : p + 1 < n := by
    by_cases g : p + 1 < n
    · exact g
    · have := hz (p + 1) (by omega); omega
  refine ⟨hn, ?_⟩
  have hs : stepL f n p = match remE f (n - (p + 2)) (p + 2) with | none => .bad p | some e => .go e := by
    unfold stepL
    rw [if_neg (by omega), if_neg (by rw [h.1]; decide), if_neg (by omega), if_pos h]
  cases hr : remE f (n - (p + 2)) (p + 2) with
  | none => rw [hr] at hs; exact lexA_bad hz (by omega) hs
  | some e => rw [hr] at hs; exact lexA_go hz hs

theorem runE_succ {p : Nat → Bool} {n i : Nat} (hi : i < n) (h : p i = true) : runE p (n - i) i = runE p (n - (i + 1)) (i + 1) := by
  rw [show n - i = (n - (i + 1)) + 1 by omega, runE, if_pos h]
theorem runE_stop {p : Nat → Bool} {n i : Nat} (h : n ≤ i ∨ p i = false) : runE p (n - i) i = i := by
  rcases h with h | h
  · rw [show n - i = 0 by omega, runE]
  · cases n - i with
    | zero => rw [runE]
    | succ k => rw [runE, if_neg (by simp [h])]
theorem remE_hit {f : Nat → Nat} {n i : Nat} (hi : i < n) (h : f i = 42 ∧ f (i + 1) = 47) : remE f (n - i) i = some (i + 2) := by
  rw [show n - i = (n - (i + 1)) + 1 by omega, remE, if_pos (by simp [h.1, h.2])]
theorem remE_miss {f : Nat → Nat} {n i : Nat} (hi : i < n) (h : ¬(f i = 42 ∧ f (i + 1) = 47)) : remE f (n - i) i = remE f (n - (i + 1)) (i + 1) := by
  rw [show n - i = (n - (i + 1)) + 1 by omega, remE, if_neg (by simpa using h)]

theorem Rs.pre_nil (r : Rs) : Rs.pre [] r = r := by cases r <;> rfl
theorem Rs.pre_cons (p : List Tk) (t : Tk) (r : Rs) : Rs.pre p (Rs.cons t r) = Rs.pre (p ++ [t]) r := by
  cases r <;> simp [Rs.pre, Rs.cons]

theorem lexA_word {f : Nat → Nat} {n a e : Nat} (hz : Fz f n) (hn : a < n) (hs : Stl f a) (hl : isLe (f a) = true) (he : runE (fun j => isWo (f j)) (n - a) a = e) :
    lexA f n a = if 16 < e - a then .no a else Rs.cons ⟨1, a, e⟩ (lexA f n e) := by
  have h := stepL_stl hn hs
  unfold tokAt at h
  rw [if_pos hl, he] at h
  split
  · rename_i g
    rw [if_pos g] at h
    exact lexA_bad hz (by omega) h
  · rename_i g
    rw [if_neg g] at h
    exact lexA_tok hz (by omega) h
theorem lexA_num {f : Nat → Nat} {n a e : Nat} (hz : Fz f n) (hn : a < n) (hs : Stl f a) (hl : isLe (f a) = false) (hd : isDi (f a) = true) (he : runE (fun j => isDi (f j)) (n - a) a = e) :
    lexA f n a = if numOk f a e then (if isWo (f e) then .no e else Rs.cons ⟨2, a, e⟩ (lexA f n e)) else .no a := by
  have h := stepL_stl hn hs
  unfold tokAt at h
  rw [if_neg (by simp [hl]), if_pos hd, he] at h
  split
  · rename_i g
    rw [if_pos g] at h
    split
    · rename_i g'
      rw [if_pos g'] at h
      exact lexA_bad hz (by omega) h
    · rename_i g'
      rw [if_neg g'] at h
      exact lexA_tok hz (by omega) h
  · rename_i g
    rw [if_neg g] at h
    exact lexA_bad hz (by omega) h
theorem lexA_sign {f : Nat → Nat} {n a : Nat} (hz : Fz f n) (hn : a < n) (hs : Stl f a) (hl : isLe (f a) = false) (hd : isDi (f a) = false) :
    lexA f n a = if sgn (f a) (f (a + 1)) = 0 then .no a else Rs.cons ⟨3, a, a + sgn (f a) (f (a + 1))⟩ (lexA f n (a + sgn (f a) (f (a + 1)))) := by
  have h := stepL_stl hn hs
  unfold tokAt at h
  rw [if_neg (by simp [hl]), if_neg (by simp [hd])] at h
  split
  · rename_i g
    rw [if_pos g] at h
    exact lexA_bad hz (by omega) h
  · rename_i g
    rw [if_neg g] at h
    exact lexA_tok hz (by omega) h
theorem sgn_fit {f : Nat → Nat} {n a : Nat} (hz : Fz f n) (hn : a < n) : a + sgn (f a) (f (a + 1)) ≤ n := by
  have := sgn_le (f a) (f (a + 1))
  by_cases e2 : sgn (f a) (f (a + 1)) = 2
  · have := sgn_two e2
    by_cases hlt : a + 1 < n
    · omega
    · exact absurd (hz (a + 1) (by omega)) this
  · omega

/-- The bytes of a text, 0 behind it. -/
def bt (s : ByteArray) (i : Nat) : Nat := (s.data.toList.getD i 0).toNat
theorem bt_z (s : ByteArray) : Fz (bt s) s.size := by
  intro i h
  unfold bt
  rw [List.getD_eq_getElem?_getD, List.getElem?_eq_none (by simpa [← ByteArray.size_data] using h)]
  rfl
theorem bt_lt (s : ByteArray) (i : Nat) : bt s i < 256 := UInt8.toNat_lt _
theorem bt_at (s : ByteArray) (i : Nat) (h : i < s.size) : bt s i = (s[i]).toNat := by
  unfold bt
  rw [List.getD_eq_getElem?_getD]
  have h' : i < s.data.size := by simpa [ByteArray.size_data] using h
  rw [Array.getElem?_toList, Array.getElem?_eq_getElem h']
  rfl

def lexS (s : ByteArray) : Rs := lexA (bt s) s.size 0

end Go.Proofs.YtaaiogfbohndaaaDoor
