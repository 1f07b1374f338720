import Derived.Test.YtaaiogfbohndaaaDoorNum
namespace Go.Proofs.YtaaiogfbohndaaaDoor

/-- From a to b by blanks and remarks alone. -/
inductive Gap (f : Nat → Nat) (n : Nat) : Nat → Nat → Prop
  | refl (a : Nat) : Gap f n a a
  | step {a c b : Nat} (h : stepL f n a = .go c) (g : Gap f n c b) : Gap f n a b

def Chn (f : Nat → Nat) (n : Nat) : Nat → List Tk → Prop
  | _, [] => False
  | a, t :: r => (t = ⟨0, n, n⟩ ∧ r = [] ∧ Gap f n a n) ∨ (Gap f n a t.a ∧ stepL f n t.a = .tok t.k t.a t.e ∧ Chn f n t.e r)

theorem Gap.le {f : Nat → Nat} {n a b : Nat} (hz : Fz f n) (g : Gap f n a b) : a ≤ b ∧ (a < b → b ≤ n) := by
  induction g with
  | refl a => exact ⟨Nat.le_refl _, fun h => by omega⟩
  | @step a c b h g ih =>
    have := stepL_go hz h
    refine ⟨by omega, fun _ => ?_⟩
    by_cases e : c < b
    · exact ih.2 e
    · have := ih.1
      omega

theorem chn_of {f : Nat → Nat} {n : Nat} (hz : Fz f n) : ∀ j a l, n + 1 ≤ j + a → a ≤ n → lexF f n j a = .ok l → Chn f n a l
  | 0, a, l, h1, h2, h => by omega
  | j + 1, a, l, h1, h2, h => by
    simp only [lexF] at h
    cases hs : stepL f n a with
    | fin =>
      rw [hs] at h
      simp only [] at h
      injection h with h
      have := stepL_fin hs
      have e : a = n := by omega
      subst h e
      exact Or.inl ⟨rfl, rfl, .refl _⟩
    | bad b => rw [hs] at h; cases h
    | go b =>
      rw [hs] at h
      have := stepL_go hz hs
      have hc := chn_of hz j b l (by omega) (by omega) h
      cases l with
      | nil => exact hc
      | cons t r =>
        rcases hc with ⟨e1, e2, g⟩ | ⟨g, e1, e2⟩
        · exact Or.inl ⟨e1, e2, .step hs g⟩
        · exact Or.inr ⟨.step hs g, e1, e2⟩
    | tok k b e =>
      rw [hs] at h
      have ht := stepL_tok hz hs
      simp only [] at h
      cases hr : lexF f n j e with
      | no x => rw [hr] at h; cases h
      | ok r =>
        rw [hr] at h
        simp only [Rs.cons] at h
        injection h with h
        subst h
        obtain ⟨rfl, _⟩ := ht
        exact Or.inr ⟨.refl _, hs, chn_of hz j e r (by omega) (by omega) hr⟩
theorem chn_lexA {f : Nat → Nat} {n a : Nat} {l : List Tk} (hz : Fz f n) (h2 : a ≤ n) (h : lexA f n a = .ok l) : Chn f n a l :=
  chn_of hz _ a l (by omega) h2 h

/-- A step within a piece is the same step. -/
theorem step_piece {f g : Nat → Nat} {n a b x c : Nat} (hz : Fz f n) (hg : ∀ i, g i = if a + i < b then f (a + i) else 0)
    (hax : a ≤ x) (hcb : c ≤ b) (hbn : b ≤ n) (hs : stepL f n x = .go c) : stepL g (b - a) (x - a) = .go (c - a) := by
  obtain ⟨h1, h2, h3⟩ := stepL_go hz hs
  have hgx : ∀ y, x ≤ y → y < b → g (y - a) = f y := fun y hy1 hy2 => by rw [hg, if_pos (by omega), show a + (y - a) = y by omega]
  have g0 : g (x - a) = f x := hgx x (by omega) (by omega)
  unfold stepL at hs ⊢
  rw [if_neg (by omega)] at hs
  rw [if_neg (by omega), g0]
  split at hs
  · rename_i hb
    rw [if_pos hb]
    injection hs with hs
    rw [show x - a + 1 = c - a by omega]
  · rename_i hb
    rw [if_neg hb]
    split at hs
    · rename_i hsl
      injection hs with hs
      have q1 := runE_ge (fun j => f j != 10) (n - x) x
      have hlt : x + 1 < c := by
        have p1 : f x ≠ 10 := by rw [hsl.1]; decide
        have p2 : f (x + 1) ≠ 10 := by rw [hsl.2]; decide
        rcases runE_end (fun j => f j != 10) (n - x) x with q | q
        · have : c ≠ x := by omega
          have : c ≠ x + 1 := by rintro rfl; rw [hs] at q; simp [p2] at q
          omega
        · have : x + 1 < n := by
            by_cases t : x + 1 < n
            · exact t
            · have := hz (x + 1) (by omega); omega
          omega
      rw [if_pos ⟨hsl.1, by rw [show x - a + 1 = (x + 1) - a by omega, hgx (x + 1) (by omega) (by omega)]; exact hsl.2⟩]
      congr 1
      apply runE_is
      · omega
      · intro j j1 j2
        have := runE_all (fun j => f j != 10) (n - x) x (j + a) (by omega) (by rw [hs]; omega)
        have e := hgx (j + a) (by omega) (by omega)
        rw [show j + a - a = j by omega] at e
        simpa [e] using this
      · by_cases hb' : c < b
        · left
          rcases runE_end (fun j => f j != 10) (n - x) x with q | q
          · rw [hs] at q
            have e := hgx c (by omega) hb'
            exact ⟨by simpa [e] using q, by omega⟩
          · omega
        · right; omega
    · rename_i hsl
      split at hs
      · rename_i hst
        split at hs
        · cases hs
        · rename_i e he
          injection hs with hs
          subst hs
          obtain ⟨r1, r2, r3, r4, r5⟩ := remE_some _ _ _ he
          have e1 : g (x - a + 1) = f (x + 1) := by rw [show x - a + 1 = (x + 1) - a by omega, hgx (x + 1) (by omega) (by omega)]
          rw [e1, if_neg hsl, if_pos hst]
          have : remE g (b - a - (x - a + 2)) (x - a + 2) = some (e - a) := by
            apply remE_is
            · omega
            · omega
            · rw [show e - a - 2 = (e - 2) - a by omega, hgx (e - 2) (by omega) (by omega)]; exact r3
            · rw [show e - a - 1 = (e - 1) - a by omega, hgx (e - 1) (by omega) (by omega)]; exact r4
            · intro j j1 j2
              have := r5 (j + a) (by omega) (by omega)
              have p1 := hgx (j + a) (by omega) (by omega)
              have p2 := hgx (j + a + 1) (by omega) (by omega)
              rw [show j + a - a = j by omega] at p1
              rw [show j + a + 1 - a = j + 1 by omega] at p2
              rw [p1, p2]; exact this
          rw [this]
      · exact absurd hs tokAt_go

theorem gap_piece {f g : Nat → Nat} {n a b x : Nat} (hz : Fz f n) (hg : ∀ i, g i = if a + i < b then f (a + i) else 0)
    (gp : Gap f n x b) (hax : a ≤ x) : lexA g (b - a) (x - a) = .ok [⟨0, b - a, b - a⟩] := by
  have hgz : Fz g (b - a) := fun i hi => by rw [hg, if_neg (by omega)]
  generalize hbb : b = b' at gp
  induction gp with
  | refl y => subst hbb; exact lexA_fin hgz
  | @step y c b'' h gp ih =>
    have h1 := stepL_go hz h
    have h2 := gp.le hz
    have h3 := (Gap.step h gp).le hz
    subst hbb
    rw [lexA_go hgz (step_piece hz hg hax h2.1 (h3.2 (by omega)) h)]
    exact ih (by omega) rfl

/-- What parts tokens: a blank, or the end. -/
def Sep (c : Nat) : Prop := isBl c = true ∨ c = 0
theorem Sep.vals {c : Nat} (h : Sep c) : c = 32 ∨ c = 9 ∨ c = 10 ∨ c = 13 ∨ c = 0 := by
  rcases h with h | h
  · simp [isBl] at h; omega
  · omega
theorem Sep.wo {c : Nat} (h : Sep c) : isWo c = false := by rcases h.vals with rfl | rfl | rfl | rfl | rfl <;> rfl
theorem Sep.di {c : Nat} (h : Sep c) : isDi c = false := by rcases h.vals with rfl | rfl | rfl | rfl | rfl <;> rfl
theorem Sep.two {c d : Nat} (h : Sep d) : two c d = false := by rcases h.vals with rfl | rfl | rfl | rfl | rfl <;> simp [Go.Proofs.YtaaiogfbohndaaaDoor.two]
theorem numV_congr {f g : Nat → Nat} (k : Nat) : ∀ (a b acc : Nat), (∀ i, i < k → f (a + i) = g (b + i)) → numV f acc k a = numV g acc k b := by
  induction k with
  | zero => intro a b acc h; rw [numV_zero, numV_zero]
  | succ k ih =>
    intro a b acc h
    have h0 : f a = g b := h 0 (by omega)
    rw [numV_succ, numV_succ, h0]
    refine ih (a + 1) (b + 1) _ fun i hi => ?_
    have := h (i + 1) (by omega)
    rw [show a + 1 + i = a + (i + 1) by omega, show b + 1 + i = b + (i + 1) by omega]
    exact this

/-- A token's text stands for the same token wherever it is parted from what follows. -/
theorem tok_again {f g : Nat → Nat} {n m a b k e : Nat} (hz : Fz f n) (hs : stepL f n a = .tok k a e)
    (he : ∀ i, i < e - a → g (b + i) = f (a + i)) (hm : b + (e - a) ≤ m) (hsep : Sep (g (b + (e - a)))) : stepL g m b = .tok k b (b + (e - a)) := by
  obtain ⟨_, ha, hn, _⟩ := stepL_tok hz hs
  have g0 : g b = f a := by have := he 0 (by omega); simpa using this
  have hstl : Stl f a ∧ tokAt f n a = .tok k a e := by
    unfold stepL at hs
    split at hs
    · cases hs
    · split at hs
      · cases hs
      · rename_i h1
        split at hs
        · cases hs
        · rename_i h2
          split at hs
          · split at hs <;> cases hs
          · rename_i h3
            exact ⟨⟨by simpa using h1, h2, h3⟩, hs⟩
  obtain ⟨⟨s1, s2, s3⟩, ht⟩ := hstl
  have g1 : e - a ≠ 1 → g (b + 1) = f (a + 1) := fun h => he 1 (by omega)
  have g1' : e - a = 1 → Sep (g (b + 1)) := fun h => by rw [h] at hsep; exact hsep
  have stl : Stl g b := by
    refine ⟨by rw [g0]; exact s1, ?_, ?_⟩
    · rintro ⟨h1, h2⟩
      by_cases hh : e - a = 1
      · have := (g1' hh).vals; omega
      · exact s2 ⟨by rw [← g0]; exact h1, by rw [← g1 hh]; exact h2⟩
    · rintro ⟨h1, h2⟩
      by_cases hh : e - a = 1
      · have := (g1' hh).vals; omega
      · exact s3 ⟨by rw [← g0]; exact h1, by rw [← g1 hh]; exact h2⟩
  rw [stepL_stl (by omega) stl]
  unfold tokAt at ht ⊢
  rw [g0]
  split at ht
  · rename_i hl
    rw [if_pos hl]
    split at ht
    · cases ht
    · rename_i h16
      injection ht with q1 q2 q3
      subst q1
      have hr : runE (fun j => isWo (g j)) (m - b) b = b + (e - a) := by
        apply runE_is
        · omega
        · intro j j1 j2
          have p := runE_all (fun j => isWo (f j)) (n - a) a (a + (j - b)) (by omega) (by omega)
          have := he (j - b) (by omega)
          rw [show b + (j - b) = j by omega] at this
          simpa [this] using p
        · exact Or.inl ⟨hsep.wo, by omega⟩
      rw [hr, if_neg (by omega)]
  · rename_i hl
    rw [if_neg hl]
    split at ht
    · rename_i hd
      rw [if_pos hd]
      split at ht
      · rename_i hok
        split at ht
        · cases ht
        · rename_i hw
          injection ht with q1 q2 q3
          subst q1
          have hr : runE (fun j => isDi (g j)) (m - b) b = b + (e - a) := by
            apply runE_is
            · omega
            · intro j j1 j2
              have p := runE_all (fun j => isDi (f j)) (n - a) a (a + (j - b)) (by omega) (by omega)
              have := he (j - b) (by omega)
              rw [show b + (j - b) = j by omega] at this
              simpa [this] using p
            · exact Or.inl ⟨hsep.di, by omega⟩
          have hok' : numOk g b (b + (e - a)) = true := by
            rw [q3] at hok
            unfold numOk at hok ⊢
            rw [show b + (e - a) - b = e - a by omega, numV_congr (f := g) (g := f) (e - a) b a 0 (fun i hi => he i hi), g0]
            have : (b + (e - a) == b + 1) = (e == a + 1) := by
              by_cases hh : e = a + 1
              · subst hh; simp
              · have : b + (e - a) ≠ b + 1 := by omega
                rw [beq_eq_false_iff_ne.2 this, beq_eq_false_iff_ne.2 hh]
            rw [this]; exact hok
          rw [hr, if_pos hok', if_neg (by simp [hsep.wo])]
      · cases ht
    · rename_i hd
      rw [if_neg hd]
      split at ht
      · cases ht
      · rename_i hsg
        injection ht with q1 q2 q3
        subst q1
        have hsz : sgn (f a) (g (b + 1)) = e - a := by
          have hle := sgn_le (f a) (f (a + 1))
          by_cases hh : e - a = 1
          · have hs1 : sgn (f a) (f (a + 1)) = 1 := by omega
            rw [hh]
            unfold sgn at hs1 ⊢
            rw [(g1' hh).two]
            split at hs1
            · omega
            · exact hs1
          · rw [g1 hh]; omega
        rw [hsz, if_neg (by omega)]

end Go.Proofs.YtaaiogfbohndaaaDoor
