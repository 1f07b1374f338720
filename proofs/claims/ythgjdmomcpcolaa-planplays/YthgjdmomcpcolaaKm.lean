/-
  Plan's law: what asks holds while its answers become their owner's.
-/
import Derived.Test.YthgjdmomcpcolaaKk
namespace Go.Proofs.Ythgjdmomcpcolaa
open Go.RowKit
set_option maxRecDepth 100000
def TS (hh : Nat → Nat) (j : Nat) : Nat → Prop := fun q => hh j ≤ q ∧ q < hh (j + 1)
def TO (hh : Nat → Nat) (j : Nat) : Nat → Prop := fun q => hh (3 + j) ≤ q ∧ q < hh (4 + j)
/-- The blocks of the document's answers. -/
def Dz (hh : Nat → Nat) (HY : Nat) : Nat → Prop := fun q => hh 6 ≤ q ∧ q < HY
/-- The book's blocks, when so many stages and orders are kept. -/
def Sq (S : Nat → Prop) (hh : Nat → Nat) (HY a b : Nat) : Nat → Prop := fun q => (S q ∧ q < hh 0) ∨ (∃ i, i < a ∧ TS hh i q) ∨ (∃ i, i < b ∧ TO hh i q) ∨ HY ≤ q
structure Ak (w : World) (S : Nat → Prop) (gb : Nat) (hh : Nat → Nat) (HY : Nat) (vs vo tv wv : Nat → Value) (rss tss : Nat → List Value) (stss : Nat → List (List Nat)) (ol : Nat → List Int) (ga gw go gv : Nat) (a b n m n' m' : Nat) (X : World) : Prop where
  bm : Bm X gb (Sq S hh HY a b) n m n' m'
  st : ∀ j, a ≤ j → j < 3 → Ss X 0 (vs j) (rss j) (stss j) ∧ In (TS hh j) (vs j) ∧ ∀ r ∈ rss j, In (TS hh j) r
  od : ∀ j, b ≤ j → j < 3 → Rw X 0 (vo j) (ol j) ∧ In (TO hh j) (vo j)
  dt : ∀ j, j < 3 → Ss X 0 (tv j) (tss j) (stss j) ∧ In (Dz hh HY) (tv j) ∧ ∀ r ∈ tss j, In (Dz hh HY) r
  dw : ∀ j, j < 3 → Rl X (wv j) (ol j) ∧ In (Dz hh HY) (wv j)
  ar : ∀ j, j < 3 → X.cell? ⟨ga, j, none⟩ = some (vs j) ∧ X.cell? ⟨gw, j, none⟩ = some (tv j) ∧ X.cell? ⟨go, j, none⟩ = some (vo j) ∧ X.cell? ⟨gv, j, none⟩ = some (wv j)
  ag : Dz hh HY ga ∧ Dz hh HY gw ∧ Dz hh HY go ∧ Dz hh HY gv
  mv : Mv w X (fun k => S k ∧ k < hh 0)
  up : ∀ i j, i ≤ j → j ≤ 6 → hh i ≤ hh j
  h0 : hh 0 = w.heap.size
  hy : hh 6 ≤ HY ∧ HY ≤ X.heap.size
  len : ∀ j, j < 3 → (stss j).length ≤ 1000 ∧ (∀ st ∈ stss j, st.length ≤ 1000) ∧ (ol j).length ≤ 1000
section
variable {w : World} {S : Nat → Prop} {gb : Nat} {hh : Nat → Nat} {HY : Nat} {vs vo tv wv : Nat → Value} {rss tss : Nat → List Value} {stss : Nat → List (List Nat)} {ol : Nat → List Int} {ga gw go gv a b n m n' m' a' b' N M N' M' : Nat} {X X' : World}
/-- The others stay. -/
theorem Ak.move {U : Nat → Prop} (h : Ak w S gb hh HY vs vo tv wv rss tss stss ol ga gw go gv a b n m n' m' X) (hm : Mv X X' U) (ha : a ≤ a') (hb : b ≤ b') (hU : ∀ q, U q → Sq S hh HY a' b' q) (ha3 : a' ≤ 3) (hb3 : b' ≤ 3) (bm : Bm X' gb (Sq S hh HY a' b') N M N' M') : Ak w S gb hh HY vs vo tv wv rss tss stss ol ga gw go gv a' b' N M N' M' X' := by
  have hup := h.up
  have hy := h.hy
  have notS : ∀ j, a' ≤ j → j < 3 → ∀ q, TS hh j q → ¬ U q := fun j h1 h2 q hq c => by
    have u0 := hup 0 j (by omega) (by omega)
    have u1 := hup (j + 1) 6 (by omega) (by omega)
    rcases hU q c with ⟨_, e⟩ | ⟨i, hi, e⟩ | ⟨i, hi, e⟩ | e
    · have := hq.1; omega
    · have := hup (i + 1) j (by omega) (by omega); have := hq.1; have := e.2; omega
    · have := hup (j + 1) (3 + i) (by omega) (by omega); have := hq.2; have := e.1; omega
    · have := hq.2; omega
  have notO : ∀ j, b' ≤ j → j < 3 → ∀ q, TO hh j q → ¬ U q := fun j h1 h2 q hq c => by
    have u0 := hup 0 (3 + j) (by omega) (by omega)
    have u1 := hup (4 + j) 6 (by omega) (by omega)
    rcases hU q c with ⟨_, e⟩ | ⟨i, hi, e⟩ | ⟨i, hi, e⟩ | e
    · have := hq.1; omega
    · have := hup (i + 1) (3 + j) (by omega) (by omega); have := hq.1; have := e.2; omega
    · have := hup (4 + i) (3 + j) (by omega) (by omega); have := hq.1; have := e.2; omega
    · have := hq.2; omega
  have notD : ∀ q, Dz hh HY q → ¬ U q := fun q hq c => by
    have u0 := hup 0 6 (by omega) (by omega)
    rcases hU q c with ⟨_, e⟩ | ⟨i, hi, e⟩ | ⟨i, hi, e⟩ | e
    · have := hq.1; omega
    · have := hup (i + 1) 6 (by omega) (by omega); have := hq.1; have := e.2; omega
    · have := hup (4 + i) 6 (by omega) (by omega); have := hq.1; have := e.2; omega
    · have := hq.2; omega
  exact {
    bm := bm
    st := fun j h1 h2 => by
      obtain ⟨k1, k2, k3⟩ := h.st j (by omega) h2
      exact ⟨k1.frame hm (fun k e => notS j h1 h2 k (k2 k e)) (fun r hr k e => notS j h1 h2 k (k3 r hr k e)), k2, k3⟩
    od := fun j h1 h2 => by
      obtain ⟨k1, k2⟩ := h.od j (by omega) h2
      exact ⟨hm.own k1 (fun k e => notO j h1 h2 k (k2 k e)), k2⟩
    dt := fun j h2 => by
      obtain ⟨k1, k2, k3⟩ := h.dt j h2
      exact ⟨k1.frame hm (fun k e => notD k (k2 k e)) (fun r hr k e => notD k (k3 r hr k e)), k2, k3⟩
    dw := fun j h2 => by
      obtain ⟨k1, k2⟩ := h.dw j h2
      exact ⟨k1.frame hm (fun k e => notD k (k2 k e)), k2⟩
    ar := fun j h2 => by
      obtain ⟨k1, k2, k3, k4⟩ := h.ar j h2
      obtain ⟨g1, g2, g3, g4⟩ := h.ag
      exact ⟨hm.cell k1 (notD _ g1), hm.cell k2 (notD _ g2), hm.cell k3 (notD _ g3), hm.cell k4 (notD _ g4)⟩
    ag := h.ag
    mv := h.mv.trans hm (fun k hk e => by
      have hk0 : k < hh 0 := by rw [h.h0]; exact hk
      rcases hU k e with c | ⟨i, hi, c⟩ | ⟨i, hi, c⟩ | c
      · exact c
      · have := hup 0 i (by omega) (by omega); have := c.1; omega
      · have := hup 0 (3 + i) (by omega) (by omega); have := c.1; omega
      · have := hup 0 6 (by omega) (by omega); omega)
    up := hup
    h0 := h.h0
    hy := ⟨hy.1, Nat.le_trans hy.2 hm.size⟩
    len := h.len }
theorem Ak.later (h : Ak w S gb hh HY vs vo tv wv rss tss stss ol ga gw go gv a b n m n' m' X) (hb : Below X.heap.size X X') (ha3 : a ≤ 3) (hb3 : b ≤ 3) : Ak w S gb hh HY vs vo tv wv rss tss stss ol ga gw go gv a b n m n' m' X' :=
  h.move (Mv.of_below hb (fun _ => False)) (Nat.le_refl _) (Nat.le_refl _) (fun _ e => e.elim) ha3 hb3 (h.bm.later hb)
theorem Ak.keeps (h : Ak w S gb hh HY vs vo tv wv rss tss stss ol ga gw go gv a b n m n' m' X) (ha : a < 3) (hb3 : b ≤ 3) (hn' : n' ≤ 50000) (hm' : m' ≤ 50000) :
    Calls Try.prog 30 #[.pointer (some ⟨gb, 0, none⟩), vs a] X fun e X' => e = .returned (.tuple #[]) ∧ Ak w S gb hh HY vs vo tv wv rss tss stss ol ga gw go gv (a + 1) b n m (n' + (rss a).length) (m' + 1) X' := by
  obtain ⟨k1, k2, k3⟩ := h.st a (Nat.le_refl _) ha
  obtain ⟨l1, l2, l3⟩ := h.len a ha
  have hup := h.up
  have hyl := h.hy
  refine (h.bm.keeps (T := TS hh a) k1 k2 k3 (fun q hq c => ?_) (by rw [k1.2.1]; exact l1) l2 hn' hm').mono ?_
  · have u0 := hup 0 a (by omega) (by omega)
    have u1 := hup (a + 1) 6 (by omega) (by omega)
    have q1 := hq.1
    have q2 := hq.2
    rcases c with ⟨_, e⟩ | ⟨i, hi, e⟩ | ⟨i, hi, e⟩ | e
    · omega
    · have := hup (i + 1) a (by omega) (by omega); have := e.2; omega
    · have := hup (a + 1) (3 + i) (by omega) (by omega); have := e.1; omega
    · omega
  · rintro e X' ⟨rfl, g1, g2⟩
    have hsub : ∀ q, Sq S hh HY a b q → Sq S hh HY (a + 1) b q := fun q c => by
      rcases c with c | ⟨i, hi, c⟩ | c | c
      · exact .inl c
      · exact .inr (.inl ⟨i, by omega, c⟩)
      · exact .inr (.inr (.inl c))
      · exact .inr (.inr (.inr c))
    have hts : ∀ q, TS hh a q → Sq S hh HY (a + 1) b q := fun q c => .inr (.inl ⟨a, by omega, c⟩)
    refine ⟨rfl, h.move g2 (by omega) (Nat.le_refl _) (fun q c => c.elim (hsub q) (hts q)) (by omega) hb3 (g1.mono (fun k _ c => ?_))⟩
    rcases c with c | c | c
    · exact hsub k c
    · exact hts k c
    · exact .inr (.inr (.inr (Nat.le_trans hyl.2 c)))
theorem Ak.keep (h : Ak w S gb hh HY vs vo tv wv rss tss stss ol ga gw go gv a b n m n' m' X) (hb : b < 3) (ha3 : a ≤ 3) (hn' : n' ≤ 50000) :
    Calls Try.prog 31 #[.pointer (some ⟨gb, 0, none⟩), vo b] X fun e X' => e = .returned (.tuple #[]) ∧ Ak w S gb hh HY vs vo tv wv rss tss stss ol ga gw go gv a (b + 1) n m (n' + 1) m' X' := by
  obtain ⟨k1, k2⟩ := h.od b (Nat.le_refl _) hb
  obtain ⟨l1, l2, l3⟩ := h.len b hb
  have hup := h.up
  have hyl := h.hy
  refine (h.bm.keep (T := TO hh b) k1 k2 (fun q hq c => ?_) l3 hn').mono ?_
  · have u0 := hup 0 (3 + b) (by omega) (by omega)
    have u1 := hup (4 + b) 6 (by omega) (by omega)
    have q1 := hq.1
    have q2 := hq.2
    rcases c with ⟨_, e⟩ | ⟨i, hi, e⟩ | ⟨i, hi, e⟩ | e
    · omega
    · have := hup (i + 1) (3 + b) (by omega) (by omega); have := e.2; omega
    · have := hup (4 + i) (3 + b) (by omega) (by omega); have := e.2; omega
    · omega
  · rintro e X' ⟨rfl, g1, g2⟩
    have hsub : ∀ q, Sq S hh HY a b q → Sq S hh HY a (b + 1) q := fun q c => by
      rcases c with c | c | ⟨i, hi, c⟩ | c
      · exact .inl c
      · exact .inr (.inl c)
      · exact .inr (.inr (.inl ⟨i, by omega, c⟩))
      · exact .inr (.inr (.inr c))
    have hts : ∀ q, TO hh b q → Sq S hh HY a (b + 1) q := fun q c => .inr (.inr (.inl ⟨b, by omega, c⟩))
    refine ⟨rfl, h.move g2 (Nat.le_refl _) (by omega) (fun q c => c.elim (hsub q) (hts q)) ha3 (by omega) (g1.mono (fun k _ c => ?_))⟩
    rcases c with c | c | c
    · exact hsub k c
    · exact hts k c
    · exact .inr (.inr (.inr (Nat.le_trans hyl.2 c)))
theorem Ak.grows (h : Ak w S gb hh HY vs vo tv wv rss tss stss ol ga gw go gv a b n m n' m' X) (ha3 : a ≤ 3) (hb3 : b ≤ 3) (hn' : n' ≤ 50000) (hm' : m' ≤ 50000) :
    Calls Try.prog 32 #[.pointer (some ⟨gb, 0, none⟩)] X fun e X' => e = .returned (.tuple #[]) ∧ ∃ N M, N + n = n' + n' ∧ M + m = m' + m' ∧ Ak w S gb hh HY vs vo tv wv rss tss stss ol ga gw go gv a b N M N M X' := by
  have hyl := h.hy
  refine (h.bm.grows hn' hm').mono ?_
  rintro e X' ⟨rfl, ⟨N, M, q1, q2, g1⟩, g2⟩
  refine ⟨rfl, N, M, q1, q2, h.move g2 (Nat.le_refl _) (Nat.le_refl _) (fun q c => c) ha3 hb3 (g1.mono (fun k _ c => ?_))⟩
  rcases c with c | c
  · exact c
  · exact .inr (.inr (.inr (Nat.le_trans hyl.2 c)))
theorem Ak.lits (h : Ak w S gb hh HY vs vo tv wv rss tss stss ol ga gw go gv a b n m n' m' X) (j : Nat) (hj : j < 3) (ha : a ≤ j) (hb : b ≤ j) : Calls Try.prog 28 #[vs j, tv j] X (fun e X' => e = .returned (.bool true) ∧ Below X.heap.size X X') ∧ Calls Try.prog 29 #[vo j, wv j] X (fun e X' => e = .returned (.bool true) ∧ Below X.heap.size X X') :=
  ⟨sames_any (h.st j ha hj).1 (h.dt j hj).1 (by have := (h.len j hj).1; omega), same_any (Rl.of (h.od j hb hj).1) (h.dw j hj).1⟩
end
end Go.Proofs.Ythgjdmomcpcolaa
