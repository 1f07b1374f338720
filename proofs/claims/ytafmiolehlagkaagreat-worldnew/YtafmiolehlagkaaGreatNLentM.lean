/-
  World: kinds that are lent: with something behind each list.
-/
import Derived.Test.YtafmiolehlagkaaGreatNMay
import Derived.Test.YtafmiolehlagkaaGreatWAdd
import Derived.Laws.AppendOwnNone
namespace Go.Proofs.YtafmiolehlagkaaGreat
open Go.RowKit
set_option maxRecDepth 100000
def bh : ByteArray := ⟨#[98, 101, 104, 105, 110, 100]⟩
def blk (p : Kc) : Nat := (p.2.1.map (·.block)).getD 0
/-- A kind that is lent: its fields lie in memory of their own, with two texts behind them. -/
def Lf (B : Nat) (W : World) (k : Kind) (p : Kc) : Prop := p.1 = k.1 ∧ ∃ g c, p.2 = (some ⟨g, 0, none⟩, k.2.length, c) ∧ W.ownsRow B 9 1 (.slice (some ⟨g, 0, none⟩) (k.2.length + 2) c) (k.2.length + 2) (sz (k.2 ++ [bh, bh]))
def Rise (L : List Kc) : Prop := ∀ i j (hi : i < L.length) (hj : j < L.length), i < j → blk L[i] < blk L[j]
/-- So many of them. -/
def Lw (B : Nat) (W : World) (v : Value) (ks : List Kind) (L : List Kc) : Prop := W.ownsRow B 119 2 v L.length (kz L) ∧ L.length ≤ ks.length ∧ (∀ j (h1 : j < L.length) (h2 : j < ks.length), Lf B W ks[j] L[j]) ∧ Rise L
theorem Lf.lt {B : Nat} {W : World} {k : Kind} {p : Kc} (h : Lf B W k p) : B ≤ blk p ∧ blk p < W.heap.size := by
  obtain ⟨-, g, c, e, ho⟩ := h
  have := ho.lt g rfl
  unfold blk
  rw [e]
  exact this
theorem Lf.grown {B : Nat} {W W' : World} {k : Kind} {p : Kc} {row : Option Nat} (h : Lf B W k p) (hg : W.grownBy W' row) (hr : row ≠ some (blk p)) : Lf B W' k p := by
  obtain ⟨h1, g, c, e, ho⟩ := h
  refine ⟨h1, g, c, e, own_kept ho hg (fun q hq => ?_)⟩
  have : blk p = g := by unfold blk; rw [e]; rfl
  simp only [Value.ownBlock, Option.some.injEq] at hq
  rw [← hq, ← this]
  exact hr
theorem Lf.later {B : Nat} {W W' : World} {k : Kind} {p : Kc} (h : Lf B W k p) (hb : Below W.heap.size W W') : Lf B W' k p := h.grown (grown_later hb) (by simp)
theorem kz_append : ∀ (a b : List Kc), kz (a ++ b) = kz a ++ kz b
  | [], _ => rfl
  | p :: t, b => by simp [kz, kz_append t b]
theorem Lw.start (B : Nat) (W : World) (ks : List Kind) : Lw B W (.slice none 0 0) ks [] := ⟨World.ownsRow_nil _ _ _ _, Nat.zero_le _, fun j h => absurd h (by simp), fun i j h => absurd h (by simp)⟩
theorem Lf.kinds {B B' n s : Nat} {W : World} {v : Value} {xs : List Value} {k : Kind} {p : Kc} (h : Lf B W k p) (hv : W.ownsRow B' 119 s v n xs) : v.ownBlock ≠ some (blk p) := by
  obtain ⟨-, g, c, e, ho⟩ := h
  have hb : blk p = g := by unfold blk; rw [e]; rfl
  rw [hb]
  exact own_kinds ho hv (by decide) rfl
theorem Lw.push {B : Nat} {W W1 W2 : World} {v v' : Value} {ks : List Kind} {L : List Kc} {p : Kc} (h : Lw B W v ks L) (hi : L.length < ks.length) (hb : Below W.heap.size W W1) (hp : Lf B W1 ks[L.length] p) (hf : W.heap.size ≤ blk p) (ho : W2.ownsRow B 119 2 v' (L.length + 1) (kz L ++ [.string p.1, kcV p])) (hg : W1.grownBy W2 v.ownBlock) : Lw B W2 v' ks (L ++ [p]) := by
  obtain ⟨h1, h2, h3, h4⟩ := h
  have h1' := own_later h1 hb
  refine ⟨?_, by simp; omega, fun j j1 j2 => ?_, fun i j i1 j1 hij => ?_⟩
  · rw [List.length_append, kz_append]
    exact ho
  · by_cases c : j < L.length
    · rw [List.getElem_append_left c]
      have := (h3 j c j2).later hb
      exact this.grown hg (this.kinds h1')
    · have hj : j = L.length := by simp at j1; omega
      subst hj
      rw [List.getElem_append_right (Nat.le_refl _)]
      simp only [Nat.sub_self, List.getElem_cons_zero]
      exact hp.grown hg (hp.kinds h1')
  · by_cases c : j < L.length
    · rw [List.getElem_append_left (by omega), List.getElem_append_left c]
      exact h4 i j (by omega) c hij
    · have hj : j = L.length := by simp at j1; omega
      subst hj
      rw [List.getElem_append_left (by omega), List.getElem_append_right (Nat.le_refl _)]
      simp only [Nat.sub_self, List.getElem_cons_zero]
      have := (h3 i (by omega) (by omega)).lt.2
      omega
/-- What is lent, as a whole: two kinds stand behind it. -/
def Lk (B : Nat) (W : World) (v : Value) (ks : List Kind) : Prop := ∃ g c L, v = .slice (some ⟨g, 0, none⟩) ks.length c ∧ L.length = ks.length ∧ W.ownsRow B 119 2 (.slice (some ⟨g, 0, none⟩) (ks.length + 2) c) (ks.length + 2) (kz (L ++ [(bh, none, 0, 0), (bh, none, 0, 0)])) ∧ (∀ j (h1 : j < L.length) (h2 : j < ks.length), Lf B W ks[j] L[j]) ∧ Rise L
theorem Lw.done {B : Nat} {W W2 : World} {v : Value} {g c : Nat} {ks : List Kind} {L : List Kc} (h : Lw B W v ks L) (hl : L.length = ks.length) (ho : W2.ownsRow B 119 2 (.slice (some ⟨g, 0, none⟩) (ks.length + 2) c) (ks.length + 2) (kz L ++ [.string bh, .slice none 0 0, .string bh, .slice none 0 0])) (hg : W.grownBy W2 v.ownBlock) : Lk B W2 (.slice (some ⟨g, 0, none⟩) ks.length c) ks := by
  obtain ⟨h1, h2, h3, h4⟩ := h
  refine ⟨g, c, L, rfl, hl, ?_, fun j j1 j2 => (h3 j j1 j2).grown hg ((h3 j j1 j2).kinds h1), h4⟩
  rw [kz_append]
  exact ho
theorem Lf.sr {B : Nat} {W : World} {k : Kind} {p : Kc} (h : Lf B W k p) : Sr W (kcV p) k.2 := by
  obtain ⟨-, g, c, e, ho⟩ := h
  have hc := own_cap ho
  refine ⟨some ⟨g, 0, none⟩, c, by unfold kcV; rw [e], by omega, by unfold maxLen; omega, fun j hj => ⟨g, 0, rfl, ?_⟩⟩
  rw [Nat.zero_add, ho.cellAt j (by omega), sz_at _ j (by simp; omega), List.getElem_append_left hj]
theorem Lk.kr {B : Nat} {W : World} {v : Value} {ks : List Kind} (h : Lk B W v ks) : Kr W v ks := by
  obtain ⟨g, c, L, rfl, hl, ho, h3, -⟩ := h
  have hc := own_cap ho
  refine ⟨some ⟨g, 0, none⟩, c, rfl, by omega, by unfold maxLen; omega, fun i hi => ⟨g, 0, kcV (L[i]'(by omega)), rfl, ?_, ?_, (h3 i (by omega) hi).sr⟩⟩
  · rw [Nat.zero_add, ho.cellAt (i * 2) (by omega), (kz_at _ i (by simp; omega)).1, List.getElem_append_left (by omega), (h3 i (by omega) hi).1]
  · rw [Nat.zero_add, ho.cellAt (i * 2 + 1) (by omega), (kz_at _ i (by simp; omega)).2, List.getElem_append_left (by omega)]
end Go.Proofs.YtafmiolehlagkaaGreat
