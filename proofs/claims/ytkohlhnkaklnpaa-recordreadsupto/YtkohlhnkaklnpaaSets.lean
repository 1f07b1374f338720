/-
  What is kept, and all else beside it: sets of blocks. No walk in this text.
-/
import Derived.Test.YtkohlhnkaklnpaaKeepP
namespace Go.Proofs.Ytkohlhnkaklnpaa
open Go.RowKit
/-- But for some blocks all that was there is as it was. -/
def Mv (w w' : World) (S : Nat → Prop) : Prop := w'.os = w.os ∧ w'.tape = w.tape ∧ w'.output = w.output ∧ w.heap.size ≤ w'.heap.size ∧ ∀ k, k < w.heap.size → ¬ S k → w'.heap[k]? = w.heap[k]?
section
variable {w w' w2 : World} {S S' : Nat → Prop}
theorem Mv.refl (w : World) (S : Nat → Prop) : Mv w w S := ⟨rfl, rfl, rfl, Nat.le_refl _, fun _ _ _ => rfl⟩
theorem Mv.trans (h : Mv w w' S) (k : Mv w' w2 S') (hs : ∀ k, k < w.heap.size → S' k → S k) : Mv w w2 S :=
  ⟨k.1.trans h.1, k.2.1.trans h.2.1, k.2.2.1.trans h.2.2.1, Nat.le_trans h.2.2.2.1 k.2.2.2.1, fun q hq hn => (k.2.2.2.2 q (Nat.lt_of_lt_of_le hq h.2.2.2.1) (fun e => hn (hs q hq e))).trans (h.2.2.2.2 q hq hn)⟩
theorem Mv.later (h : Mv w w' S) (hb : Below w'.heap.size w' w2) : Mv w w2 S :=
  h.trans (S' := fun _ => False) ⟨hb.os, hb.tape, hb.output, hb.size, fun k hk _ => hb.block k hk⟩ (fun _ _ e => e.elim)
theorem Mv.of (hb : Below w.heap.size w w') : Mv w w' (fun _ => False) := (Mv.refl w _).later hb
theorem Mv.mono (h : Mv w w' S) (hs : ∀ k, k < w.heap.size → S k → S' k) : Mv w w' S' := ⟨h.1, h.2.1, h.2.2.1, h.2.2.2.1, fun k hk hn => h.2.2.2.2 k hk (fun e => hn (hs k hk e))⟩
theorem Mv.below {B : Nat} (h : Mv w w' S) (hB : B ≤ w.heap.size) (hs : ∀ k, S k → B ≤ k) : Below B w w' :=
  ⟨h.1, h.2.1, h.2.2.1, h.2.2.2.1, fun k hk => h.2.2.2.2 k (Nat.lt_of_lt_of_le hk hB) (fun e => by have := hs k e; omega)⟩
theorem Fr.mv {a b : Option Nat} (h : Fr w w' a b) : Mv w w' (fun k => a = some k ∨ b = some k) := ⟨h.1, h.2.1, h.2.2.1, h.2.2.2.1, fun k hk hn => h.2.2.2.2 k hk (fun e => hn (.inl e.symm)) (fun e => hn (.inr e.symm))⟩
end
theorem own_on {w w' : World} {v : Value} {B e s n : Nat} {xs : List Value} (hv : w.ownsRow B e s v n xs) (h1 : ∀ k, v.ownBlock = some k → w'.heap[k]? = w.heap[k]?) : w'.ownsRow B e s v n xs := by
  refine ⟨hv.1, ?_⟩
  rcases hv.2 with h0 | ⟨g, cap, cur, rfl, hb, hg, hr⟩
  · exact .inl h0
  · exact .inr ⟨g, cap, cur, rfl, hb, (h1 g rfl).trans hg, hr⟩
theorem Piece.on {w w' : World} {B : Nat} {v : Value} {l : List UInt8} (h : Piece w B v l) (h1 : ∀ k, v.ownBlock = some k → w'.heap[k]? = w.heap[k]?) : Piece w' B v l := by
  rcases h with h0 | ⟨g, o, cur, rfl, a1, a2, a3, a4, a5⟩
  · exact .inl h0
  · exact .inr ⟨g, o, cur, rfl, a1, a2, a3, (h1 g rfl).trans a4, a5⟩
theorem Piece.block {w : World} {B : Nat} {v : Value} {l : List UInt8} (h : Piece w B v l) : ∀ k, v.ownBlock = some k → B ≤ k ∧ k < w.heap.size := by
  rcases h with ⟨rfl, _⟩ | ⟨g, o, cur, rfl, a1, a2, a3, a4, a5⟩
  · intro k hk
    simp [Value.ownBlock] at hk
  · intro k hk
    simp only [Value.ownBlock, Option.some.injEq] at hk
    subst hk
    exact ⟨a1, (Array.getElem?_eq_some_iff.1 a4).1⟩
/-- What is kept: the blocks that it may lie in. -/
def Kz (w : World) (B nk : Nat) (K : Nat → Prop) (vk : Value) : Prop := ∃ hs, Kept w B vk hs ∧ hs.length ≤ nk ∧ (∀ k, vk.ownBlock = some k → K k) ∧ (∀ h ∈ hs, ∀ k, h.1.ownBlock = some k → K k) ∧ ∀ k, K k → B ≤ k ∧ k < w.heap.size
theorem Kz.none (w : World) (B : Nat) : Kz w B 0 (fun _ => False) (.slice none 0 0) :=
  ⟨[], ⟨World.ownsRow_nil _ _ _ _, fun h hh => by simp at hh⟩, by simp, fun k hk => by simp [Value.ownBlock] at hk, fun h hh => by simp at hh, fun k hk => hk.elim⟩
theorem Kz.frame {w w' : World} {B nk : Nat} {K : Nat → Prop} {vk : Value} (h : Kz w B nk K vk) (hsz : w.heap.size ≤ w'.heap.size) (hs : ∀ k, K k → w'.heap[k]? = w.heap[k]?) : Kz w' B nk K vk := by
  obtain ⟨hs', ⟨h1, h2⟩, h3, h4, h5, h6⟩ := h
  exact ⟨hs', ⟨own_on h1 (fun k hk => hs k (h4 k hk)), fun x hx => ⟨(h2 x hx).1.same (fun g hg _ => hs g (h5 x hx g hg)), (h2 x hx).2.1, (h2 x hx).2.2.1, fun g hg => Nat.lt_of_lt_of_le ((h2 x hx).2.2.2 g hg) hsz⟩⟩, h3, h4, h5, fun k hk => ⟨(h6 k hk).1, Nat.lt_of_lt_of_le (h6 k hk).2 hsz⟩⟩
theorem Kz.later {w w' : World} {B nk : Nat} {K : Nat → Prop} {vk : Value} (h : Kz w B nk K vk) (hb : Below w.heap.size w w') : Kz w' B nk K vk := by
  have hk : ∀ k, K k → k < w.heap.size := fun k e => by obtain ⟨_, _, _, _, _, h6⟩ := h; exact (h6 k e).2
  exact h.frame hb.size (fun k e => hb.block k (hk k e))
theorem Kz.lt {w : World} {B nk : Nat} {K : Nat → Prop} {vk : Value} (h : Kz w B nk K vk) : ∀ k, K k → B ≤ k ∧ k < w.heap.size := by
  obtain ⟨_, _, _, _, _, h6⟩ := h
  exact h6
theorem Kz.more {w : World} {B nk nk' : Nat} {K : Nat → Prop} {vk : Value} (h : Kz w B nk K vk) (hn : nk ≤ nk') : Kz w B nk' K vk := by
  obtain ⟨hs', h1, h3, h4⟩ := h
  exact ⟨hs', h1, Nat.le_trans h3 hn, h4⟩
/-- One more is kept. -/
theorem keep_kz {w : World} {B nk : Nat} {K : Nat → Prop} {vk v : Value} {l : List UInt8} (h : Kz w B nk K vk) (hp : Piece w B v l) (hv : ∀ k, v.ownBlock = some k → ¬ K k) (hB : B ≤ w.heap.size) (hnk : nk ≤ 100000000) (hl : l.length ≤ 100000000) :
    Calls Try.prog 14 #[vk, v] w fun e w' => ∃ ao n c, e = .returned (.slice ao n c) ∧ Kz w' B (nk + 2) (fun k => K k ∨ v.ownBlock = some k ∨ (w.heap.size ≤ k ∧ k < w'.heap.size)) (.slice ao n c) ∧ Mv w w' (fun k => K k ∨ v.ownBlock = some k) := by
  have hvb := hp.block
  obtain ⟨hs, hk, hn, h4, h5, h6⟩ := h
  have fin : ∀ (vk' c : Value) (m : Nat) (w' : World), Kept w' B vk' (hs ++ [(v, m), (c, m)]) → (∀ q, c.ownBlock = some q → v.ownBlock = some q ∨ w.heap.size ≤ q) → (∀ q, vk'.ownBlock = some q → vk.ownBlock = some q ∨ w.heap.size ≤ q) → Fr w w' v.ownBlock vk.ownBlock → ∃ ao n c, Ending.returned vk' = .returned (.slice ao n c) ∧ Kz w' B (nk + 2) (fun k => K k ∨ v.ownBlock = some k ∨ (w.heap.size ≤ k ∧ k < w'.heap.size)) (.slice ao n c) ∧ Mv w w' (fun k => K k ∨ v.ownBlock = some k) := by
    intro vk' c m w' hk' hc hvk' hfr
    obtain ⟨ao, cap, rfl⟩ := own_len hk'.1
    have hsz := hfr.2.2.2.1
    refine ⟨ao, _, cap, rfl, ⟨_, hk', by simp; omega, fun k e => ?_, fun x hx k e => ?_, fun k e => ?_⟩, hfr.mv.mono (fun k _ e => ?_)⟩
    · rcases hvk' k e with h | h
      · exact .inl (h4 k h)
      · exact .inr (.inr ⟨h, (hk'.1.lt k e).2⟩)
    · have hlt := (hk'.2 x hx).2.2.2 k e
      rw [List.mem_append] at hx
      rcases hx with hx | hx
      · exact .inl (h5 x hx k e)
      · simp only [List.mem_cons, List.not_mem_nil, or_false] at hx
        rcases hx with rfl | rfl
        · exact .inr (.inl e)
        · rcases hc k e with h | h
          · exact .inr (.inl h)
          · exact .inr (.inr ⟨h, hlt⟩)
    · rcases e with e | e | e
      · exact ⟨(h6 k e).1, by have := (h6 k e).2; omega⟩
      · exact ⟨(hvb k e).1, by have := (hvb k e).2; omega⟩
      · exact ⟨by omega, e.2⟩
    · rcases e with e | e
      · exact .inr e
      · exact .inl (h4 k e)
  rcases id hp with ⟨rfl, rfl⟩ | ⟨g, o, cur, rfl, a1, a2, a3, a4, a5⟩
  · refine (keep_any B B 0 vk _ hs [] w hk (by omega) (World.ownsRow_nil _ _ _ _) (fun k hk => by simp [Value.ownBlock] at hk) (fun x _ k _ hk => by simp [Value.ownBlock] at hk) hB hB (by omega)).mono ?_
    rintro e w' ⟨vk', c, m, rfl, hk', hc, hvk', hfr⟩
    exact fin vk' c m w' hk' hc hvk' hfr
  · have hsz : o + l.length ≤ cur.size := by
      have hpos : 0 < l.length := by
        rcases l with _ | ⟨x, r⟩
        · exact absurd rfl a2
        · simp
      have := a5 (l.length - 1) (by omega)
      have h := (Array.getElem?_eq_some_iff.1 this).1
      omega
    refine (keep_piece B l.length g o vk hs w hk (by omega) ⟨cur, a4, hsz, fun j hj => by omega⟩ (fun e => hv g rfl (h4 g e)) (fun x hx e => hv g rfl (h5 x hx g e)) hB (by omega)).mono ?_
    rintro e w' ⟨vk', c, m, rfl, hk', hc, hvk', hfr⟩
    exact fin vk' c m w' hk' (fun q hq => by
      rcases hc q hq with h | h
      · exact .inl (by rw [h]; rfl)
      · exact .inr h) hvk' hfr
theorem looks_kz {w : World} {B nk : Nat} {K : Nat → Prop} {vk : Value} (hlk : ∀ hs, Kept w B vk hs → Calls Try.prog 15 #[vk] w fun e w' => e = .returned (.bool true) ∧ ∃ d, w' = w.drewN d) (h : Kz w B nk K vk) : Calls Try.prog 15 #[vk] w fun e w' => e = .returned (.bool true) ∧ ∃ d, w' = w.drewN d := by
  obtain ⟨hs, hk, _⟩ := h
  exact hlk hs hk
end Go.Proofs.Ytkohlhnkaklnpaa
