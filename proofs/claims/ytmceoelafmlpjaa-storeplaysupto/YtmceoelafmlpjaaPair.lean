/-
  A pair: a store of the program's, one of the document's, and what is kept; what each call leaves of the others. No walk in this text.
-/
import Derived.Test.YtmceoelafmlpjaaDocCut
import Derived.Test.YtmceoelafmlpjaaKeep
namespace Go.Proofs.Ytmceoelafmlpjaa
open Go.RowKit
def In (S : Nat → Prop) (v : Value) : Prop := ∀ k, v.ownBlock = some k → S k
def CA (w : World) (B : Nat) (S : Nat → Prop) (ga : Nat) (l : List UInt8) (n : Nat) (on : Bool) (f : Int) : Prop := ∃ va, St w B ga va l n on f ∧ S ga ∧ In S va
def CD (w : World) (B : Nat) (S : Nat → Prop) (gb : Nat) (L O : List UInt8) (off : Bool) (f : Int) : Prop := ∃ u1 u2, Ds w B gb u1 u2 L O off f ∧ S gb ∧ In S u1 ∧ In S u2
def CK (w : World) (B : Nat) (S : Nat → Prop) (gp ga gb nk : Nat) : Prop := ∃ vk hs lg, Kp w B gp (.pointer (some ⟨ga, 0, none⟩)) (.pointer (some ⟨gb, 0, none⟩)) vk hs lg ∧ hs.length ≤ nk ∧ S gp ∧ In S vk ∧ ∀ x ∈ hs, In S x.1
theorem CA.frame {w w' : World} {B ga n : Nat} {S : Nat → Prop} {l : List UInt8} {on : Bool} {f : Int} (h : CA w B S ga l n on f) (hs : ∀ k, S k → w'.heap[k]? = w.heap[k]?) : CA w' B S ga l n on f := by
  obtain ⟨va, ⟨h1, h2, h3⟩, h4, h5⟩ := h
  refine ⟨va, ⟨(hs ga h4).trans h1, ⟨h2.1, ?_⟩, h3⟩, h4, h5⟩
  rcases h2.2 with h0 | ⟨g, cap, cur, rfl, hb, hg, hr⟩
  · exact .inl h0
  · exact .inr ⟨g, cap, cur, rfl, hb, (hs g (h5 g rfl)).trans hg, hr⟩
theorem CD.frame {w w' : World} {B gb : Nat} {S : Nat → Prop} {L O : List UInt8} {off : Bool} {f : Int} (h : CD w B S gb L O off f) (hsz : w.heap.size ≤ w'.heap.size) (hs : ∀ k, S k → w'.heap[k]? = w.heap[k]?) : CD w' B S gb L O off f := by
  obtain ⟨u1, u2, ⟨h1, ⟨a1, a2⟩, ⟨b1, b2⟩, h4, h5, h6⟩, h7, h8, h9⟩ := h
  exact ⟨u1, u2, ⟨(hs gb h7).trans h1, ⟨a1.kept (fun k hk _ => hs k (h8 k hk)), a2⟩, ⟨b1.kept (fun k hk _ => hs k (h9 k hk)), b2⟩, h4, fun k hk => ⟨(h5 k hk).1, (h5 k hk).2.1, Nat.lt_of_lt_of_le (h5 k hk).2.2 hsz⟩, h6⟩, h7, h8, h9⟩
theorem CK.frame {w w' : World} {B gp ga gb nk : Nat} {S : Nat → Prop} (h : CK w B S gp ga gb nk) (hsz : w.heap.size ≤ w'.heap.size) (hs : ∀ k, S k → w'.heap[k]? = w.heap[k]?) : CK w' B S gp ga gb nk := by
  obtain ⟨vk, hs', lg, h1, h2, h3, h4, h5⟩ := h
  exact ⟨vk, hs', lg, h1.frame hsz (hs gp h3) (fun k hk => hs k (h4 k hk)) (fun x hx k hk => hs k (h5 x hx k hk)), h2, h3, h4, h5⟩
/-- The pair, beside blocks that are not its own (N); what it has touched since the world w0, in which it had the blocks S0. -/
def Pw (w0 : World) (S0 : Nat → Prop) (B gp ga gb nk : Nat) (N : Nat → Prop) (w : World) (l : List UInt8) (n : Nat) (on : Bool) (fa : Int) (L O : List UInt8) (off : Bool) (fd : Int) : Prop :=
  ∃ SA SD SK, CA w B SA ga l n on fa ∧ CD w B SD gb L O off fd ∧ CK w B SK gp ga gb nk ∧ (∀ k, SA k → ¬ SD k ∧ ¬ SK k) ∧ (∀ k, SD k → ¬ SK k) ∧ (∀ k, SA k ∨ SD k ∨ SK k → (S0 k ∨ w0.heap.size ≤ k) ∧ B ≤ k ∧ k < w.heap.size ∧ ¬ N k) ∧ (∀ k, N k → k < w.heap.size ∧ w0.heap.size ≤ k) ∧ Mv w0 w S0 ∧ (∀ k, S0 k → B ≤ k ∧ k < w0.heap.size) ∧ B ≤ w0.heap.size
def KeptN (N : Nat → Prop) (w w' : World) : Prop := ∀ k, N k → w'.heap[k]? = w.heap[k]?
section
variable {w0 : World} {S0 N N' : Nat → Prop} {B gp ga gb nk : Nat} {w w' : World} {l L O l' L' O' : List UInt8} {n n' : Nat} {on off on' off' : Bool} {fa fd fa' fd' : Int}
theorem Pw.stepA (h : Pw w0 S0 B gp ga gb nk N w l n on fa L O off fd) : ∃ va, St w B ga va l n on fa ∧ ∀ w' va' l' n' on' fa', St w' B ga va' l' n' on' fa' → On w w' ga va va' → Pw w0 S0 B gp ga gb nk N w' l' n' on' fa' L O off fd ∧ KeptN N w w' := by
  obtain ⟨SA, SD, SK, ⟨va, h1, h2, h3⟩, hD, hK, hAD, hDK, hS, hN, hM, hS0, hB⟩ := h
  refine ⟨va, h1, fun w' va' l' n' on' fa' hs ho => ?_⟩
  have hsz : w.heap.size ≤ w'.heap.size := ho.1.2.2.2.1
  have hsz0 : w0.heap.size ≤ w.heap.size := hM.2.2.2.1
  have hk : ∀ k, k < w.heap.size → ¬ SA k → w'.heap[k]? = w.heap[k]? := fun k hlt hn => ho.1.2.2.2.2 k hlt (fun e => hn (by cases e; exact h2)) (fun e => hn (h3 k e.symm))
  have hM' : Mv w w' SA := ⟨ho.1.1, ho.1.2.1, ho.1.2.2.1, hsz, hk⟩
  refine ⟨⟨fun k => SA k ∨ (w.heap.size ≤ k ∧ k < w'.heap.size), SD, SK, ⟨va', hs, .inl h2, fun k e => ?_⟩, hD.frame hsz (fun k e => hk k (hS k (.inr (.inl e))).2.2.1 (fun e' => (hAD k e').1 e)), hK.frame hsz (fun k e => hk k (hS k (.inr (.inr e))).2.2.1 (fun e' => (hAD k e').2 e)), fun k e => ?_, hDK, fun k e => ?_, fun k e => ⟨Nat.lt_of_lt_of_le (hN k e).1 hsz, (hN k e).2⟩, hM.trans hM' (fun k hlt e => ?_), hS0, hB⟩, fun k e => hk k (hN k e).1 (fun e' => (hS k (.inl e')).2.2.2 e)⟩
  · rcases ho.2 k e with h | h
    · exact .inl (h3 k h)
    · exact .inr ⟨h, (hs.2.1.lt k e).2⟩
  · rcases e with e | e
    · exact hAD k e
    · exact ⟨fun e' => by have := (hS k (.inr (.inl e'))).2.2.1; omega, fun e' => by have := (hS k (.inr (.inr e'))).2.2.1; omega⟩
  · rcases e with (e | e) | e | e
    · have := hS k (.inl e); exact ⟨this.1, this.2.1, by omega, this.2.2.2⟩
    · exact ⟨.inr (by omega), by omega, e.2, fun e' => by have := (hN k e').1; omega⟩
    · have := hS k (.inr (.inl e)); exact ⟨this.1, this.2.1, by omega, this.2.2.2⟩
    · have := hS k (.inr (.inr e)); exact ⟨this.1, this.2.1, by omega, this.2.2.2⟩
  · rcases (hS k (.inl e)).1 with h | h
    · exact h
    · omega
theorem Pw.stepD (h : Pw w0 S0 B gp ga gb nk N w l n on fa L O off fd) : ∃ u1 u2, Ds w B gb u1 u2 L O off fd ∧ ∀ w' v1 v2 L' O' off' fd', Ds w' B gb v1 v2 L' O' off' fd' → Dn w w' gb u1 u2 v1 v2 → Pw w0 S0 B gp ga gb nk N w' l n on fa L' O' off' fd' ∧ KeptN N w w' := by
  obtain ⟨SA, SD, SK, hA, ⟨u1, u2, h1, h2, h3, h4⟩, hK, hAD, hDK, hS, hN, hM, hS0, hB⟩ := h
  refine ⟨u1, u2, h1, fun w' v1 v2 L' O' off' fd' hs ho => ?_⟩
  have hsz : w.heap.size ≤ w'.heap.size := ho.1.2.2.2.1
  have hsz0 : w0.heap.size ≤ w.heap.size := hM.2.2.2.1
  have hk : ∀ k, k < w.heap.size → ¬ SD k → w'.heap[k]? = w.heap[k]? := fun k hlt hn => ho.1.2.2.2.2 k hlt (fun e => hn (by cases e; exact h2)) (by simp)
  have hM' : Mv w w' SD := ⟨ho.1.1, ho.1.2.1, ho.1.2.2.1, hsz, hk⟩
  have hv : ∀ k, v1.ownBlock = some k ∨ v2.ownBlock = some k → SD k ∨ (w.heap.size ≤ k ∧ k < w'.heap.size) := fun k e => by
    rcases ho.2 k e with (h | h) | h
    · exact .inl (h3 k h)
    · exact .inl (h4 k h)
    · exact .inr ⟨h, (hs.2.2.2.2.1 k e).2.2⟩
  refine ⟨⟨SA, fun k => SD k ∨ (w.heap.size ≤ k ∧ k < w'.heap.size), SK, hA.frame (fun k e => hk k (hS k (.inl e)).2.2.1 (fun e' => (hAD k e).1 e')), ⟨v1, v2, hs, .inl h2, fun k e => hv k (.inl e), fun k e => hv k (.inr e)⟩, hK.frame hsz (fun k e => hk k (hS k (.inr (.inr e))).2.2.1 (fun e' => hDK k e' e)), fun k e => ⟨fun e' => ?_, (hAD k e).2⟩, fun k e => ?_, fun k e => ?_, fun k e => ⟨Nat.lt_of_lt_of_le (hN k e).1 hsz, (hN k e).2⟩, hM.trans hM' (fun k hlt e => ?_), hS0, hB⟩, fun k e => hk k (hN k e).1 (fun e' => (hS k (.inr (.inl e'))).2.2.2 e)⟩
  · rcases e' with e' | e'
    · exact (hAD k e).1 e'
    · have := (hS k (.inl e)).2.2.1
      omega
  · rcases e with e | e
    · exact hDK k e
    · exact fun e' => by have := (hS k (.inr (.inr e'))).2.2.1; omega
  · rcases e with e | (e | e) | e
    · have := hS k (.inl e); exact ⟨this.1, this.2.1, by omega, this.2.2.2⟩
    · have := hS k (.inr (.inl e)); exact ⟨this.1, this.2.1, by omega, this.2.2.2⟩
    · exact ⟨.inr (by omega), by omega, e.2, fun e' => by have := (hN k e').1; omega⟩
    · have := hS k (.inr (.inr e)); exact ⟨this.1, this.2.1, by omega, this.2.2.2⟩
  · rcases (hS k (.inr (.inl e))).1 with h | h
    · exact h
    · omega
/-- A row that is fenced becomes one that is kept. -/
theorem Pw.stepK {v : Value} (h : Pw w0 S0 B gp ga gb nk N w l n on fa L O off fd) (hv : In N v) : ∃ vk hs lg, Kp w B gp (.pointer (some ⟨ga, 0, none⟩)) (.pointer (some ⟨gb, 0, none⟩)) vk hs lg ∧ hs.length ≤ nk ∧ Ap v vk ∧ (∀ x ∈ hs, Ap x.1 v) ∧ v.ownBlock ≠ some gp ∧ ∀ w', KpLeft w w' B gp (.pointer (some ⟨ga, 0, none⟩)) (.pointer (some ⟨gb, 0, none⟩)) vk v hs → Pw w0 S0 B gp ga gb (nk + 2) (fun k => N k ∧ v.ownBlock ≠ some k) w' l n on fa L O off fd ∧ KeptN (fun k => N k ∧ v.ownBlock ≠ some k) w w' := by
  obtain ⟨SA, SD, SK, hA, hD, ⟨vk, hs, lg, h1, h2, h3, h4, h5⟩, hAD, hDK, hS, hN, hM, hS0, hB⟩ := h
  refine ⟨vk, hs, lg, h1, h2, fun k e1 e2 => (hS k (.inr (.inr (h4 k e2)))).2.2.2 (hv k e1), fun x hx k e1 e2 => (hS k (.inr (.inr (h5 x hx k e1)))).2.2.2 (hv k e2), fun e => (hS gp (.inr (.inr h3))).2.2.2 (hv gp e), fun w' ⟨vk', hs', lg', k1, k2, k3, k4, k5⟩ => ?_⟩
  have hsz : w.heap.size ≤ w'.heap.size := k5.2.2.2.1
  have hsz0 : w0.heap.size ≤ w.heap.size := hM.2.2.2.1
  have hk : ∀ k, k < w.heap.size → ¬ SK k → v.ownBlock ≠ some k → w'.heap[k]? = w.heap[k]? := fun k hlt hn hne => k5.2.2.2.2 k hlt (by
    rintro (rfl | e | e)
    · exact hn h3
    · exact hne e
    · exact hn (h4 k e))
  have hvN : ∀ k, v.ownBlock = some k → ¬ SA k ∧ ¬ SD k := fun k e => ⟨fun e' => (hS k (.inl e')).2.2.2 (hv k e), fun e' => (hS k (.inr (.inl e'))).2.2.2 (hv k e)⟩
  refine ⟨⟨SA, SD, fun k => SK k ∨ v.ownBlock = some k ∨ (w.heap.size ≤ k ∧ k < w'.heap.size), hA.frame (fun k e => hk k (hS k (.inl e)).2.2.1 (hAD k e).2 (fun e' => (hvN k e').1 e)), hD.frame hsz (fun k e => hk k (hS k (.inr (.inl e))).2.2.1 (hDK k e) (fun e' => (hvN k e').2 e)), ⟨vk', hs', lg', k1, by omega, .inl h3, fun k e => ?_, fun x hx k e => ?_⟩, fun k e => ⟨(hAD k e).1, ?_⟩, fun k e => ?_, fun k e => ?_, fun k e => ⟨Nat.lt_of_lt_of_le (hN k e.1).1 hsz, (hN k e.1).2⟩, hM.trans (S' := fun k => SK k ∨ v.ownBlock = some k) ⟨k5.1, k5.2.1, k5.2.2.1, hsz, fun k hlt hn => hk k hlt (fun e => hn (.inl e)) (fun e => hn (.inr e))⟩ (fun k hlt e => ?_), hS0, hB⟩, fun k e => hk k (hN k e.1).1 (fun e' => (hS k (.inr (.inr e'))).2.2.2 e.1) e.2⟩
  · rcases k3 k e with h | h
    · exact .inl (h4 k h)
    · exact .inr (.inr ⟨h, (k1.2.1.lt k e).2⟩)
  · rcases k4 x hx k e with ⟨y, hy, h⟩ | h | h
    · exact .inl (h5 y hy k h)
    · exact .inr (.inl h)
    · exact .inr (.inr ⟨h, ((k1.2.2.1 x hx).2.2.2 k e).2⟩)
  · rintro (e' | e' | e')
    · exact (hAD k e).2 e'
    · exact (hvN k e').1 e
    · have := (hS k (.inl e)).2.2.1
      omega
  · rintro (e' | e' | e')
    · exact hDK k e e'
    · exact (hvN k e').2 e
    · have := (hS k (.inr (.inl e))).2.2.1
      omega
  · rcases e with e | e | e | e | e
    · have := hS k (.inl e); exact ⟨this.1, this.2.1, by omega, fun h => this.2.2.2 h.1⟩
    · have := hS k (.inr (.inl e)); exact ⟨this.1, this.2.1, by omega, fun h => this.2.2.2 h.1⟩
    · have := hS k (.inr (.inr e)); exact ⟨this.1, this.2.1, by omega, fun h => this.2.2.2 h.1⟩
    · have := hN k (hv k e); exact ⟨.inr this.2, by omega, by omega, fun h => h.2 e⟩
    · exact ⟨.inr (by omega), by omega, e.2, fun e' => by have := (hN k e'.1).1; omega⟩
  · rcases e with e | e
    · rcases (hS k (.inr (.inr e))).1 with h | h
      · exact h
      · omega
    · have := (hN k (hv k e)).2
      omega
theorem Pw.size (h : Pw w0 S0 B gp ga gb nk N w l n on fa L O off fd) : w0.heap.size ≤ w.heap.size := by
  obtain ⟨SA, SD, SK, -, -, -, -, -, -, -, hM, -⟩ := h
  exact hM.2.2.2.1
theorem Pw.moved (h : Pw w0 S0 B gp ga gb nk N w l n on fa L O off fd) : Mv w0 w S0 := by
  obtain ⟨SA, SD, SK, -, -, -, -, -, -, -, hM, -⟩ := h
  exact hM
theorem Pw.below (h : Pw w0 S0 B gp ga gb nk N w l n on fa L O off fd) : Below B w0 w := by
  obtain ⟨SA, SD, SK, -, -, -, -, -, -, -, hM, hS0, hB⟩ := h
  exact hM.below hB (fun k e => (hS0 k e).1)
/-- New memory; what is fenced may become other blocks of it. -/
theorem Pw.fence (h : Pw w0 S0 B gp ga gb nk N w l n on fa L O off fd) (hb : Below w.heap.size w w') (hN' : ∀ k, N' k → (N k ∨ w.heap.size ≤ k) ∧ k < w'.heap.size) : Pw w0 S0 B gp ga gb nk N' w' l n on fa L O off fd := by
  obtain ⟨SA, SD, SK, hA, hD, hK, hAD, hDK, hS, hN, hM, hS0, hB⟩ := h
  have hsz := hb.size
  have hsz0 := hM.2.2.2.1
  refine ⟨SA, SD, SK, hA.frame (fun k e => hb.block k (hS k (.inl e)).2.2.1), hD.frame hsz (fun k e => hb.block k (hS k (.inr (.inl e))).2.2.1), hK.frame hsz (fun k e => hb.block k (hS k (.inr (.inr e))).2.2.1), hAD, hDK, fun k e => ?_, fun k e => ?_, hM.later hb, hS0, hB⟩
  · have := hS k e
    refine ⟨this.1, this.2.1, by omega, fun e' => ?_⟩
    rcases (hN' k e').1 with h | h
    · exact this.2.2.2 h
    · omega
  · refine ⟨(hN' k e).2, ?_⟩
    rcases (hN' k e).1 with h | h
    · exact (hN k h).2
    · omega
theorem Pw.later (h : Pw w0 S0 B gp ga gb nk N w l n on fa L O off fd) (hb : Below w.heap.size w w') : Pw w0 S0 B gp ga gb nk N w' l n on fa L O off fd := by
  obtain ⟨SA, SD, SK, hA, hD, hK, hAD, hDK, hS, hN, hR⟩ := h
  have hsz := hb.size
  exact Pw.fence ⟨SA, SD, SK, hA, hD, hK, hAD, hDK, hS, hN, hR⟩ hb (fun k e => ⟨.inl e, by have := (hN k e).1; omega⟩)
/-- What is fenced is written. -/
theorem Pw.write {g : Nat} (h : Pw w0 S0 B gp ga gb nk N w l n on fa L O off fd) (hg : w.grownBy w' (some g)) (hn : N g) : Pw w0 S0 B gp ga gb nk N w' l n on fa L O off fd := by
  obtain ⟨SA, SD, SK, hA, hD, hK, hAD, hDK, hS, hN, hM, hS0, hB⟩ := h
  have hsz := hg.size
  have hk : ∀ k, SA k ∨ SD k ∨ SK k → w'.heap[k]? = w.heap[k]? := fun k e => hg.block k (hS k e).2.2.1 (fun e' => (hS k e).2.2.2 (by cases e'; exact hn))
  exact ⟨SA, SD, SK, hA.frame (fun k e => hk k (.inl e)), hD.frame hsz (fun k e => hk k (.inr (.inl e))), hK.frame hsz (fun k e => hk k (.inr (.inr e))), hAD, hDK, fun k e => ⟨(hS k e).1, (hS k e).2.1, by have := (hS k e).2.2.1; omega, (hS k e).2.2.2⟩, fun k e => ⟨by have := (hN k e).1; omega, (hN k e).2⟩, hM.grown hg (fun k hlt e => by cases e; have := (hN _ hn).2; omega), hS0, hB⟩
theorem Pw.ptrs (h : Pw w0 S0 B gp ga gb nk N w l n on fa L O off fd) : w.cell? ⟨gp, 0, none⟩ = some (.pointer (some ⟨ga, 0, none⟩)) ∧ w.cell? ⟨gp, 1, none⟩ = some (.pointer (some ⟨gb, 0, none⟩)) := by
  obtain ⟨SA, SD, SK, hA, hD, ⟨vk, hs, lg, h1, h2⟩, hR⟩ := h
  constructor <;> rw [cell_of_row w gp _ _ 56 (0, 0) h1.1] <;> rfl
end
end Go.Proofs.Ytmceoelafmlpjaa
