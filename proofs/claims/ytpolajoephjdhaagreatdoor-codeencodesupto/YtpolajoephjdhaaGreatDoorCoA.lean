/-
  What changes, and what stays: what all texts of this seat share.
-/
import Derived.Test.YtpolajoephjdhaaGreatDoorProg
import Derived.WalkKit
import Derived.WalkSpells
import Derived.WalkLawsBesides
import Derived.Laws.CopyOwn
import Derived.Laws.AppendOwnNone
import Derived.Maps.AppendAt
import Derived.Laws.OwnMore
import Derived.Below
import Derived.RowKit
import Derived.Deep.DeepCutAuto
import Derived.Deep.RegionWith
import Derived.Deep.RegionLaw
import Derived.Deep.RegionHeld3
import Derived.Deep.QuietTactic
import Derived.Deep.CutBlock
import Derived.Deep.AppendLies
import Derived.BigQuiet
import Derived.BigRegion
import Derived.OrdersHeld
import Derived.Recover
namespace Go.Proofs.YtpolajoephjdhaaGreatDoor
open Go.RowKit
set_option maxRecDepth 100000
theorem hide {p : Prop} (h : p) : Hid p := h
theorem ret_int {k : IntKind} {a b : Int} (h : a = b) : Ending.returned (.int k a) = .returned (.int k b) := by rw [h]
theorem val_int {k : IntKind} {a b : Int} (h : a = b) : Value.int k a = .int k b := by rw [h]


/-! ### What changes -/
theorem grown_later {w w' : World} (h : Below w.heap.size w w') : w.grownBy w' none := ⟨h.os, h.tape, h.output, h.size, fun k hk _ => h.block k hk⟩
theorem grown_set (w : World) (g k : Nat) (u : Value) : w.grownBy (w.setCell ⟨g, k, none⟩ u) (some g) :=
  ⟨rfl, rfl, rfl, by simp, fun q _ hq => heap_setCell_other w ⟨g, k, none⟩ q u (fun e => hq (by rw [e]))⟩
theorem lt_of_block {w : World} {g : Nat} {o : Obj} (h : w.heap[g]? = some o) : g < w.heap.size := (Array.getElem?_eq_some_iff.1 h).1
theorem below_drawn (w : World) : ∀ n, Below w.heap.size w (w.drewN n)
  | 0 => Below.refl _ _
  | n + 1 => by
    have := below_drawn w n
    simpa using this.drew
theorem below_drew (w : World) : Below w.heap.size w w.drew := (Below.refl _ w).drew
theorem below_alloc (w : World) (o : Obj) : Below w.heap.size w (w.alloc o) := (Below.refl _ w).alloc (Nat.le_refl _) o
theorem below_on {w0 w w' : World} (h : Below w0.heap.size w0 w) (k : Below w.heap.size w w') : Below w0.heap.size w0 w' := h.trans (k.mono h.size)
/-- But for some blocks all that was there is as it was. -/
def Mv (w w' : World) (S : Nat → Prop) : Prop := w'.os = w.os ∧ w'.tape = w.tape ∧ w'.output = w.output ∧ w.heap.size ≤ w'.heap.size ∧ ∀ k, k < w.heap.size → ¬ S k → w'.heap[k]? = w.heap[k]?
section
variable {w w' w2 : World} {S S' : Nat → Prop}
theorem Mv.refl (w : World) (S : Nat → Prop) : Mv w w S := ⟨rfl, rfl, rfl, Nat.le_refl _, fun _ _ _ => rfl⟩
theorem Mv.size (h : Mv w w' S) : w.heap.size ≤ w'.heap.size := h.2.2.2.1
theorem Mv.trans (h : Mv w w' S) (k : Mv w' w2 S') (hs : ∀ k, k < w.heap.size → S' k → S k) : Mv w w2 S :=
  ⟨k.1.trans h.1, k.2.1.trans h.2.1, k.2.2.1.trans h.2.2.1, Nat.le_trans h.2.2.2.1 k.2.2.2.1, fun q hq hn => (k.2.2.2.2 q (Nat.lt_of_lt_of_le hq h.2.2.2.1) (fun e => hn (hs q hq e))).trans (h.2.2.2.2 q hq hn)⟩
theorem Mv.grown {row : Option Nat} (h : Mv w w' S) (hg : w'.grownBy w2 row) (hr : ∀ k, k < w.heap.size → row = some k → S k) : Mv w w2 S :=
  ⟨hg.1.trans h.1, hg.2.trans h.2.1, hg.3.trans h.2.2.1, Nat.le_trans h.2.2.2.1 hg.size, fun k hk h1 => (hg.block k (Nat.lt_of_lt_of_le hk h.2.2.2.1) (fun e => h1 (hr k hk e.symm))).trans (h.2.2.2.2 k hk h1)⟩
theorem Mv.alloc (h : Mv w w' S) (o : Obj) : Mv w (w'.alloc o) S := h.grown (World.grownBy_alloc w' o none) (fun _ _ e => by cases e)
theorem Mv.set (h : Mv w w' S) {g : Nat} (hg : S g) (k : Nat) (u : Value) : Mv w (w'.setCell ⟨g, k, none⟩ u) S := h.grown (grown_set w' g k u) (fun q _ e => by cases e; exact hg)
theorem Mv.later (h : Mv w w' S) (hb : Below w'.heap.size w' w2) : Mv w w2 S := h.grown (grown_later hb) (fun _ _ e => by cases e)
theorem Mv.mono (h : Mv w w' S) (hs : ∀ k, k < w.heap.size → S k → S' k) : Mv w w' S' := ⟨h.1, h.2.1, h.2.2.1, h.2.2.2.1, fun k hk hn => h.2.2.2.2 k hk (fun e => hn (hs k hk e))⟩
theorem Mv.of_below (h : Below w.heap.size w w') (S : Nat → Prop) : Mv w w' S := (Mv.refl w S).later h
theorem Mv.own {v : Value} {B e s n : Nat} {xs : List Value} (h : Mv w w' S) (hv : w.ownsRow B e s v n xs) (h1 : ∀ k, v.ownBlock = some k → ¬ S k) : w'.ownsRow B e s v n xs := by
  refine ⟨hv.1, ?_⟩
  rcases hv.2 with h0 | ⟨g, cap, cur, rfl, hb, hg, hr⟩
  · exact .inl h0
  · exact .inr ⟨g, cap, cur, rfl, hb, (h.2.2.2.2 g (Array.getElem?_eq_some_iff.1 hg).1 (h1 g rfl)).trans hg, hr⟩
theorem Mv.at {g : Nat} {o : Obj} (h : Mv w w' S) (hg : w.heap[g]? = some o) (h1 : ¬ S g) : w'.heap[g]? = some o := (h.2.2.2.2 g (Array.getElem?_eq_some_iff.1 hg).1 h1).trans hg
theorem Mv.cell {a : Addr} {x : Value} (h : Mv w w' S) (hc : w.cell? a = some x) (h1 : ¬ S a.block) : w'.cell? a = some x :=
  (World.cell?_of_block (h.2.2.2.2 a.block (World.block_lt_of_cell? w a hc) h1)).trans hc
theorem Mv.below {B : Nat} (h : Mv w w' S) (hB : B ≤ w.heap.size) (hs : ∀ k, S k → B ≤ k) : Below B w w' :=
  ⟨h.1, h.2.1, h.2.2.1, h.2.2.2.1, fun k hk => h.2.2.2.2 k (Nat.lt_of_lt_of_le hk hB) (fun e => by have := hs k e; omega)⟩
end
/-- The blocks of S, and those that are new since w. -/
def Nw (w : World) (S : Nat → Prop) : Nat → Prop := fun k => S k ∨ w.heap.size ≤ k
theorem Nw.old {w : World} {S : Nat → Prop} {k : Nat} (h : S k) : Nw w S k := .inl h
theorem Nw.twice {w w' : World} {S : Nat → Prop} (h : w.heap.size ≤ w'.heap.size) : ∀ k, Nw w' (Nw w S) k → Nw w S k := fun k e => by
  rcases e with e | e
  · exact e
  · exact .inr (Nat.le_trans h e)
theorem Mv.step {w w' w2 : World} {S : Nat → Prop} (h : Mv w w' S) (k : Mv w' w2 (Nw w S)) : Mv w w2 S := h.trans k (fun q hq e => by
  rcases e with e | e
  · exact e
  · omega)
def In (S : Nat → Prop) (v : Value) : Prop := ∀ k, v.ownBlock = some k → S k
theorem In.mono {S S' : Nat → Prop} {v : Value} (h : In S v) (hs : ∀ k, S k → S' k) : In S' v := fun k e => hs k (h k e)
theorem In.nil (S : Nat → Prop) : In S (.slice none 0 0) := fun k e => by simp [Value.ownBlock] at e
/-- Two values that lie in no block together. -/
def Ap (u v : Value) : Prop := ∀ g, u.ownBlock = some g → v.ownBlock = some g → False
theorem Ap.symm {u v : Value} (h : Ap u v) : Ap v u := fun g h1 h2 => h g h2 h1
theorem own_len {w : World} {B e s n : Nat} {v : Value} {xs : List Value} (h : w.ownsRow B e s v n xs) : ∃ ao c, v = .slice ao n c := by
  rcases h.2 with ⟨rfl, rfl⟩ | ⟨g, cap, cur, rfl, _⟩
  · exact ⟨_, _, rfl⟩
  · exact ⟨_, _, rfl⟩
theorem own_cap {w : World} {B e s n c : Nat} {ao : Option Addr} {xs : List Value} (h : w.ownsRow B e s (.slice ao n c) n xs) : n ≤ c ∧ c ≤ 9223372036854775807 := by
  rcases h.2 with ⟨e, h0⟩ | ⟨g, c', cur, e, _, _, h1, h2, _⟩
  · simp only [Value.slice.injEq] at e
    obtain ⟨_, _, rfl⟩ := e
    exact ⟨by omega, by omega⟩
  · simp only [Value.slice.injEq] at e
    obtain ⟨_, _, rfl⟩ := e
    unfold maxLen at h2
    exact ⟨h1, by omega⟩
theorem own_form {w : World} {B e s n : Nat} {v : Value} {xs : List Value} (h : w.ownsRow B e s v n xs) (h0 : 0 < n) : ∃ g c, v = .slice (some ⟨g, 0, none⟩) n c ∧ n ≤ c ∧ c ≤ 9223372036854775807 := by
  rcases h.2 with ⟨_, h'⟩ | ⟨g, c, cur, rfl, _, _, h1, h2, _⟩
  · omega
  · exact ⟨g, c, rfl, h1, by unfold maxLen at h2; omega⟩
theorem own_lower {w : World} {B B' e s n : Nat} {v : Value} {xs : List Value} (h : w.ownsRow B e s v n xs) (hB : B' ≤ B) : w.ownsRow B' e s v n xs := by
  refine ⟨h.1, ?_⟩
  rcases h.2 with h0 | ⟨g, cap, cur, h1, h2, h3⟩
  · exact .inl h0
  · exact .inr ⟨g, cap, cur, h1, Nat.le_trans hB h2, h3⟩
theorem own_later {w w' : World} {B e s n : Nat} {v : Value} {xs : List Value} (h : w.ownsRow B e s v n xs) (hb : Below w.heap.size w w') : w'.ownsRow B e s v n xs :=
  h.kept (grown_later hb) (by cases v.ownBlock <;> simp)
theorem own_set {w : World} {B e s n g k : Nat} {v u : Value} {xs : List Value} (h : w.ownsRow B e s v n xs) (hne : v.ownBlock ≠ some g) : (w.setCell ⟨g, k, none⟩ u).ownsRow B e s v n xs :=
  h.kept (grown_set w g k u) (.inr hne)
theorem own_kept {w w' : World} {B e s n : Nat} {v : Value} {xs : List Value} {row : Option Nat} (h : w.ownsRow B e s v n xs) (hg : w.grownBy w' row) (hne : ∀ k, v.ownBlock = some k → row ≠ some k) : w'.ownsRow B e s v n xs :=
  h.kept hg (by
    cases hv : v.ownBlock with
    | none => exact .inl rfl
    | some k => exact .inr (fun e => hne k hv e.symm))

end Go.Proofs.YtpolajoephjdhaaGreatDoor
