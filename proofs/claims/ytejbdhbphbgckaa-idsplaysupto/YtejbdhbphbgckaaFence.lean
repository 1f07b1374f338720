/-
  A pool beside what others own; pick; the document's example.
-/
import Derived.Test.YtejbdhbphbgckaaFrom
import Derived.Test.YtejbdhbphbgckaaTake
import Derived.Test.YtejbdhbphbgckaaAll
namespace Go.Proofs.Ytejbdhbphbgckaa
open Go.RowKit
/-- A pool whose blocks are at least B, none of them fenced (N). -/
def Pf (B : Nat) (N : Nat → Prop) (w : World) (g n : Nat) (gs fr : List Nat) : Prop :=
  ∃ S, Pl w S g n gs fr ∧ (∀ k, S k → B ≤ k ∧ k < w.heap.size ∧ ¬ N k) ∧ (∀ k, N k → k < w.heap.size) ∧ B ≤ w.heap.size
def KeptN (N : Nat → Prop) (w w' : World) : Prop := ∀ k, N k → w'.heap[k]? = w.heap[k]?
theorem Pl.tight {w : World} {S : Nat → Prop} {g n : Nat} {gs fr : List Nat} (h : Pl w S g n gs fr) : Pl w (fun k => S k ∧ k < w.heap.size) g n gs fr := by
  obtain ⟨⟨vg, vl, vf, hp, s0, s1, s2, s3⟩, ho⟩ := h
  exact ⟨⟨vg, vl, vf, hp, ⟨s0, hp.lt⟩, fun k e => ⟨s1 k e, (hp.2.1.lt k e).2⟩, fun k e => ⟨s2 k e, (hp.2.2.1.lt k e).2⟩, fun k e => ⟨s3 k e, (hp.2.2.2.1.lt k e).2⟩⟩, ho⟩
section
variable {B g n : Nat} {N N' : Nat → Prop} {w w' : World} {gs fr gs' fr' : List Nat}
theorem Pf.ok (h : Pf B N w g n gs fr) : Ok n gs fr := by
  obtain ⟨S, h1, -⟩ := h
  exact h1.2
theorem Pf.turn (h : Pf B N w g n gs fr) : ∃ S, Pl w S g n gs fr ∧ ∀ w' gs' fr', Pl w' (Nw w S) g n gs' fr' → Mv w w' S → Pf B N w' g n gs' fr' ∧ KeptN N w w' ∧ Below B w w' := by
  obtain ⟨S, h1, h2, h3, h4⟩ := h
  refine ⟨S, h1, fun w' gs' fr' hp hm => ⟨⟨_, hp.tight, fun k e => ?_, fun k e => Nat.lt_of_lt_of_le (h3 k e) hm.size, Nat.le_trans h4 hm.size⟩, fun k e => hm.2.2.2.2 k (h3 k e) (fun e' => (h2 k e').2.2 e), hm.below h4 (fun k e => (h2 k e).1)⟩⟩
  obtain ⟨e, hlt⟩ := e
  rcases e with e | e
  · exact ⟨(h2 k e).1, hlt, (h2 k e).2.2⟩
  · exact ⟨by omega, hlt, fun e' => by have := h3 k e'; omega⟩
/-- New memory; other blocks of it may be fenced. -/
theorem Pf.fence (h : Pf B N w g n gs fr) (hb : Below w.heap.size w w') (hN : ∀ k, N' k → (N k ∨ w.heap.size ≤ k) ∧ k < w'.heap.size) : Pf B N' w' g n gs fr := by
  obtain ⟨S, h1, h2, h3, h4⟩ := h
  have hsz := hb.size
  refine ⟨S, h1.later hb, fun k e => ⟨(h2 k e).1, by have := (h2 k e).2.1; omega, fun e' => ?_⟩, fun k e => (hN k e).2, by omega⟩
  rcases (hN k e').1 with h | h
  · exact (h2 k e).2.2 h
  · have := (h2 k e).2.1
    omega
theorem Pf.later (h : Pf B N w g n gs fr) (hb : Below w.heap.size w w') : Pf B N w' g n gs fr := by
  have h3 : ∀ k, N k → k < w.heap.size := by obtain ⟨_, _, _, h, _⟩ := h; exact h
  exact h.fence hb (fun k e => ⟨.inl e, Nat.lt_of_lt_of_le (h3 k e) hb.size⟩)
/-- What is fenced is written; other blocks may be fenced. -/
theorem Pf.write {row : Option Nat} (h : Pf B N w g n gs fr) (hg : w.grownBy w' row) (hr : ∀ k, row = some k → N k) (hN : ∀ k, N' k → (N k ∨ w.heap.size ≤ k) ∧ k < w'.heap.size) : Pf B N' w' g n gs fr := by
  obtain ⟨S, h1, h2, h3, h4⟩ := h
  have hsz := hg.size
  have hm : Mv w w' N := (Mv.refl w N).grown hg (fun k _ e => hr k e)
  refine ⟨S, h1.frame hm (fun k e => (h2 k e).2.2), fun k e => ⟨(h2 k e).1, by have := (h2 k e).2.1; omega, fun e' => ?_⟩, fun k e => (hN k e).2, by omega⟩
  rcases (hN k e').1 with h | h
  · exact (h2 k e).2.2 h
  · have := (h2 k e).2.1
    omega
theorem Pf.fenced (h : Pf B N w g n gs fr) : ∀ k, N k → k < w.heap.size := by
  obtain ⟨_, _, _, h, _⟩ := h
  exact h
theorem Pf.base (h : Pf B N w g n gs fr) : B ≤ w.heap.size := by
  obtain ⟨_, _, _, _, h⟩ := h
  exact h
theorem KeptN.below (hb : Below w.heap.size w w') (h : ∀ k, N k → k < w.heap.size) : KeptN N w w' := fun k e => hb.block k (h k e)
end
theorem pf_take_free {B g n i : Nat} {N : Nat → Prop} {w : World} {gs fr : List Nat} (h : Pf B N w g n gs (i :: fr)) :
    Calls Try.prog 13 #[.pointer (some ⟨g, 0, none⟩)] w fun e w' => e = .returned (.tuple #[ev (i, gs.getD i 0 + 1), .int .i64 0]) ∧ Pf B N w' g n (gs.set i (gs.getD i 0 + 1)) fr ∧ KeptN N w w' ∧ Below B w w' := by
  obtain ⟨S, h1, h2⟩ := h.turn
  refine (take_free h1).mono ?_
  rintro e w' ⟨rfl, hp, hm⟩
  exact ⟨rfl, h2 w' _ _ hp hm⟩
theorem pf_take_new {B g n : Nat} {N : Nat → Prop} {w : World} {gs : List Nat} (h : Pf B N w g n gs []) (hn : gs.length < n) :
    Calls Try.prog 13 #[.pointer (some ⟨g, 0, none⟩)] w fun e w' => e = .returned (.tuple #[ev (gs.length, 1), .int .i64 0]) ∧ Pf B N w' g n (gs ++ [1]) [] ∧ KeptN N w w' ∧ Below B w w' := by
  obtain ⟨S, h1, h2⟩ := h.turn
  refine (take_new h1 hn).mono ?_
  rintro e w' ⟨rfl, hp, hm⟩
  exact ⟨rfl, h2 w' _ _ hp hm⟩
theorem pf_take_full {B g : Nat} {N : Nat → Prop} {w : World} {gs : List Nat} (h : Pf B N w g gs.length gs []) :
    Calls Try.prog 13 #[.pointer (some ⟨g, 0, none⟩)] w fun e w' => e = .returned (.tuple #[ev (0, 0), .int .i64 40]) ∧ Below w.heap.size w w' := by
  obtain ⟨S, h1, -⟩ := h
  exact take_full h1
theorem pf_give {B g n i : Nat} {N : Nat → Prop} {w : World} {gs fr : List Nat} (h : Pf B N w g n gs fr) (hi : i < gs.length) (hl : gs.getD i 0 ≤ 1000000) (hf : i ∉ fr) :
    Calls Try.prog 12 #[.pointer (some ⟨g, 0, none⟩), ev (i, gs.getD i 0)] w fun e w' => e = .returned (.int .i64 0) ∧ Pf B N w' g n (if gs.getD i 0 = 1000000 then gs.set i 1000001 else gs) (if gs.getD i 0 = 1000000 then fr else fr ++ [i]) ∧ KeptN N w w' ∧ Below B w w' := by
  obtain ⟨S, h1, h2⟩ := h.turn
  refine (give_live h1 hi hl hf).mono ?_
  rintro e w' ⟨rfl, hp, hm⟩
  exact ⟨rfl, h2 w' _ _ hp hm⟩
def pk (c : Int) (n : Nat) : Nat := ((if c < 0 then -(c + 1) else c).tmod n).toNat
theorem pk_of {c : Int} {n : Nat} (hn : 0 < n) : pk c n < n ∧ (if c < 0 then -(c + 1) else c).tmod n = (pk c n : Int) := by
  have key : ∀ x : Int, 0 ≤ x → (x.tmod n).toNat < n ∧ x.tmod n = ((x.tmod n).toNat : Int) := fun x hx => by
    have e1 := Int.tmod_eq_emod_of_nonneg (a := x) (b := n) hx
    have e2 := Int.emod_nonneg x (show (n : Int) ≠ 0 by omega)
    have e3 := Int.emod_lt_of_pos x (show (0 : Int) < n by omega)
    exact ⟨by omega, by omega⟩
  unfold pk
  split
  · exact key _ (by omega)
  · exact key _ (by omega)
theorem pk_lt (c : Int) {n : Nat} (hn : 0 < n) : pk c n < n := (pk_of hn).1
set_option maxHeartbeats 1000000 in
theorem pick_any (c : Int) (n : Nat) (w : World) (h0 : -9223372036854775808 ≤ c) (h1 : c ≤ 9223372036854775807) (hn : 0 < n) (hm : n ≤ 9223372036854775807) :
    Calls Try.prog 11 #[.int .i64 c, .int .i64 n] w fun e w' => e = .returned (.int .i64 (pk c n)) ∧ w' = w := by
  have hz : ((n : Int) == 0) = false := by rw [beq_eq_false_iff_ne]; omega
  obtain ⟨_, e⟩ := pk_of (c := c) hn
  by_cases hc : c < 0
  · rw [if_pos hc] at e
    have E := hide e
    clear e
    go_enter Try.func11, Try.ntmps11
    go_wp2
    go_ret
    exact ⟨ret_int (by rw [← E.out, Int.neg_tmod]), rfl⟩
  · rw [if_neg hc] at e
    have E := hide e
    clear e
    go_enter Try.func11, Try.ntmps11
    go_wp2
    go_ret
    exact ⟨ret_int (by rw [← E.out, Int.tmod_eq_emod_of_nonneg (by omega)]), rfl⟩
/-- A variable of an entity. -/
def Vx (w : World) (b : Nat) (p : Nat × Nat) : Prop := w.heap[b]? = some (.cells #[.int .i64 (p.1 : Int), .int .i64 (p.2 : Int)] 41 (0, 0))
theorem Vx.cell {w : World} {b : Nat} {p : Nat × Nat} (h : Vx w b p) : w.cell? ⟨b, 0, none⟩ = some (.int .i64 (p.1 : Int)) ∧ w.cell? ⟨b, 1, none⟩ = some (.int .i64 (p.2 : Int)) := by
  constructor <;> rw [cell_of_row w b _ _ 41 (0, 0) h] <;> rfl
theorem Vx.mk (w : World) (p : Nat × Nat) : Vx (w.alloc (.cells #[.int .i64 (p.1 : Int), .int .i64 (p.2 : Int)] 41)) w.heap.size p := heap_alloc_new w _
theorem Vx.lt {w : World} {b : Nat} {p : Nat × Nat} (h : Vx w b p) : b < w.heap.size := lt_of_block h
end Go.Proofs.Ytejbdhbphbgckaa
