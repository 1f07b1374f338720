import Derived.Test.YtkohlhnkaklnpaaRdR
/-
  RecordReads: a round of Walk: what it keeps. No walk in this text.
-/
namespace Go.Proofs.Ytkohlhnkaklnpaa
open Go.RowKit Go.Shelf
def firstOf : Code → Code
  | .seq a _ => a
  | c => c
def secondOf : Code → Code
  | .seq _ b => b
  | c => c
def unblock : Code → Code
  | .block _ c => c
  | c => c
def unloop : Code → Code
  | .loop c => c
  | c => c
def rangeBody : Code → Code
  | .rangeFunc _ _ _ b => b
  | c => c
/-- A turn. -/
noncomputable def turnC : Code := unloop (unblock (secondOf (firstOf (tailN 37 body16))))
noncomputable def xC : Code := unblock (firstOf (secondOf turnC))
/-- A round of Walk. -/
noncomputable def wBody : Code := rangeBody (unblock (secondOf (firstOf (secondOf (secondOf xC)))))
/-- What stays as it is while it is walked. -/
def Sf (t stop : Int) (b : List UInt8) (w0 : World) (qB aB bW bx : Nat) (va vo : Value) (ds : List (List UInt8)) (V : World) : Prop :=
  V.heap[qB]? = some (.cells #[.int .i64 t] 3 (0, 0)) ∧ V.heap[w0.heap.size]? = some (.cells #[.int .i64 stop] 3 (0, 0)) ∧ Al aB va ds V ∧
  V.heap[bW]? = some (.cells #[.func (.func 32) #[] #[.pointer (some ⟨bx, 0, none⟩)]] 45 (0, 0)) ∧ V.heap[bx]? = some (.cells #[vo] 22 (0, 0)) ∧ V.ownsRow 0 5 1 vo b.length (Lib.byteCells b)
/-- Three boxes that are written. -/
def Bx (iB pB tB : Nat) : Nat → Prop := fun k => k = iB ∨ k = pB ∨ k = tB
/-- What was told so far. f: how the box of both lists holds this one. -/
def Ti (b : List UInt8) (iB pB tB : Nat) (f : Value → Array Value) (wS : World) (ds' : List (List UInt8)) (W : World) : Prop :=
  ∃ kk lt us, Rc.Told b ds' kk ∧ W.heap[iB]? = some (.cells #[.int .i64 (ds'.length : Nat)] 3 (0, 0)) ∧ W.heap[pB]? = some (.cells #[.int .i64 (kk : Nat)] 3 (0, 0)) ∧ W.heap[tB]? = some (.cells (f lt) 56 (0, 0)) ∧
    W.ownsRow wS.heap.size 22 1 lt ds'.length us ∧ Pieces W wS.heap.size us ds' ∧ Mv wS W (Bx iB pB tB)
theorem pieces_kept {W W' : World} {B : Nat} {vs : List Value} {ds : List (List UInt8)} {row : Option Nat} (h : Pieces W B vs ds) (hg : W.grownBy W' row) (hr : ∀ r, row = some r → ∃ o : Obj, W.heap[r]? = some o ∧ o.isCells = false) : Pieces W' B vs ds :=
  ⟨h.1, fun i i1 i2 => ⟨(h.2.1 i i1 i2).1.kept hg hr, (h.2.1 i i1 i2).2⟩, h.2.2⟩
theorem Ti.own {b : List UInt8} {iB pB tB : Nat} {f : Value → Array Value} {wS : World} : OwnFrom wS.heap.size (Ti b iB pB tB f wS) := by
  intro ds' W W' row ⟨kk, lt, us, h1, h2, h3, h4, h5, h6, h7⟩ hg hr
  have hr' := fun r e => (hr r e).2
  exact ⟨kk, lt, us, h1, heap_kept h2 rfl hg hr', heap_kept h3 rfl hg hr', heap_kept h4 rfl hg hr', own_kept h5 hg hr', pieces_kept h6 hg hr', h7.trans (S' := fun k => row = some k) ⟨hg.1, hg.2, hg.3, hg.size, fun k hk hs => hg.block k hk (fun e => hs e.symm)⟩ (fun k hk e => absurd (hr k e).1 (by omega))⟩
theorem piece_ap {w : World} {B B' n : Nat} {u v : Value} {l : List UInt8} {ys : List Value} (h : Piece w B u l) (h2 : w.ownsRow B' 22 1 v n ys) : Ap u v := by
  intro g hu hv
  rcases h with ⟨rfl, _⟩ | ⟨g1, o, cur1, rfl, _, _, _, e1, _⟩
  · simp [Value.ownBlock] at hu
  · rcases h2.2 with ⟨rfl, _⟩ | ⟨g2, c2, cur2, rfl, _, e2, _⟩
    · simp [Value.ownBlock] at hv
    · simp only [Value.ownBlock, Option.some.injEq] at hu hv
      subst hu
      subst hv
      rw [e1] at e2
      simp at e2
end Go.Proofs.Ytkohlhnkaklnpaa
