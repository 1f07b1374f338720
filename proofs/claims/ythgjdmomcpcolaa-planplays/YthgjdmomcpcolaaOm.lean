/-
  Plan: Order, plain: what is left to be done.
-/
import Derived.Test.YthgjdmomcpcolaaAl
import Derived.Test.YthgjdmomcpcolaaSg
namespace Go.Proofs.Ythgjdmomcpcolaa
open Go.RowKit
def res (sts : List (List Nat)) (ps : List Int) (acc : List Nat) : Option (List Nat) := (ordS sts (ps.drop acc.length)).map (acc ++ ·)
def res1 (left : List Nat) (sts : List (List Nat)) (ps : List Int) (acc : List Nat) : Option (List Nat) := (ord1 ((ps.drop acc.length).take left.length) left).bind fun b => (ordS sts (ps.drop (acc.length + left.length))).map (acc ++ b ++ ·)
theorem res_cons (st : List Nat) (sts : List (List Nat)) (ps : List Int) (acc : List Nat) : res (st :: sts) ps acc = res1 st sts ps acc := by
  unfold res res1
  rw [ordS, List.drop_drop]
  cases ord1 ((ps.drop acc.length).take st.length) st with
  | none => rfl
  | some b =>
    simp only [Option.bind_some, Option.map_map]
    congr 1
    funext x
    simp
theorem res1_nil (sts : List (List Nat)) (ps : List Int) (acc : List Nat) : res1 [] sts ps acc = res sts ps acc := by
  unfold res res1
  simp [ord1]
theorem res_nil (ps : List Int) (acc : List Nat) : res [] ps acc = some acc := by
  simp [res, ordS]
theorem res1_at {left : List Nat} {ps : List Int} {acc : List Nat} (h : acc.length < ps.length) (hl : 0 < left.length) : (ps.drop acc.length).take left.length = ps[acc.length] :: ((ps.drop (acc.length + 1)).take (left.length - 1)) := by
  rw [List.drop_eq_getElem_cons h]
  obtain ⟨n, hn⟩ : ∃ n, left.length = n + 1 := ⟨left.length - 1, by omega⟩
  rw [hn, List.take_succ_cons, Nat.add_sub_cancel]
theorem res1_bad {left : List Nat} {sts : List (List Nat)} {ps : List Int} {acc : List Nat} (h : acc.length < ps.length) (hl : 0 < left.length) (hk : ¬ (0 ≤ ps[acc.length] ∧ ps[acc.length] < left.length)) : res1 left sts ps acc = none := by
  unfold res1
  rw [res1_at h hl, ord1, if_neg hk]
  rfl
theorem res1_step {left : List Nat} {sts : List (List Nat)} {ps : List Int} {acc : List Nat} (h : acc.length < ps.length) (hl : 0 < left.length) (k : Nat) (hk : ps[acc.length] = (k : Int)) (hkl : k < left.length) : res1 left sts ps acc = res1 (left.eraseIdx k) sts ps (acc ++ [left[k]]) := by
  unfold res1
  rw [res1_at h hl, ord1, hk, if_pos ⟨by omega, by omega⟩, Int.toNat_natCast, List.length_eraseIdx_of_lt hkl, List.length_append, List.length_singleton, List.getD_eq_getElem?_getD, List.getElem?_eq_getElem hkl, Option.getD_some]
  cases ord1 ((ps.drop (acc.length + 1)).take (left.length - 1)) (left.eraseIdx k) with
  | none => rfl
  | some b =>
    simp only [Option.map_some, Option.bind_some]
    rw [show acc.length + 1 + (left.length - 1) = acc.length + left.length by omega]
    congr 1
    funext x
    simp
/-- What Order answers. -/
def ordR (sts : List (List Nat)) (n : Nat) (ps : List Int) : Option (List Nat) := if (if ps = [] then List.replicate n 0 else ps).length = n then ordS sts (if ps = [] then List.replicate n 0 else ps) else none
theorem map_erase {α β : Type} (f : α → β) (l : List α) (k : Nat) : (l.eraseIdx k).map f = (l.map f).eraseIdx k := by
  induction l generalizing k with
  | nil => rfl
  | cons x t ih => cases k <;> simp [ih]
theorem wpList_make_cap {P : Program} (w : World) {ops : Array Oper} {rest : List Oper} {o : Oper} {a : Act} {Q : Exit → Act → World → Prop}
    (hg : o.guard = none) (l c : Operand) (t : TypeId) (hop : o.op = Op.makeSlice t l c)
    (e : TypeId) (i : TypeInfo) (z : Value) (h1 : P.underlying t = some (.slice e)) (h2 : P.info? e = some i) (h3 : i.zero = some z)
    (kl kc : IntKind) (L C : Int) (n m : Nat) (hl : a.eval l = .int kl L) (hc : a.eval c = .int kc C) (hL : L = (n : Int)) (hC : C = (m : Int)) (hnm : n ≤ m) (b2 : i.bytes * m ≤ 281474976710656) (b3 : m ≤ maxLen)
    (hK : ∀ w', Hid (w'.heap[w.heap.size]? = some (.cells (madeCells z.cells (m * i.size)) e (0, 0))) → w.grownBy w' none → wpList P ops Q rest (a.put o.dst (.slice (some ⟨w.heap.size, 0, none⟩) n m)) w') :
    wpList P ops Q (o :: rest) a w := by
  refine wpList_plain hg fun K hK' => ?_
  have h63' : (m : Int) ≤ 9223372036854775807 := by
    have h := b3
    simp [maxLen] at h
    omega
  have hb' : (i.bytes : Int) * (m : Int) ≤ 281474976710656 := by
    have h : ((i.bytes * m : Nat) : Int) ≤ 281474976710656 := by omega
    rwa [Int.natCast_mul] at h
  have hrun := run_make (P := P) w t e i z h1 h2 h3 kl kc n m (by omega) (by omega) hb' h63'
  simp only [Int.toNat_natCast] at hrun
  subst hL
  subst hC
  unfold Oper.wp
  simp [execOp, hop, hl, hc, hrun, Result.andThen]
  exact hK' _ _ (hK _ (heap_alloc_new w _) (World.grownBy_alloc w _ none))
/-- Under way: this much of the order stands. -/
def Ov (w : World) (vo : Value) (acc : List Nat) (W : World) : Prop := Rw W w.heap.size vo (up acc) ∧ Below w.heap.size w W
theorem Ov.later {w W W' : World} {vo : Value} {acc : List Nat} (h : Ov w vo acc W) (hb : Below W.heap.size W W') : Ov w vo acc W' := ⟨own_later h.1 hb, below_on h.2 hb⟩
end Go.Proofs.Ythgjdmomcpcolaa
