import Derived.Test.YtkohlhnkaklnpaaLent
import Derived.Laws.AppendOwnNone
import Derived.Deep.DeepCutAuto
import Derived.Deep.RegionWith
import Derived.Deep.RegionHeld3
import Derived.Deep.QuietTactic
import Derived.BigQuiet
/-
  PackBack's walk: what its texts share.
-/
namespace Go.Proofs.Ytkohlhnkaklnpaa
open Go.RowKit

def NilOr (v : Value) : Prop := v = .slice none 0 0 ∨ ∃ ad m c, v = .slice (some ad) m c
/-- 'append(v, b...)', v the call's own, b whatever slice of bytes. -/
theorem wpList_append_bs (w : World) {ops : Array Oper} {rest : List Oper} {o : Oper} {a : Act} {Q : Exit → Act → World → Prop} (hgd : o.guard = none) (s x : Operand)
    (ho : o.op = .call { callee := .builtin .append, args := #[s, x], argTypes := #[22, 22] })
    (base : Nat) (v : Value) (n : Nat) (xs : List Value) (hs : a.eval s = v) (hown : w.ownsRow base 5 1 v n xs)
    (vb : Value) (bb : List UInt8) (hx : a.eval x = vb) (hb : Bs w vb bb) (hv : NilOr vb) (hlim : n + bb.length ≤ 140737488355328) (hbase : base ≤ w.heap.size)
    (h : ∀ v' w', w'.ownsRow base 5 1 v' (n + bb.length) (xs ++ Lib.byteCells bb) → Below base w w' → wpList Try.prog ops Q rest (a.put o.dst v') w') : wpList Try.prog ops Q (o :: rest) a w := by
  obtain ⟨i0, hi, hz0, hz1, hz2⟩ := info_parts info5
  obtain ⟨ao, c, rfl, h1, h2, h3⟩ := hb
  rcases hv with hv | ⟨ad, m, c', hv⟩
  · simp only [Value.slice.injEq] at hv
    obtain ⟨rfl, hl, rfl⟩ := hv
    obtain rfl : bb = [] := List.eq_nil_of_length_eq_zero hl
    refine wpList_append_own_none hgd s x 22 ho base 5 i0 1 Try.underlying22 hi v n xs hs hown hx (h v w ?_ (Below.refl _ _))
    simpa [Lib.byteCells] using hown
  · simp only [Value.slice.injEq] at hv
    obtain ⟨rfl, rfl, rfl⟩ := hv
    refine wpList_append_own w hgd s x 22 ho base 5 i0 (.int .u8 0) 1 1 Try.underlying22 hi hz0 hz1 hz2 rfl (by decide) v n xs hs hown ad bb.length c (Lib.byteCells bb) hx (by simp [Lib.byteCells]) ?_ (byteCells_one bb) (by unfold maxLen; omega) (by omega) hbase ?_
    · intro j u hj
      obtain ⟨hjl, rfl⟩ := byteCells_at hj
      obtain ⟨g, o', e, hc⟩ := h3 j hjl
      cases e
      rw [show (⟨g, o', none⟩ : Addr).add j = ⟨g, o' + j, none⟩ by simp [Addr.add]]
      exact hc
    · intro v' w' ho' hg _
      exact h v' w' ho' ((Below.refl base w).grown hg hbase (fun k hk => (hown.lt k hk).1))

theorem below_next {B B' : Nat} {w0 w w' : World} (h : Below B w0 w ∧ B ≤ w.heap.size) (hB : B ≤ B') (hb : Below B' w w') : Below B w0 w' ∧ B ≤ w'.heap.size :=
  ⟨h.1.trans (hb.mono hB), Nat.le_trans h.2 hb.size⟩
end Go.Proofs.Ytkohlhnkaklnpaa
