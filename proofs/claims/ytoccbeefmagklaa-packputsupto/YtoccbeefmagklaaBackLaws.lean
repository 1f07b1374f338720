/-
  PackBack's walk: what its texts share.
-/
import Derived.Test.YtoccbeefmagklaaShown
import Derived.Test.YtoccbeefmagklaaBackRow
import Derived.Laws.AppendOwnNone
import Derived.Deep.DeepCutAuto
import Derived.Deep.RegionWith
import Derived.Deep.RegionHeld3
import Derived.Deep.QuietTactic
import Derived.BigQuiet
namespace Go.Proofs.Ytoccbeefmagklaa
open Go.RowKit

def NilOr (v : Value) : Prop := v = .slice none 0 0 ∨ ∃ ad m c, v = .slice (some ad) m c
/-- 'append(v, b...)', v the call's own, b whatever slice of bytes. -/
theorem wpList_append_bs (w : World) {ops : Array Oper} {rest : List Oper} {o : Oper} {a : Act} {Q : Exit → Act → World → Prop} (hgd : o.guard = none) (s x : Operand)
    (ho : o.op = .call { callee := .builtin .append, args := #[s, x], argTypes := #[22, 22] })
    (base : Nat) (v : Value) (n : Nat) (xs : List Value) (hs : a.eval s = v) (hown : w.ownsRow base 5 1 v n xs)
    (vb : Value) (bb : List UInt8) (hx : a.eval x = vb) (hb : Bs w vb bb) (hv : NilOr vb) (hlim : n + bb.length ≤ 140737488355328) (hbase : base ≤ w.heap.size)
    (h : ∀ v' w', w'.ownsRow base 5 1 v' (n + bb.length) (xs ++ Lib.byteCells bb) → Below base w w' → wpList Try.prog ops Q rest (a.put o.dst v') w') : wpList Try.prog ops Q (o :: rest) a w := by
  obtain ⟨i0, hi, hz0, hz1, hz2⟩ := info_parts info5
  obtain ⟨ao, c, rfl, h1, h2, h3⟩ := hb
  rcases hv with hv | ⟨ad, m, c', hv⟩
  · simp only [Value.slice.injEq] at hv
    obtain ⟨rfl, hl, rfl⟩ := hv
    obtain rfl : bb = [] := List.eq_nil_of_length_eq_zero hl
    refine wpList_append_own_none hgd s x 22 ho base 5 i0 1 Try.underlying22 hi v n xs hs hown hx (h v w ?_ (Below.refl _ _))
    simpa [Lib.byteCells] using hown
  · simp only [Value.slice.injEq] at hv
    obtain ⟨rfl, rfl, rfl⟩ := hv
    refine wpList_append_own w hgd s x 22 ho base 5 i0 (.int .u8 0) 1 1 Try.underlying22 hi hz0 hz1 hz2 rfl (by decide) v n xs hs hown ad bb.length c (Lib.byteCells bb) hx (by simp [Lib.byteCells]) ?_ (byteCells_one bb) (by unfold maxLen; omega) (by omega) hbase ?_
    · intro j u hj
      obtain ⟨hjl, rfl⟩ := byteCells_at hj
      obtain ⟨g, o', e, hc⟩ := h3 j hjl
      cases e
      rw [show (⟨g, o', none⟩ : Addr).add j = ⟨g, o' + j, none⟩ by simp [Addr.add]]
      exact hc
    · intro v' w' ho' hg _
      exact h v' w' ho' ((Below.refl base w).grown hg hbase (fun k hk => (hown.lt k hk).1))

theorem text_back (s : ByteArray) (b : List UInt8) (h : s.size < 18446744073709551616) : textN (Lib.uvarint s.size ++ s.data.toList ++ b) = (s.data.toList, (Lib.uvarint s.size).length + s.size) := by
  have hl : s.data.toList.length = s.size := by simp
  have p1 := Lib.uvarint_pos s.size
  unfold textN
  rw [List.append_assoc, getN_put h]
  simp only
  rw [if_neg (by simp only [List.length_append]; omega), List.drop_left, List.take_left' hl]
theorem text_of (s : ByteArray) : (⟨s.data.toList.toArray⟩ : ByteArray) = s := by simp

theorem below_next {B B' : Nat} {w0 w w' : World} (h : Below B w0 w ∧ B ≤ w.heap.size) (hB : B ≤ B') (hb : Below B' w w') : Below B w0 w' ∧ B ≤ w'.heap.size :=
  ⟨h.1.trans (hb.mono hB), Nat.le_trans h.2 hb.size⟩
theorem text_le (b : List UInt8) : (textN b).2 ≤ b.length ∧ (textN b).1.length ≤ b.length := by
  have := Dec.getN_le b
  unfold textN
  split
  · exact ⟨Nat.zero_le _, Nat.zero_le _⟩
  · exact ⟨by simp only; omega, by simp; omega⟩
theorem text_back' (b : List UInt8) : (textN b).2 ≠ 0 → Lib.uvarint (textN b).1.length ++ (textN b).1 = b.take (textN b).2 := by
  have hle := Dec.getN_le b
  unfold textN
  split
  · intro h; exact absurd rfl h
  · rename_i hb
    intro _
    have hg := getN_back (b := b) (n := (Dec.getN b).1) (s := (Dec.getN b).2) rfl (fun e => hb (.inl e))
    simp only
    rw [List.take_add, hg.1, List.length_take, List.length_drop, show min (Dec.getN b).1 (b.length - (Dec.getN b).2) = (Dec.getN b).1 by omega]
theorem bs_take {w : World} {ao : Option Addr} {c q : Nat} {l : List UInt8} (h : Bs w (.slice ao l.length c) l) (hq : q ≤ l.length) : Bs w (.slice ao q c) (l.take q) := by
  obtain ⟨ao', c', e, h1, h2, h3⟩ := h
  simp only [Value.slice.injEq, true_and] at e
  obtain ⟨rfl, rfl⟩ := e
  refine ⟨ao, c, by simp; omega, by simp; omega, h2, fun j hj => ?_⟩
  simp at hj
  obtain ⟨g, o, e, hc⟩ := h3 j (by omega)
  exact ⟨g, o, e, by rw [hc]; simp⟩
/-- A world of the last statement. -/
def GG (w0 : World) (v : Value) (rr : List Int) (W : World) : Prop := Below w0.heap.size w0 W ∧ w0.heap.size ≤ W.heap.size ∧ Ns W v rr
theorem GG.on {w0 W W' : World} {v : Value} {rr : List Int} (h : GG w0 v rr W) (hb : Below W.heap.size W W') : GG w0 v rr W' :=
  ⟨h.1.trans (hb.mono h.2.1), Nat.le_trans h.2.1 hb.size, h.2.2.below hb (Nat.le_refl _)⟩
theorem c_put {w0 : World} {v : Value} {rr : List Int} {S : List UInt8} (x : Nat) (hx : x < 18446744073709551616) (hS : S = Lib.uvarint x) (W : World) (hG : GG w0 v rr W) :
    Calls Try.prog 10 #[.slice none 0 0, .int .u64 x] W fun e w' => ∃ v', e = .returned v' ∧ (convert 22 9 v').run Try.prog w' = .ok (.string ⟨S.toArray⟩) w' ∧ GG w0 v rr w' :=
  (put_bs _ [] x W (Bs.nil _) hx (by simp)).mono fun _ _ ⟨v', a, b, c⟩ => ⟨v', a, by rw [hS]; exact conv_bs b, hG.on c⟩
theorem c_putInt {w0 : World} {v : Value} {rr : List Int} {S : List UInt8} (x : Nat) (h0 : -9223372036854775808 ≤ Dec.unzig x) (h1 : Dec.unzig x ≤ 9223372036854775807) (hzz : Lib.zigzag (Dec.unzig x) = x) (hS : S = Lib.uvarint x) (W : World) (hG : GG w0 v rr W) :
    Calls Try.prog 11 #[.slice none 0 0, .int .i64 (Dec.unzig x)] W fun e w' => ∃ v', e = .returned v' ∧ (convert 22 9 v').run Try.prog w' = .ok (.string ⟨S.toArray⟩) w' ∧ GG w0 v rr w' :=
  (putInt_bs _ [] (Dec.unzig x) W (Bs.nil _) h0 h1 (by simp)).mono fun _ _ ⟨v', a, b, c⟩ => ⟨v', a, by rw [hzz] at b; rw [hS]; exact conv_bs b, hG.on c⟩
theorem c_putText {w0 : World} {v : Value} {rr : List Int} {S : List UInt8} (tt : List UInt8) (hl : tt.length ≤ 1048576) (hS : Lib.uvarint tt.length ++ tt = S) (W : World) (hG : GG w0 v rr W) :
    Calls Try.prog 12 #[.slice none 0 0, .string ⟨tt.toArray⟩] W fun e w' => ∃ v', e = .returned v' ∧ (convert 22 9 v').run Try.prog w' = .ok (.string ⟨S.toArray⟩) w' ∧ GG w0 v rr w' :=
  (putText_bs _ [] ⟨tt.toArray⟩ W (Bs.nil _) (by simp [ByteArray.size]; omega)).mono fun _ _ ⟨v', a, b, c⟩ => ⟨v', a, by rw [← hS]; exact conv_bs (by simpa [ByteArray.size] using b), hG.on c⟩
theorem c_putRow {w0 : World} {v : Value} {rr : List Int} {S : List UInt8} (hf : Rw.AllFit rr) (hl : rr.length ≤ 1048576) (hS : Rw.rowB rr = S) (W : World) (hG : GG w0 v rr W) :
    Calls Try.prog 13 #[.slice none 0 0, v] W fun e w' => ∃ v', e = .returned v' ∧ (convert 22 9 v').run Try.prog w' = .ok (.string ⟨S.toArray⟩) w' ∧ GG w0 v rr w' :=
  (putRow_bs _ v [] rr W (Bs.nil _) hG.2.2 hf hl (by simp)).mono fun _ _ ⟨v', a, b, c⟩ => ⟨v', a, by rw [← hS]; exact conv_bs b, hG.on c⟩
theorem below_on' {B : Nat} {w0 w : World} {o : Obj} (h : Below B w0 w ∧ B ≤ w.heap.size) : Below B w0 (w.alloc o) ∧ B ≤ (w.alloc o).heap.size := ⟨h.1.alloc h.2 o, by simp; omega⟩
theorem own_nil {w : World} {B n : Nat} {v : Value} {xs : List Value} (h : w.ownsRow B 5 1 v n xs) : NilOr v := by
  rcases h.2 with ⟨rfl, h0⟩ | ⟨g, cap, cur, rfl, _⟩
  · exact .inl rfl
  · exact .inr ⟨_, _, _, rfl⟩
theorem own_len {w : World} {B n : Nat} {v : Value} {xs : List Value} (h : w.ownsRow B 5 1 v n xs) : ∃ ao c, v = .slice ao n c := by
  rcases h.2 with ⟨rfl, h0⟩ | ⟨g, cap, cur, rfl, _⟩
  · exact ⟨none, 0, by rw [h0]⟩
  · exact ⟨_, _, rfl⟩

end Go.Proofs.Ytoccbeefmagklaa
