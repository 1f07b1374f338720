import Derived.Test.YtpolajoephjdhaaGreatDoorPkD
import Derived.Test.YtpolajoephjdhaaGreatDoorPkE
import Derived.Test.YtpolajoephjdhaaGreatDoorEnM
import Derived.Laws.AppendOwnNone
/-
  The document's Get: what it tells of bytes is 'Dec.getN'.
-/
namespace Go.Proofs.YtpolajoephjdhaaGreatDoor
open Go.RowKit

theorem add_shift {k acc b : Nat} (hs : acc + b * 2 ^ (7 * k) < 18446744073709551616) :
    IntKind.u64.wrap ((acc : Int) + IntKind.u64.wrap ((b : Int) * 2 ^ (7 * k))) = ((acc + b * 2 ^ (7 * k) : Nat) : Int) := by
  have e : ((b : Int) * 2 ^ (7 * k)) = ((b * 2 ^ (7 * k) : Nat) : Int) := by
    rw [Int.natCast_mul, Int.natCast_pow]
    rfl
  rw [e, IntKind.wrap_u64, IntKind.wrap_u64]
  generalize b * 2 ^ (7 * k) = q at *
  omega

set_option maxHeartbeats 4000000 in
set_option maxRecDepth 100000 in
theorem rget_some (g o c : Nat) (l : List UInt8) (w : World) (hl : l.length ≤ maxLen) (hcell : ∀ j (hj : j < l.length), w.cell? ⟨g, o + j, none⟩ = some (.int .u8 (l[j]).toNat)) :
    Calls Tryz.prog 62 #[.slice (some ⟨g, o, none⟩) l.length c] w fun e w' => e = .returned (.tuple #[.int .u64 (Dec.getN l).1, .int .i64 (Dec.getN l).2]) ∧ w' = w := by
  unfold maxLen at hl
  go_enter Tryz.func62, Tryz.ntmps62
  go_wp2
  go_loop [4, 5] (fun s i => ∃ k acc : Nat, k ≤ l.length ∧ k ≤ 9 ∧ i = .int .i64 k ∧ s = .int .u64 acc ∧ Hid (acc < 2 ^ (7 * k)) ∧ Hid (Dec.getN l = Dec.getFrom k acc (l.drop k))) (fun _ i => l.length - (intOf i).toNat)
  case atStart => exact ⟨0, 0, Nat.zero_le _, by omega, rfl, rfl, by simp [Hid], rfl⟩
  case round =>
    obtain ⟨k, acc, hk, hk9, rfl, rfl, HA, hdec⟩ := hrel
    by_cases hlt : k < l.length
    · have hc := hcell k hlt
      have hdrop : l.drop k = l[k]'(by omega) :: l.drop (k + 1) := List.drop_eq_getElem_cons (by omega)
      have hdec1 := hdec.out
      rw [hdrop] at hdec1
      generalize l[k]'(by omega) = b at hc hdec1
      clear hdec hdrop hcell
      have hb := b.toNat_lt
      have HD := hide hdec1
      clear hdec1
      have e10 : (k : Int) < 10 := by omega
      have elt : (k : Int) < (l.length : Int) := by omega
      rcases (show k < 9 ∨ k = 9 by omega) with h9 | rfl
      · have en9 : ((k : Int) == 9) = false := by simp; omega
        have hp : 2 ^ (7 * k) ≤ 2 ^ 56 := Nat.pow_le_pow_right (by omega) (by omega)
        have h56 : 2 ^ 56 = 72057594037927936 := by decide
        have h3 := Nat.mul_le_mul_right (2 ^ (7 * k)) (show b.toNat % 128 ≤ 127 by omega)
        have f0 := add_shift (acc := acc) (k := k) (b := b.toNat % 128) (by have := HA.out; omega)
        have F := hide (show IntKind.u64.wrap ((acc : Int) + IntKind.u64.wrap ((b.toNat : Int) % 128 * 2 ^ (7 * k))) = ((acc + b.toNat % 128 * 2 ^ (7 * k) : Nat) : Int) from f0)
        have HP := hide h3
        clear hp h56 h3 f0
        by_cases hbig : 128 ≤ b.toNat
        · have eb : (128 : Int) ≤ (b.toNat : Int) := by omega
          go_wp2
          refine ⟨⟨k + 1, acc + b.toNat % 128 * 2 ^ (7 * k), by omega, by omega, by go_num, val_int F.out, ?_, HD.out.trans (Dec.getFrom_more (by omega) hbig)⟩, by simp [intOf]; omega⟩
          show acc + b.toNat % 128 * 2 ^ (7 * k) < 2 ^ (7 * (k + 1))
          rw [(pow_bound h9 (show b.toNat % 128 ≤ 127 by omega)).2]
          have h1 := HA.out
          have h3 := HP.out
          omega
        · have eb : ¬ (128 : Int) ≤ (b.toNat : Int) := by omega
          by_cases hb0 : b.toNat = 0
          · rcases (show k = 0 ∨ 0 < k by omega) with rfl | hk0
            · obtain rfl : acc = 0 := by have := HA.out; simpa using this
              have E := hide (HD.out.trans (Dec.getFrom_last (by omega) (by omega) (by omega)))
              have hc0 : w.cell? ⟨g, o, none⟩ = some (.int .u8 0) := by rw [← Nat.add_zero o, hc, hb0]; rfl
              have hz : ((b.toNat : Int) == 0) = true := by simp [hb0]
              have HB := hide hb0
              clear HD HA hb0 hc
              go_wp2
              go_ret2
              rw [E.out]
              exact ⟨ret_pair (by rw [HB.out]; rfl) rfl, rfl⟩
            · have E := hide (HD.out.trans (Dec.getFrom_bad (by omega) (by omega) (.inl ⟨hk0, hb0⟩)))
              have hz : ((b.toNat : Int) == 0) = true := by simp [hb0]
              have ek : (0 : Int) < k := by omega
              clear HD HA hb0
              go_wp2
              go_ret2
              rw [E.out]
              exact ⟨ret_pair rfl rfl, rfl⟩
          · have E := hide (HD.out.trans (Dec.getFrom_last (by omega) (by omega) (by omega)))
            have hz : ((b.toNat : Int) == 0) = false := by simp [hb0]
            have F2 := hide (show b.toNat % 128 = b.toNat by omega)
            clear HD HA hb0
            go_wp2
            go_ret2
            rw [E.out]
            exact ⟨ret_pair (by have := F.out; rw [F2.out] at this; exact this) (by simp), rfl⟩
      · have hacc9 : acc < 9223372036854775808 := by have := HA.out; simpa using this
        rcases (show b.toNat = 0 ∨ b.toNat = 1 ∨ 1 < b.toNat by omega) with hb0 | hb1 | hb2
        · have E := hide (HD.out.trans (Dec.getFrom_bad (by omega) (by omega) (.inl ⟨by omega, hb0⟩)))
          have hz : ((b.toNat : Int) == 0) = true := by simp [hb0]
          have eb : ¬ (1 : Int) < (b.toNat : Int) := by omega
          have eb' : ¬ (128 : Int) ≤ (b.toNat : Int) := by omega
          clear HD HA hb0
          go_wp2
          go_ret2
          rw [E.out]
          exact ⟨ret_pair rfl rfl, rfl⟩
        · have E := hide (HD.out.trans (Dec.getFrom_last (by omega) (by omega) (by omega)))
          have hz : ((b.toNat : Int) == 0) = false := by simp [hb1]
          have eb : ¬ (1 : Int) < (b.toNat : Int) := by omega
          have eb' : ¬ (128 : Int) ≤ (b.toNat : Int) := by omega
          have HB := hide hb1
          clear HD HA hb1
          go_wp2
          go_ret2
          rw [E.out]
          refine ⟨ret_pair ?_ rfl, rfl⟩
          rw [HB.out]
          simp only
          omega
        · have E := hide (HD.out.trans (show _ = ((0, 0) : Nat × Nat) by
            by_cases h : 128 ≤ b.toNat
            · rw [Dec.getFrom_more (by omega) h]; exact Dec.getFrom_ten _ _ _ (by omega)
            · exact Dec.getFrom_bad (by omega) (by omega) (.inr ⟨rfl, hb2⟩)))
          have eb : (1 : Int) < (b.toNat : Int) := by omega
          clear HD HA
          go_wp2
          go_ret2
          rw [E.out]
          exact ⟨ret_pair rfl rfl, rfl⟩
    · have E := hide (hdec.out.trans (show _ = ((0, 0) : Nat × Nat) by rw [List.drop_eq_nil_of_le (by omega)]; exact Dec.getFrom_nil _ _))
      have e10 : (k : Int) < 10 := by omega
      have elt : ¬ (k : Int) < (l.length : Int) := by omega
      clear hdec HA
      go_wp2
      go_ret2
      rw [E.out]
      exact ⟨ret_pair rfl rfl, rfl⟩

set_option maxHeartbeats 1000000 in
set_option maxRecDepth 100000 in
theorem rget_nil (ao : Option Addr) (c : Nat) (w : World) :
    Calls Tryz.prog 62 #[.slice ao 0 c] w fun e w' => e = .returned (.tuple #[.int .u64 0, .int .i64 0]) ∧ w' = w := by
  go_enter Tryz.func62, Tryz.ntmps62
  go_wp2
  refine wp_loop_rounds 1 ?_
  rw [rounds_succ]
  go_wp2
  go_ret2
  exact ⟨rfl, rfl⟩

/-- The document's Get: what the bytes begin with. -/
theorem rget_any (v : Value) (l : List UInt8) (w : World) (h : Bs w v l) :
    Calls Tryz.prog 62 #[v] w fun e w' => e = .returned (.tuple #[.int .u64 (Dec.getN l).1, .int .i64 (Dec.getN l).2]) ∧ w' = w := by
  rcases h.parts with ⟨ao, c, rfl, rfl⟩ | ⟨g, o, c, rfl, _, h1, h2, h3⟩
  · exact rget_nil ao c w
  · exact rget_some g o c l w (by omega) h3
end Go.Proofs.YtpolajoephjdhaaGreatDoor

/-
  The document's GetInt and GetText.
-/
namespace Go.Proofs.YtpolajoephjdhaaGreatDoor
open Go.RowKit

set_option maxHeartbeats 1000000 in
set_option maxRecDepth 100000 in
theorem runfold_any (n : Nat) (w : World) (h : n < 18446744073709551616) :
    Calls Tryz.prog 93 #[.int .u64 n] w fun e w' => e = .returned (.int .i64 (Dec.unzig n)) ∧ w' = w := by
  by_cases h2 : n % 2 = 1
  · have E := hide (show Dec.unzig n = -((n / 2 : Nat) : Int) - 1 by unfold Dec.unzig; rw [if_neg (by omega)])
    have ez : ((n : Int) % 2 == 1) = true := by simp; omega
    go_enter Tryz.func93, Tryz.ntmps93
    go_wp2
    go_ret
    refine ⟨ret_int ?_, rfl⟩
    rw [E.out]
    simp <;> omega
  · have E := hide (show Dec.unzig n = ((n / 2 : Nat) : Int) by unfold Dec.unzig; rw [if_pos (by omega)])
    have ez : ((n : Int) % 2 == 1) = false := by rw [beq_eq_false_iff_ne]; omega
    go_enter Tryz.func93, Tryz.ntmps93
    go_wp2
    go_ret
    refine ⟨ret_int ?_, rfl⟩
    rw [E.out]
    simp <;> omega

set_option maxHeartbeats 1000000 in
set_option maxRecDepth 100000 in
theorem rgetInt_any (v : Value) (l : List UInt8) (w : World) (h : Bs w v l) :
    Calls Tryz.prog 64 #[v] w fun e w' => e = .returned (.tuple #[.int .i64 (Dec.unzig (Dec.getN l).1), .int .i64 (Dec.getN l).2]) ∧ w' = w := by
  have hg := rget_any v l w h
  have hu := runfold_any (Dec.getN l).1 w (Dec.getN_lt l)
  have hn := @Dec.getN_none l
  clear h
  generalize Dec.getN l = p at *
  obtain ⟨n, k⟩ := p
  simp only at *
  by_cases hk : k = 0
  · have hz : ((k : Int) == 0) = true := by simp [hk]
    obtain rfl := hn hk
    have HK := hide hk
    clear hn hk
    go_enter Tryz.func64, Tryz.ntmps64
    go_wp2_with (first | (go_at_call 62; refine hg.mono ?_; rintro e w' ⟨rfl, rfl⟩))
    go_ret2
    rw [HK.out]
    exact ⟨rfl, rfl⟩
  · have hz : ((k : Int) == 0) = false := by simp [hk]
    clear hn hk
    go_enter Tryz.func64, Tryz.ntmps64
    go_wp2_with (first | (go_at_call 62; refine hg.mono ?_; rintro e w' ⟨rfl, rfl⟩) | (go_at_call 93; refine hu.mono ?_; rintro e w' ⟨rfl, rfl⟩))
    go_ret2
    exact ⟨rfl, rfl⟩

set_option maxHeartbeats 1000000 in
set_option maxRecDepth 100000 in
theorem rgetText_any (v : Value) (l : List UInt8) (w : World) (h : Bs w v l) :
    Calls Tryz.prog 63 #[v] w fun e w' => e = .returned (.tuple #[.string ⟨(textN l).1.toArray⟩, .int .i64 (textN l).2]) ∧ w' = w := by
  have hg := rget_any v l w h
  have h1 := Dec.getN_le l
  have h2 := Dec.getN_lt l
  by_cases hno : (Dec.getN l).2 = 0 ∨ l.length - (Dec.getN l).2 < (Dec.getN l).1
  · have E : Hid (textN l = ([], 0)) := by unfold textN; rw [if_pos hno]; rfl
    obtain ⟨ao, c, rfl, hlc, hc, _⟩ := h
    unfold maxLen at hc
    generalize Dec.getN l = p at *
    obtain ⟨n, k⟩ := p
    simp only at hno h1 h2 hg
    by_cases hk : k = 0
    · have hz : ((k : Int) == 0) = true := by simp [hk]
      clear hk hno
      go_enter Tryz.func63, Tryz.ntmps63
      go_wp2_with (go_at_call 62; refine hg.mono ?_; rintro e w' ⟨rfl, rfl⟩)
      go_ret2
      rw [E.out]
      exact ⟨rfl, rfl⟩
    · have hz : ((k : Int) == 0) = false := by simp [hk]
      have hlt : (l.length : Int) - k < n := by omega
      clear hno
      go_enter Tryz.func63, Tryz.ntmps63
      go_wp2_with (go_at_call 62; refine hg.mono ?_; rintro e w' ⟨rfl, rfl⟩)
      go_ret2
      rw [E.out]
      exact ⟨rfl, rfl⟩
  · have E : Hid (textN l = ((l.drop (Dec.getN l).2).take (Dec.getN l).1, (Dec.getN l).2 + (Dec.getN l).1)) := by unfold textN; rw [if_neg hno]; rfl
    rcases h.parts with ⟨ao, c, rfl, rfl⟩ | ⟨g, o, c, rfl, hpos, hlc, hc, hcell⟩
    · exact absurd (Or.inl rfl) hno
    unfold maxLen at hc
    generalize Dec.getN l = p at *
    obtain ⟨n, k⟩ := p
    simp only at hno h1 h2 hg E
    have hz : ((k : Int) == 0) = false := by simp; omega
    have hle : (n : Int) ≤ (l.length : Int) - k := by omega
    have hle' : ¬ ((l.length : Int) - k < n) := by omega
    by_cases hkc : k = c
    · subst hkc
      obtain rfl : n = 0 := by omega
      have hcv := conv_row w ⟨g, o, none⟩ 0 [] (fun j hj => absurd hj (by simp))
      have hcv' : (convert 22 9 (.slice (some ⟨g, o, none⟩) 0 0)).run Tryz.prog w = .ok (.string ⟨#[]⟩) w := hcv
      clear hcv hno
      go_enter Tryz.func63, Tryz.ntmps63
      go_wp2_with (go_at_call 62; refine hg.mono ?_; rintro e w' ⟨rfl, rfl⟩)
      go_ret2
      rw [E.out]
      exact ⟨by simp, rfl⟩
    · have hcv := conv_row w ⟨g, o + k, none⟩ (c - k) ((l.drop k).take n) (fun j hj => by
        simp at hj
        rw [show (⟨g, o + k, none⟩ : Addr).add j = ⟨g, o + (k + j), none⟩ by simp [Addr.add, Nat.add_assoc], hcell (k + j) (by omega)]
        simp)
      rw [show ((l.drop k).take n).length = n by simp; omega] at hcv
      clear hno
      go_enter Tryz.func63, Tryz.ntmps63
      go_wp2_with (go_at_call 62; refine hg.mono ?_; rintro e w' ⟨rfl, rfl⟩)
      go_ret2
      rw [E.out]
      exact ⟨by simp, rfl⟩
end Go.Proofs.YtpolajoephjdhaaGreatDoor

/-
  The document's Put, PutInt and PutText.
-/
namespace Go.Proofs.YtpolajoephjdhaaGreatDoor
open Go.RowKit
def NilB (v : Value) : Prop := v = .slice none 0 0 ∨ ∃ ad m c, v = .slice (some ad) m c
/-- 'append(v, b...)', v the call's own, b whatever slice of bytes. -/
theorem wpList_append_bs (w : World) {ops : Array Oper} {rest : List Oper} {o : Oper} {a : Act} {Q : Exit → Act → World → Prop} (hgd : o.guard = none) (s x : Operand)
    (ho : o.op = .call { callee := .builtin .append, args := #[s, x], argTypes := #[22, 22] })
    (base : Nat) (v : Value) (n : Nat) (xs : List Value) (hs : a.eval s = v) (hown : w.ownsRow base 5 1 v n xs)
    (vb : Value) (bb : List UInt8) (hx : a.eval x = vb) (hb : Bs w vb bb) (hv : NilB vb) (hlim : n + bb.length ≤ 140737488355328) (hbase : base ≤ w.heap.size)
    (h : ∀ v' w', w'.ownsRow base 5 1 v' (n + bb.length) (xs ++ Lib.byteCells bb) → Below base w w' → wpList Tryz.prog ops Q rest (a.put o.dst v') w') : wpList Tryz.prog ops Q (o :: rest) a w := by
  obtain ⟨i0, hi, hz0, hz1, hz2⟩ := info_parts info5
  obtain ⟨ao, c, rfl, h1, h2, h3⟩ := hb
  rcases hv with hv | ⟨ad, m, c', hv⟩
  · simp only [Value.slice.injEq] at hv
    obtain ⟨rfl, hl, rfl⟩ := hv
    obtain rfl : bb = [] := List.eq_nil_of_length_eq_zero hl
    refine wpList_append_own_none hgd s x 22 ho base 5 i0 1 Tryz.underlying22 hi v n xs hs hown hx (h v w ?_ (Below.refl _ _))
    simpa [Lib.byteCells] using hown
  · simp only [Value.slice.injEq] at hv
    obtain ⟨rfl, rfl, rfl⟩ := hv
    refine wpList_append_own w hgd s x 22 ho base 5 i0 (.int .u8 0) 1 1 Tryz.underlying22 hi hz0 hz1 hz2 rfl (by decide) v n xs hs hown ad bb.length c (Lib.byteCells bb) hx (by simp [Lib.byteCells]) ?_ (byteCells_one bb) (by unfold maxLen; omega) (by omega) hbase ?_
    · intro j u hj
      obtain ⟨hjl, rfl⟩ := byteCells_at hj
      obtain ⟨g, o', e, hc⟩ := h3 j hjl
      cases e
      rw [show (⟨g, o', none⟩ : Addr).add j = ⟨g, o' + j, none⟩ by simp [Addr.add]]
      exact hc
    · intro v' w' ho' hg _
      exact h v' w' ho' ((Below.refl base w).grown hg hbase (fun k hk => (hown.lt k hk).1))

theorem own_nil {w : World} {B n : Nat} {v : Value} {xs : List Value} (h : w.ownsRow B 5 1 v n xs) : NilB v := by
  rcases h.2 with ⟨rfl, h0⟩ | ⟨g, cap, cur, rfl, _⟩
  · exact .inl rfl
  · exact .inr ⟨_, _, _, rfl⟩
set_option maxHeartbeats 8000000 in
set_option maxRecDepth 100000 in
theorem rput_any (v : Value) (l : List UInt8) (x : Nat) (w : World) (h : Bs w v l) (hv : NilB v) (hx : x < 18446744073709551616) (hl : l.length + 20 ≤ 140737488355328) :
    Calls Tryz.prog 38 #[v, .int .u64 x] w fun e w' => ∃ v', e = .returned v' ∧ w'.ownsRow w.heap.size 5 1 v' (l.length + (Lib.uvarint x).length) (Lib.byteCells (l ++ Lib.uvarint x)) ∧ Below w.heap.size w w' := by
  obtain ⟨i0, hi, hz0, hz1, hz2⟩ := info_parts info5
  have hlen := Lib.uvarint_length64 hx
  go_enter Tryz.func38, Tryz.ntmps38
  go_wp2_with (at_builtin; refine wpList_append_bs _ rfl _ _ rfl w.heap.size _ 0 [] rfl (World.ownsRow_nil _ _ _ _) _ l rfl h hv ?a1 ?a2 ?_)
  case a1 => omega
  case a2 => exact Nat.le_refl _
  intro v1 w1 hown0 hb1
  go_wp2
  go_loopw [5, 1] (fun vb vx wr => ∃ (y : Nat) (pre : List UInt8), vx = .int .u64 y ∧ y ≤ x ∧ Hid (Lib.uvarint x = pre ++ Lib.uvarint y) ∧ wr.ownsRow w.heap.size 5 1 vb (l.length + pre.length) (Lib.byteCells (l ++ pre)) ∧ Below w.heap.size w wr)
    (fun _ vx _ => (intOf vx).toNat)
  case atStart => exact ⟨x, [], rfl, Nat.le_refl _, rfl, by simpa using hown0, hb1⟩
  case round =>
    obtain ⟨y, pre, rfl, hy, HS, hown1, hnx⟩ := hrel
    have hpl : pre.length ≤ 9 := by
      have h2 := congrArg List.length HS.out
      have hyp := Lib.uvarint_pos y
      rw [List.length_append] at h2
      omega
    by_cases h128 : 128 ≤ y
    · have hge : (128 : Int) ≤ (y : Int) := by omega
      have hw : ((y : Int) % 128 + 128) % 256 = ((y % 128 + 128 : Nat) : Int) := by omega
      go_wp2_with (at_builtin; refine wpList_append_own _ rfl _ _ 22 rfl w.heap.size 5 i0 (.int .u8 0) 1 1 Tryz.underlying22 hi hz0 hz1 hz2 rfl (by decide) _ _ _ rfl (hown1.alloc _) ⟨wr.heap.size, 0, none⟩ 1 1 [Value.int .u8 ((y % 128 + 128 : Nat) : Int)] rfl rfl ?c1 ?c2 ?c3 ?c4 ?c5 ?_)
      case c1 =>
        intro j u hj
        match j, hj with
        | 0, hj => simp at hj; subst hj; simp [Addr.add]
      case c2 => intro u hu; simp at hu; subst hu; rfl
      case c3 => unfold maxLen; omega
      case c4 => omega
      case c5 => have := hnx.size; simp; omega
      intro v' w2 hown' hgrow _
      have hnx1 : Below w.heap.size w w2 := (hnx.alloc (by have := hnx.size; omega) _).grown hgrow (by have := hnx.size; simp; omega) (fun k hk => (hown1.lt k hk).1)
      go_wp2
      go_roundw
      case rel =>
        refine ⟨y / 128, pre ++ [(y % 128 + 128).toUInt8], by go_num, by omega, by show Lib.uvarint x = _; rw [HS.out, Lib.uvarint_big h128]; simp, ?_, hnx1⟩
        have ec : ((y % 128 + 128 : Nat) : Int) = (y : Int) % 128 + 128 := by omega
        rw [← List.append_assoc, Lib.byteCells_snoc (l ++ pre) (by omega), List.length_append, List.length_singleton, ← Nat.add_assoc, ec]
        simpa using hown'
      case measure => simp [intOf]; omega
    · have hge : ¬ (128 : Int) ≤ (y : Int) := by omega
      have HM := hide (Lib.uvarint_small (show y < 128 by omega))
      go_wp2_with (at_builtin; refine wpList_append_own _ rfl _ _ 22 rfl w.heap.size 5 i0 (.int .u8 0) 1 1 Tryz.underlying22 hi hz0 hz1 hz2 rfl (by decide) _ _ _ rfl (hown1.alloc _) ⟨wr.heap.size, 0, none⟩ 1 1 [Value.int .u8 (y : Int)] rfl rfl ?d1 ?d2 ?d3 ?d4 ?d5 ?_)
      case d2 => first | rfl | (intro u hu; simp at hu; subst hu; rfl) | simp [Value.oneCell']
      case d3 => unfold maxLen; omega
      case d4 => omega
      case d5 => have := hnx.size; simp; omega
      intro v' w2 hown' hgrow _
      have hnx1 : Below w.heap.size w w2 := (hnx.alloc (by have := hnx.size; omega) _).grown hgrow (by have := hnx.size; simp; omega) (fun k hk => (hown1.lt k hk).1)
      go_wp2
      go_ret
      refine ⟨v', rfl, ?_, hnx1⟩
      rw [HS.out, HM.out, ← List.append_assoc, Lib.byteCells_snoc (l ++ pre) (by omega), List.length_append, List.length_singleton, ← Nat.add_assoc]
      simpa using hown'

set_option maxHeartbeats 1000000 in
set_option maxRecDepth 100000 in
theorem rfold_any (n : Int) (w : World) (h0 : -9223372036854775808 ≤ n) (h1 : n ≤ 9223372036854775807) :
    Calls Tryz.prog 97 #[.int .i64 n] w fun e w' => e = .returned (.int .u64 (Lib.zigzag n)) ∧ w' = w := by
  by_cases hn : n < 0
  · have E := hide (show (Lib.zigzag n : Int) = -(n + 1) * 2 + 1 by unfold Lib.zigzag; split <;> omega)
    go_enter Tryz.func97, Tryz.ntmps97
    go_wp2
    go_ret
    refine ⟨ret_int ?_, rfl⟩
    rw [E.out]
  · have E := hide (show (Lib.zigzag n : Int) = n * 2 by unfold Lib.zigzag; split <;> omega)
    go_enter Tryz.func97, Tryz.ntmps97
    go_wp2
    go_ret
    refine ⟨ret_int ?_, rfl⟩
    rw [E.out]

set_option maxHeartbeats 1000000 in
set_option maxRecDepth 100000 in
theorem rputInt_any (v : Value) (l : List UInt8) (n : Int) (w : World) (h : Bs w v l) (hv : NilB v) (h0 : -9223372036854775808 ≤ n) (h1 : n ≤ 9223372036854775807) (hl : l.length + 20 ≤ 140737488355328) :
    Calls Tryz.prog 75 #[v, .int .i64 n] w fun e w' => ∃ v', e = .returned v' ∧ w'.ownsRow w.heap.size 5 1 v' (l.length + (Lib.uvarint (Lib.zigzag n)).length) (Lib.byteCells (l ++ Lib.uvarint (Lib.zigzag n))) ∧ Below w.heap.size w w' := by
  have hc := rfold_any n w h0 h1
  have hp := rput_any v l (Lib.zigzag n) w h hv (Lib.zigzag_lt h0 h1) hl
  have H := hide hp
  clear hp
  go_enter Tryz.func75, Tryz.ntmps75
  go_wp2_with (first | (go_at_call 97; refine hc.mono ?_; rintro e w' ⟨rfl, rfl⟩) | (go_at_call 38; refine H.out.mono ?_; rintro e w1 ⟨v2, rfl, hown, hb1⟩))
  go_ret
  exact ⟨v2, rfl, hown, hb1⟩
set_option maxHeartbeats 1000000 in
set_option maxRecDepth 100000 in
theorem rputText_bs {v : Value} {b : List UInt8} {W : World} (s : ByteArray) (h : Bs W v b ∧ NilB v) (hl : b.length + s.size + 20 ≤ 140737488355328) :
    Calls Tryz.prog 74 #[v, .string s] W fun e W' => ∃ v', e = .returned v' ∧ (Bs W' v' (b ++ (Lib.uvarint s.size ++ s.data.toList)) ∧ NilB v') ∧ Below W.heap.size W W' := by
  obtain ⟨i0, hi, hz0, hz1, hz2⟩ := info_parts info5
  have hlen := Lib.uvarint_length64 (x := s.size) (by omega)
  have P := hide (rput_any v b s.size W h.1 h.2 (by omega) (by omega))
  clear h
  go_enter Tryz.func74, Tryz.ntmps74
  go_wp2_with fail
  refine P.out.mono ?_
  rintro e w1 ⟨v1, rfl, hown, hb1⟩
  go_wp2_with (at_builtin; refine Lib.wpList_append_own_string _ rfl _ _ 22 9 rfl W.heap.size 5 i0 Tryz.underlying22 Tryz.underlying9 hi hz0 hz1 hz2 _ _ _ rfl hown s rfl ?c1 ?c2 ?c3 ?_)
  case c1 => unfold maxLen; omega
  case c2 => omega
  case c3 => exact hb1.size
  intro v3 w3 hown3 hgrow _
  rw [Lib.strCells_eq, ← Lib.byteCells_append] at hown3
  have hb4 : Below W.heap.size W w3 := hb1.grown hgrow hb1.size (fun k hk => (hown.lt k hk).1)
  clear hown hgrow P
  go_wp2
  go_ret
  refine ⟨v3, rfl, ⟨?_, own_nil hown3⟩, hb4⟩
  rw [← List.append_assoc]
  have e : b.length + (Lib.uvarint s.size).length + s.size = (b ++ Lib.uvarint s.size ++ s.data.toList).length := by
    rw [List.length_append, List.length_append]
    rfl
  rw [e] at hown3
  exact own_bs (by simpa using hown3)

end Go.Proofs.YtpolajoephjdhaaGreatDoor
