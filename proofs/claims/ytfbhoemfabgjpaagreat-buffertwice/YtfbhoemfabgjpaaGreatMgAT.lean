import Derived.Shelf.Strconv.Itoa0
import Derived.Test.YtfbhoemfabgjpaaGreatProg
import Derived.Test.YtfbhoemfabgjpaaGreatMgAS
import Derived.Lib.Zigzag
import Derived.Lib.AppendStr
import Derived.RowKit
/-
  DERIVED: THE SHELF's CONTRACTS AT THIS DUMP, IN PLAIN WORDS (tools/lay-plain.mjs out of 'the shelf's own text', which tools/lay-shelf.mjs wrote): THE SAME DECLARATIONS UNDER THE SAME YtfbhoemfabgjpaaGreatS: 'import', 'namespace', 'open', 'def', 'theorem' AND NOTHING ELSE: no command of the shelf's: FOR A HAND-IN. Each laying: the table of numbers ('.._ren') and one theorem, a field a fact of the dump's own or the kernel's comparison; each contract: ONE APPLICATION.
-/
namespace Go.Proofs
open Go.Shelf
def Tryz.lays129_ren : Go.Shelf.Ren := ⟨fun | 129 => 74 | n => n, fun | 53 => 113 | 3 => 3 | 4 => 4 | 46 => 138 | 5 => 5 | 9 => 9 | n => n, fun | n => n⟩
theorem Tryz.lays129 : Go.Proofs.Lays.n129 Tryz.prog Tryz.lays129_ren := {
  mixed := by kernel_rfl
  f129 := Tryz.func74.trans (congrArg some (by kernel_rfl))
  t3 := Tryz.underlying3
  a3 := Tryz.isAgg3
  z3 := Tryz.sizeOf3
  v3 := Tryz.zeroValue3
  t4 := Tryz.underlying4
  a4 := Tryz.isAgg4
  z4 := Tryz.sizeOf4
  v4 := Tryz.zeroValue4
  t5 := Tryz.underlying5
  a5 := Tryz.isAgg5
  z5 := Tryz.sizeOf5
  v5 := Tryz.zeroValue5
  t9 := Tryz.underlying9
  a9 := Tryz.isAgg9
  z9 := Tryz.sizeOf9
  v9 := Tryz.zeroValue9
  t46 := Tryz.underlying138
  a46 := Tryz.isAgg138
  z46 := Tryz.sizeOf138
  v46 := Tryz.zeroValue138
  t53 := Tryz.underlying113
  a53 := Tryz.isAgg113
  z53 := Tryz.sizeOf113
  v53 := Tryz.zeroValue113 }
/-- bits.Len64: "Len64 returns the minimum number of bits required to represent x; the result is 0 for x == 0.": IT RETURNS 'Lib.bitLen x'; the world is as it was. ('h0', 'h1': x is a uint64.) (LAID: no walk: one application.) -/
theorem Tryz.bits_Len64 (x : Int) (w : World) (h0 : 0 ≤ x) (h1 : x ≤ 18446744073709551615) :
    Calls Tryz.prog 74 #[.int .u64 x] w fun e w' => e = .returned (.int .i64 (Lib.bitLen x.toNat)) ∧ w' = w := Any.bits_Len64 Tryz.lays129 x w h0 h1
end Go.Proofs

namespace Go.Proofs.YtfbhoemfabgjpaaGreat.Pak
open Go.RowKit
set_option maxRecDepth 100000

theorem or1_half (n : Nat) : (n ||| 1) / 2 = n / 2 := by
  apply Nat.eq_of_testBit_eq
  intro i
  rw [← Nat.testBit_succ, Nat.testBit_or, ← Nat.testBit_succ]
  have : Nat.testBit 1 (i + 1) = false := by rw [Nat.testBit_succ]; simp
  rw [this, Bool.or_false]
theorem or1_div (n : Nat) : (n ||| 1) / 128 = n / 128 := by
  have h : ∀ x : Nat, (x ||| 1) / 2 = x / 2 := fun x => by
    exact or1_half x
  have h7 : ∀ x : Nat, x / 128 = x / 2 / 64 := fun x => by omega
  rw [h7, h, ← h7]
theorem or1_lt {n : Nat} (h : n < 18446744073709551616) : n ||| 1 < 18446744073709551616 := Nat.or_lt_two_pow (n := 64) h (by decide)
theorem or1_le (n : Nat) : n ≤ n ||| 1 := Nat.left_le_or
theorem or1_pos (n : Nat) : 1 ≤ n ||| 1 := Nat.right_le_or
theorem bitLen_or1 {m : Nat} (h1 : 1 ≤ m) (h : m < 18446744073709551616) : Lib.bitLen (m ||| 1) = Lib.bitLen m := by
  rw [Lib.bitLen_half m (by omega) h, Lib.bitLen_half (m ||| 1) (by have := or1_pos m; omega) (or1_lt h), or1_half]
theorem small_len : ∀ n : Fin 128, (Lib.bitLen (n.val ||| 1) + 6) / 7 = 1 := by decide +kernel
/-- How many bytes a number has. -/
theorem size_eq : ∀ (k n : Nat), n < 128 ^ (k + 1) → n < 18446744073709551616 → (Lib.bitLen (n ||| 1) + 6) / 7 = (Lib.uvarint n).length
  | 0, n, h, _ => by
    rw [Lib.uvarint_small (by simpa using h)]
    exact small_len ⟨n, by simpa using h⟩
  | k + 1, n, h, hn => by
    by_cases hx : n < 128
    · rw [Lib.uvarint_small hx]
      exact small_len ⟨n, hx⟩
    · rw [Lib.uvarint_big (by omega), List.length_cons, ← size_eq k (n / 128) (by rw [Nat.pow_succ] at h; exact Nat.div_lt_of_lt_mul (by rw [Nat.mul_comm]; exact h)) (by omega)]
      have h1 := Lib.bitLen_shift 7 (n ||| 1) (by have := or1_le n; omega) (or1_lt hn)
      rw [show (2 : Nat) ^ 7 = 128 from rfl, or1_div, ← bitLen_or1 (m := n / 128) (by omega) (by omega)] at h1
      rw [h1]
      omega
theorem size_any {n : Nat} (h : n < 18446744073709551616) : (Lib.bitLen (n ||| 1) + 6) / 7 = (Lib.uvarint n).length := size_eq 9 n (Nat.lt_of_lt_of_le h (by decide)) h

set_option maxHeartbeats 1000000 in
set_option maxRecDepth 100000 in
theorem numberSize_any (n : Nat) (w : World) (h : n < 18446744073709551616) :
    Calls Tryz.prog 50 #[.int .u64 n] w fun e w' => e = .returned (.int .i64 (Lib.uvarint n).length) ∧ w' = w := by
  have hor : bits .or .u64 (n : Int) 1 = ((n ||| 1 : Nat) : Int) := u64_or_nat n 1 h (by omega)
  have hlt := or1_lt h
  have HE := hide (size_any h)
  have hc := Tryz.bits_Len64 ((n ||| 1 : Nat) : Int) w (by omega) (by omega)
  rw [Int.toNat_natCast] at hc
  have hb : Lib.bitLen (n ||| 1) ≤ 64 := Lib.bitLen_le _ 64 (by omega) hlt
  generalize n ||| 1 = x at *
  generalize Lib.bitLen x = y at *
  go_enter Tryz.func50, Tryz.ntmps50
  go_wp2_with (go_at_call 74; refine hc.mono ?_; rintro e w' ⟨rfl, rfl⟩)
  go_ret
  exact ⟨ret_int (by rw [← HE.out]; omega), rfl⟩

/-! ### appendNumber -/
theorem uv_split {y : Nat} (h : 1 < (Lib.uvarint y).length) : 128 ≤ y := by
  by_cases h1 : y < 128
  · rw [Lib.uvarint_small h1] at h
    simp at h
  · omega

set_option maxHeartbeats 8000000 in
set_option maxRecDepth 100000 in
theorem appendNumber_any (B n x : Nat) (hx : x < 18446744073709551616) (sv : Value) (xs : List Value) (w : World) (hown : w.ownsRow B 5 1 sv n xs) (hBw : B ≤ w.heap.size) (hlim : n + 10 ≤ 140737488355328) :
    Calls Tryz.prog 48 #[sv, .int .u64 x] w fun e w' => ∃ v', e = .returned v' ∧ w'.ownsRow B 5 1 v' (n + (Lib.uvarint x).length) (xs ++ Lib.byteCells (Lib.uvarint x)) ∧ Below B w w' := by
  obtain ⟨i0, hi, hz0, hz1, hz2⟩ := info_parts info5
  have hlen := Lib.uvarint_length64 hx
  have hpos := Lib.uvarint_pos x
  have hc := numberSize_any x w hx
  go_enter Tryz.func48, Tryz.ntmps48
  go_wp2_with (go_at_call 50; refine hc.mono ?_; rintro e w' ⟨rfl, rfl⟩)
  clear hc
  go_loopw [0, 1, 8] (fun vb vx vi wr => ∃ (y : Nat) (pre : List UInt8), vx = .int .u64 y ∧ y ≤ x ∧ vi = .int .i64 pre.length ∧ Lib.uvarint x = pre ++ Lib.uvarint y ∧ wr.ownsRow B 5 1 vb (n + pre.length) (xs ++ Lib.byteCells pre) ∧ Below B w' wr)
    (fun _ vx _ _ => (intOf vx).toNat)
  case atStart => exact ⟨x, [], rfl, Nat.le_refl _, rfl, rfl, by simpa [Lib.byteCells] using hown, Below.refl _ _⟩
  case round =>
    obtain ⟨y, pre, rfl, hy, rfl, hsplit, hown1, hnx⟩ := hrel
    have hsum : pre.length + (Lib.uvarint y).length = (Lib.uvarint x).length := by
      have h2 := congrArg List.length hsplit
      rw [List.length_append] at h2
      omega
    have hyp := Lib.uvarint_pos y
    have hpl : pre.length ≤ 9 := by omega
    have HS := hide hsplit
    have HU := hide hsum
    clear hsplit hsum
    by_cases h128 : 128 ≤ y
    · have hlt : (pre.length : Int) < (Lib.uvarint x).length - 1 := by
        have h1 := HU.out
        have h2 := Lib.uvarint_pos (y / 128)
        rw [Lib.uvarint_big h128, List.length_cons] at h1
        omega
      have hor : bits .or .u8 ((y : Int) % 256) 128 = ((y % 128 + 128 : Nat) : Int) := by
        rw [Lib.u8_or128_any _ (by omega) (by omega)]
        omega
      go_wp2_with (at_builtin; refine wpList_append_own _ rfl _ _ 47 rfl B 5 i0 (.int .u8 0) 1 1 Tryz.underlying47 hi hz0 hz1 hz2 rfl (by decide) _ _ _ rfl (hown1.alloc _) ⟨wr.heap.size, 0, none⟩ 1 1 [Value.int .u8 ((y % 128 + 128 : Nat) : Int)] rfl rfl ?c1 ?c2 ?c3 ?c4 ?c5 ?_)
      case c1 =>
        intro j u hj
        match j, hj with
        | 0, hj => simp at hj; subst hj; simp [Addr.add]
      case c2 => intro u hu; simp at hu; subst hu; rfl
      case c3 => unfold maxLen; omega
      case c4 => omega
      case c5 => have := hnx.size; simp; omega
      intro v' w1 hown' hgrow _
      have hnx1 : Below B w' w1 := (hnx.alloc (by have := hnx.size; omega) _).grown hgrow (by have := hnx.size; simp; omega) (fun k hk => (hown1.lt k hk).1)
      go_wp2
      go_roundw
      case rel =>
        refine ⟨y / 128, pre ++ [(y % 128 + 128).toUInt8], by go_num, by omega, by simp, by rw [HS.out, Lib.uvarint_big h128]; simp, ?_, hnx1⟩
        have ec : ((y % 128 + 128 : Nat) : Int) = (y : Int) % 128 + 128 := by omega
        rw [Lib.byteCells_snoc pre (by omega), List.length_append, List.length_singleton, ← Nat.add_assoc, ec]
        simpa using hown'
      case measure => simp [intOf]; omega
    · have hlt : ¬ (pre.length : Int) < (Lib.uvarint x).length - 1 := by
        have h1 := HU.out
        rw [Lib.uvarint_small (by omega), List.length_singleton] at h1
        omega
      have hsm : Lib.uvarint y = [y.toUInt8] := Lib.uvarint_small (by omega)
      have HM := hide hsm
      clear hsm
      go_wp2_with (at_builtin; refine wpList_append_own _ rfl _ _ 47 rfl B 5 i0 (.int .u8 0) 1 1 Tryz.underlying47 hi hz0 hz1 hz2 rfl (by decide) _ _ _ rfl (hown1.alloc _) ⟨wr.heap.size, 0, none⟩ 1 1 [Value.int .u8 (y : Int)] rfl rfl ?c1 ?c2 ?c3 ?c4 ?c5 ?_)
      case c2 => first | rfl | (intro u hu; simp at hu; subst hu; rfl) | simp [Value.oneCell']
      case c3 => unfold maxLen; omega
      case c4 => omega
      case c5 => have := hnx.size; simp; omega
      intro v' w1 hown' hgrow _
      have hnx1 : Below B w' w1 := (hnx.alloc (by have := hnx.size; omega) _).grown hgrow (by have := hnx.size; simp; omega) (fun k hk => (hown1.lt k hk).1)
      go_wp2
      go_ret
      refine ⟨v', rfl, ?_, hnx1⟩
      rw [HS.out, HM.out, Lib.byteCells_snoc pre (by omega), List.length_append, List.length_singleton, ← Nat.add_assoc]
      simpa using hown'

/-! ### withRoom -/
/-- 'make([]T, n, m)': the new row written out. -/
theorem wpList_make_cap {P : Program} (w : World) {ops : Array Oper} {rest : List Oper} {o : Oper} {a : Act} {Q : Exit → Act → World → Prop}
    (hg : o.guard = none) (l c : Operand) (t : TypeId) (hop : o.op = Op.makeSlice t l c)
    (e : TypeId) (i : TypeInfo) (z : Value) (h1 : P.underlying t = some (.slice e)) (h2 : P.info? e = some i) (h3 : i.zero = some z)
    (kl kc : IntKind) (L C : Int) (n m : Nat) (hl : a.eval l = .int kl L) (hc : a.eval c = .int kc C) (hL : L = (n : Int)) (hC : C = (m : Int)) (hnm : n ≤ m) (b2 : i.bytes * m ≤ 281474976710656) (b3 : m ≤ maxLen)
    (hK : ∀ w', Hid (w'.heap[w.heap.size]? = some (.cells (madeCells z.cells (m * i.size)) e (0, 0))) → w.grownBy w' none → wpList P ops Q rest (a.put o.dst (.slice (some ⟨w.heap.size, 0, none⟩) n m)) w') :
    wpList P ops Q (o :: rest) a w := by
  refine wpList_plain hg fun K hK' => ?_
  have h63' : (m : Int) ≤ 9223372036854775807 := by
    have h := b3
    simp [maxLen] at h
    omega
  have hb' : (i.bytes : Int) * (m : Int) ≤ 281474976710656 := by
    have h : ((i.bytes * m : Nat) : Int) ≤ 281474976710656 := by omega
    rwa [Int.natCast_mul] at h
  have hrun := run_make (P := P) w t e i z h1 h2 h3 kl kc n m (by omega) (by omega) hb' h63'
  simp only [Int.toNat_natCast] at hrun
  subst hL
  subst hC
  unfold Oper.wp
  simp [execOp, hop, hl, hc, hrun, Result.andThen]
  exact hK' _ _ (hK _ (heap_alloc_new w _) (World.grownBy_alloc w _ none))

theorem splice_room (l : List UInt8) (s : Nat) : splice (Lib.byteCells (List.replicate (l.length + s) 0)) 0 (Lib.byteCells l) = Lib.byteCells (l ++ List.replicate s 0) := by
  unfold splice
  rw [Lib.byteCells_append]
  simp [Lib.byteCells]
theorem made_array (n : Nat) : madeCells #[Value.int IntKind.u8 0] n = (Lib.byteCells (List.replicate n 0)).toArray := by
  rw [← made_bytes]
/-- A row with spare room, owned. -/
theorem Row.owns {w : World} {B g n : Nat} {l : List UInt8} (h : Row w g l) (hB : B ≤ g) (hn : n ≤ l.length) (hm : l.length ≤ maxLen) : w.ownsRow B 5 1 (.slice (some ⟨g, 0, none⟩) n l.length) n (Lib.byteCells (l.take n)) := by
  refine ⟨by simp [Lib.byteCells]; omega, .inr ⟨g, l.length, _, rfl, hB, h, hn, hm, by simp [Lib.byteCells], by simp [Lib.byteCells, List.map_take]⟩⟩

set_option maxHeartbeats 1000000 in
set_option maxRecDepth 100000 in
theorem withRoom_any (v : Value) (l : List UInt8) (s : Nat) (w : World) (h : Bs w v l) (hl : l.length + s ≤ 281474976710656) :
    Calls Tryz.prog 49 #[v, .int .i64 s] w fun e w' => e = .returned (.slice (some ⟨w.heap.size, 0, none⟩) l.length (l.length + s)) ∧ Row w' w.heap.size (l ++ List.replicate s 0) ∧ Below w.heap.size w w' := by
  obtain ⟨i0, hi, hz0, hz1, hz2⟩ := info_parts info5
  obtain ⟨ao, c, rfl, h1, h2, h3⟩ := h
  have H3 := hide h3
  clear h3
  unfold maxLen at h2
  go_enter Tryz.func49, Tryz.ntmps49
  go_wp2_with (at_make; refine wpList_make_cap _ rfl _ _ 47 rfl 5 i0 (.int .u8 0) Tryz.underlying47 hi hz0 .i64 .i64 _ _ l.length (l.length + s) rfl rfl ?c1 ?c2 ?c3 ?c4 ?c5 ?_)
  case c1 => omega
  case c2 => omega
  case c3 => omega
  case c4 => rw [hz2]; omega
  case c5 => unfold maxLen; omega
  intro w1 hr1 hgrow
  rw [made_array] at hr1
  have hb1 : Below w.heap.size w w1 := (Below.refl _ _).grown hgrow (Nat.le_refl _) (by intro k hk; cases hk)
  have hsrc := Bs.src H3.out hb1 l.length (Nat.le_refl _)
  rw [List.take_length] at hsrc
  have HS := hide hsrc
  clear hsrc
  go_wp2_with (refine wpList_copy_splice rfl _ _ 47 47 rfl 5 Tryz.underlying47 size5 _ _ _ _ _ _ rfl rfl w.heap.size 0 (Lib.byteCells (List.replicate (l.length + s) 0)) 5 hr1.out (Lib.byteCells l) ?d1 ?d2 ?d3 (byteCells_one l) w.heap.size w hb1 (Nat.le_refl _) ?_)
  case d1 => rw [Lib.byteCells_length]; simp
  case d2 => intro h0; rw [Lib.byteCells_length] at h0; first | exact ⟨rfl, HS.out h0⟩ | exact HS.out h0
  case d3 => simp [Lib.byteCells_length]
  intro w2 hr2 hb2
  rw [splice_room] at hr2
  clear hr1 hb1 HS H3
  go_wp2
  go_ret
  exact ⟨rfl, hr2.out, hb2⟩

/-! ### fold -/
theorem fold_eq {n : Int} (h0 : -9223372036854775808 ≤ n) (h1 : n ≤ 9223372036854775807) :
    bits .xor .u64 (IntKind.u64.wrap (IntKind.u64.wrap n * 2)) (IntKind.u64.wrap (n / 9223372036854775808)) = ((Lib.zigzag n : Nat) : Int) := by
  by_cases h : 0 ≤ n
  · rw [show n / 9223372036854775808 = 0 by omega, show IntKind.u64.wrap 0 = ((0 : Nat) : Int) by decide]
    have e : IntKind.u64.wrap (IntKind.u64.wrap n * 2) = ((Lib.zigzag n : Nat) : Int) := by
      rw [Lib.zigzag_nonneg h, IntKind.wrap_u64, IntKind.wrap_u64]
      omega
    rw [e, u64_xor_nat _ _ (Lib.zigzag_lt h0 h1) (by omega), Nat.xor_zero]
  · rw [show n / 9223372036854775808 = -1 by omega, ← Lib.zigzag_neg h0 (by omega), show IntKind.u64.wrap (-1) = IntKind.u64.max by decide]
    have e : IntKind.u64.wrap (IntKind.u64.wrap n * 2) = (((2 * n + 18446744073709551616).toNat : Nat) : Int) := by
      rw [IntKind.wrap_u64, IntKind.wrap_u64]
      omega
    have e2 : IntKind.u64.max = ((18446744073709551615 : Nat) : Int) := by decide
    rw [e, e2, u64_xor_nat _ _ (by omega) (by omega), u64_xor_nat _ _ (by omega) (by omega), Nat.xor_comm]
set_option maxHeartbeats 1000000 in
set_option maxRecDepth 100000 in
theorem fold_any (n : Int) (w : World) (h0 : -9223372036854775808 ≤ n) (h1 : n ≤ 9223372036854775807) :
    Calls Tryz.prog 52 #[.int .i64 n] w fun e w' => e = .returned (.int .u64 (Lib.zigzag n)) ∧ w' = w := by
  go_enter Tryz.func52, Tryz.ntmps52
  go_wp2
  go_ret
  exact ⟨ret_int (fold_eq h0 h1), rfl⟩

/-! ### Put -/
set_option maxHeartbeats 1000000 in
set_option maxRecDepth 100000 in
theorem put_any (v : Value) (l : List UInt8) (n : Nat) (w : World) (h : Bs w v l) (hn : n < 18446744073709551616) (hl : l.length + 20 ≤ 140737488355328) :
    Calls Tryz.prog 46 #[v, .int .u64 n] w fun e w' => ∃ v', e = .returned v' ∧ w'.ownsRow w.heap.size 5 1 v' (l.length + (Lib.uvarint n).length) (Lib.byteCells (l ++ Lib.uvarint n)) ∧ Below w.heap.size w w' := by
  have hlen := Lib.uvarint_length64 hn
  have hc := numberSize_any n w hn
  have hr := withRoom_any v l (Lib.uvarint n).length w h (by omega)
  go_enter Tryz.func46, Tryz.ntmps46
  go_wp2_with (first | (go_at_call 50; refine hc.mono ?_; rintro e w' ⟨rfl, rfl⟩) | (go_at_call 49; refine hr.mono ?_; rintro e w1 ⟨rfl, hrow, hb1⟩))
  have hown := hrow.owns (B := w'.heap.size) (n := l.length) (Nat.le_refl _) (by simp) (by simp [maxLen]; omega)
  rw [List.take_left, List.length_append, List.length_replicate] at hown
  refine (appendNumber_any w'.heap.size l.length n hn _ _ w1 hown hb1.size (by omega)).mono ?_
  rintro e w2 ⟨v2, rfl, hown2, hb2⟩
  rw [← Lib.byteCells_append] at hown2
  clear hown hrow hc hr
  go_wp2
  go_ret
  exact ⟨v2, rfl, hown2, hb1.trans hb2⟩

set_option maxHeartbeats 1000000 in
set_option maxRecDepth 100000 in
theorem putInt_any (v : Value) (l : List UInt8) (n : Int) (w : World) (h : Bs w v l) (h0 : -9223372036854775808 ≤ n) (h1 : n ≤ 9223372036854775807) (hl : l.length + 20 ≤ 140737488355328) :
    Calls Tryz.prog 57 #[v, .int .i64 n] w fun e w' => ∃ v', e = .returned v' ∧ w'.ownsRow w.heap.size 5 1 v' (l.length + (Lib.uvarint (Lib.zigzag n)).length) (Lib.byteCells (l ++ Lib.uvarint (Lib.zigzag n))) ∧ Below w.heap.size w w' := by
  have hc := fold_any n w h0 h1
  have hp := put_any v l (Lib.zigzag n) w h (Lib.zigzag_lt h0 h1) hl
  have H := hide hp
  clear hp
  go_enter Tryz.func57, Tryz.ntmps57
  go_wp2_with (first | (go_at_call 52; refine hc.mono ?_; rintro e w' ⟨rfl, rfl⟩) | (go_at_call 46; refine H.out.mono ?_; rintro e w1 ⟨v2, rfl, hown, hb1⟩))
  go_ret
  exact ⟨v2, rfl, hown, hb1⟩

end Go.Proofs.YtfbhoemfabgjpaaGreat.Pak

/-
  A4, AS PLAIN MATHEMATICS: the three forms of a row of numbers, and the one that is taken. No program in this text.
-/
namespace Go.Proofs.YtfbhoemfabgjpaaGreat.Pak.Rw
open Go.RowKit
set_option maxRecDepth 100000

def ivar (z : Int) : List UInt8 := Lib.uvarint (Lib.zigzag z)
/-- What the forms 0 and 1 write for the number at place i. -/
def entry (l : List Int) (i form : Nat) : Int := if form = 1 ∧ 0 < i then wrap64 (l.getD i 0 - l.getD (i - 1) 0) else l.getD i 0
def bodyTo (l : List Int) (form : Nat) : Nat → List UInt8
  | 0 => []
  | k + 1 => bodyTo l form k ++ ivar (entry l k form)
/-- Is the number at place i the last of its run? -/
def ends (l : List Int) (i : Nat) : Bool := i + 1 == l.length || l.getD i 0 != l.getD (i + 1) 0
structure RunsAt where
  bytes : List UInt8
  count : Nat
  len : Nat
def runsTo (l : List Int) : Nat → RunsAt
  | 0 => ⟨[], 0, 0⟩
  | k + 1 => if ends l k then ⟨(runsTo l k).bytes ++ (Lib.uvarint ((runsTo l k).len + 1) ++ ivar (l.getD k 0)), (runsTo l k).count + 1, 0⟩ else ⟨(runsTo l k).bytes, (runsTo l k).count, (runsTo l k).len + 1⟩
def runsB (l : List Int) : List UInt8 := Lib.uvarint (runsTo l l.length).count ++ (runsTo l l.length).bytes
def formB (l : List Int) (form : Nat) : List UInt8 := if form = 2 then runsB l else bodyTo l form l.length
def best (l : List Int) : Nat :=
  if (formB l 1).length < (formB l 0).length then (if (formB l 2).length < (formB l 1).length then 2 else 1)
  else (if (formB l 2).length < (formB l 0).length then 2 else 0)
/-- The row, as PutRow writes it. -/
def rowB (l : List Int) : List UInt8 := if l.length = 0 then [0] else Lib.uvarint l.length ++ (UInt8.ofNat (best l) :: formB l (best l))

/-- It fits an int64. -/
def Fits (z : Int) : Prop := -9223372036854775808 ≤ z ∧ z ≤ 9223372036854775807
theorem wrap64_fits (n : Int) : Fits (wrap64 n) := by unfold Fits wrap64; omega
def AllFit (l : List Int) : Prop := ∀ z ∈ l, Fits z
theorem getD_fits {l : List Int} (h : AllFit l) (i : Nat) : Fits (l.getD i 0) := by
  by_cases hi : i < l.length
  · rw [List.getD_eq_getElem?_getD, List.getElem?_eq_getElem hi]; exact h _ (List.getElem_mem hi)
  · rw [List.getD_eq_getElem?_getD, List.getElem?_eq_none (by omega)]; unfold Fits; simp
theorem entry_fits {l : List Int} (h : AllFit l) (i form : Nat) : Fits (entry l i form) := by
  unfold entry
  split
  · exact wrap64_fits _
  · exact getD_fits h i
theorem ivar_length {z : Int} (h : Fits z) : (ivar z).length ≤ 10 := Lib.uvarint_length64 (Lib.zigzag_lt h.1 h.2)
theorem bodyTo_length {l : List Int} (h : AllFit l) (form : Nat) : ∀ k, (bodyTo l form k).length ≤ 10 * k
  | 0 => by simp [bodyTo]
  | k + 1 => by
    have h1 := bodyTo_length h form k
    have h2 := ivar_length (entry_fits h k form)
    simp only [bodyTo, List.length_append]
    omega
theorem runsTo_count (l : List Int) : ∀ k, (runsTo l k).count ≤ k ∧ (runsTo l k).len ≤ k
  | 0 => by simp [runsTo]
  | k + 1 => by
    have h := runsTo_count l k
    unfold runsTo
    split <;> simp <;> omega
theorem runsTo_length {l : List Int} (h : AllFit l) : ∀ k, k < 18446744073709551616 → (runsTo l k).bytes.length ≤ 20 * k
  | 0, _ => by simp [runsTo]
  | k + 1, hk => by
    have h1 := runsTo_length h k (by omega)
    have h2 := ivar_length (getD_fits h k)
    have h3 := Lib.uvarint_length64 (x := (runsTo l k).len + 1) (by have := (runsTo_count l k).2; omega)
    unfold runsTo
    split
    · simp only [List.length_append]; omega
    · simp only; omega
theorem formB_length {l : List Int} (h : AllFit l) (hl : l.length ≤ 1048576) (form : Nat) : (formB l form).length ≤ 20 * l.length + 10 := by
  unfold formB runsB
  split
  · have h1 := runsTo_length h l.length (by omega)
    have h2 := Lib.uvarint_length64 (x := (runsTo l l.length).count) (by have := (runsTo_count l l.length).1; omega)
    simp only [List.length_append]
    omega
  · have := bodyTo_length h form l.length
    omega
theorem best_le (l : List Int) : best l ≤ 2 := by unfold best; split <;> split <;> omega

end Go.Proofs.YtfbhoemfabgjpaaGreat.Pak.Rw
