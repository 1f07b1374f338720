import Derived.Test.YtfkhhplcogedmaaGreatDoorMgB
import Derived.Test.YtfkhhplcogedmaaGreatDoorMgD
import Derived.Test.YtfkhhplcogedmaaGreatDoorShelf
import Derived.Lib.VarintMem
import Derived.Lib.Zigzag
import Derived.Lib.AppendStr
/-
  Of code: two small facts.
-/
namespace Go.Proofs.YtfkhhplcogedmaaGreatDoor
open Go.RowKit
theorem infoB : (Tryz.prog.info? 5).map (fun i => (i.zero, i.size, i.bytes)) = some (some (.int .u8 0), 1, 1) := by kernel_rfl
theorem rtOk_code {r : Rt} (h : rtOk r = true) : r.code.length ≤ 2000 := by
  unfold rtOk at h
  simp only [Bool.and_eq_true, decide_eq_true_eq] at h
  exact h.1.2
theorem row4 {w : World} {B : Nat} {x y z t : Value} (h : w.heap[B]? = some (.cells #[x, y, z, t] 35 (0, 0))) : w.cell? ⟨B, 0, none⟩ = some x ∧ w.cell? ⟨B, 1, none⟩ = some y ∧ w.cell? ⟨B, 2, none⟩ = some z ∧ w.cell? ⟨B, 3, none⟩ = some t := by
  refine ⟨?_, ?_, ?_, ?_⟩ <;> rw [cell_of_row w _ _ _ 35 (0, 0) h] <;> rfl
theorem Il.i6 {Q : Nat → Prop} {W : World} {v : Value} {l : List Ins} (h : Il Q W v l) : ∀ i ∈ l, I6 i.a := by
  obtain ⟨ao, c, h1, h2, h3, h4⟩ := h
  intro i hi
  obtain ⟨k, hk, rfl⟩ := List.getElem_of_mem hi
  obtain ⟨g, o, -, -, h5⟩ := h4 (by omega)
  exact (h5 k hk).2.1
end Go.Proofs.YtfkhhplcogedmaaGreatDoor

/-
  Pack's numbers and texts, in this program.
-/
namespace Go.Proofs.YtfkhhplcogedmaaGreatDoor
open Go.RowKit
/-- A slice of bytes that reads as l (nil, or empty, or a row of cells). -/
def Bs (w : World) (v : Value) (l : List UInt8) : Prop :=
  ∃ ao c, v = .slice ao l.length c ∧ l.length ≤ c ∧ c ≤ maxLen ∧ ∀ j (hj : j < l.length), ∃ g o, ao = some ⟨g, o, none⟩ ∧ w.cell? ⟨g, o + j, none⟩ = some (.int .u8 (l[j]).toNat)

theorem Bs.nil (w : World) : Bs w (.slice none 0 0) [] := ⟨none, 0, rfl, Nat.le_refl _, Nat.zero_le _, fun j hj => absurd hj (by simp)⟩
theorem Bs.row {w : World} {g o c : Nat} {l : List UInt8} (h1 : l.length ≤ c) (h2 : c ≤ maxLen) (h3 : ∀ j (hj : j < l.length), w.cell? ⟨g, o + j, none⟩ = some (.int .u8 (l[j]).toNat)) : Bs w (.slice (some ⟨g, o, none⟩) l.length c) l :=
  ⟨some ⟨g, o, none⟩, c, rfl, h1, h2, fun j hj => ⟨g, o, rfl, h3 j hj⟩⟩
theorem Bs.parts {w : World} {v : Value} {l : List UInt8} (h : Bs w v l) :
    (∃ ao c, v = .slice ao 0 c ∧ l = []) ∨ ∃ g o c, v = .slice (some ⟨g, o, none⟩) l.length c ∧ 0 < l.length ∧ l.length ≤ c ∧ c ≤ maxLen ∧ ∀ j (hj : j < l.length), w.cell? ⟨g, o + j, none⟩ = some (.int .u8 (l[j]).toNat) := by
  obtain ⟨ao, c, rfl, h1, h2, h3⟩ := h
  by_cases h0 : 0 < l.length
  · obtain ⟨g, o, rfl, _⟩ := h3 0 h0
    refine .inr ⟨g, o, c, rfl, h0, h1, h2, fun j hj => ?_⟩
    obtain ⟨g', o', e, hc⟩ := h3 j hj
    simp at e
    obtain ⟨rfl, rfl⟩ := e
    exact hc
  · obtain rfl : l = [] := List.eq_nil_of_length_eq_zero (by omega)
    exact .inl ⟨ao, c, rfl, rfl⟩
/-- What is below the first new block reads on. -/
theorem Bs.below {B : Nat} {w w' : World} {v : Value} {l : List UInt8} (h : Bs w v l) (hb : Below B w w') (hB : w.heap.size ≤ B) : Bs w' v l := by
  obtain ⟨ao, c, rfl, h1, h2, h3⟩ := h
  refine ⟨ao, c, rfl, h1, h2, fun j hj => ?_⟩
  obtain ⟨g, o, e, hc⟩ := h3 j hj
  have hlt := World.block_lt_of_cell? w _ hc
  exact ⟨g, o, e, (hb.cell (p := ⟨g, o + j, none⟩) (by exact Nat.lt_of_lt_of_le hlt hB)).trans hc⟩
/-- A block of the call's own, whole. -/
abbrev Row (w : World) (g : Nat) (l : List UInt8) : Prop := w.heap[g]? = some (.cells (Lib.byteCells l).toArray 5 (0, 0))
theorem Row.cell {w : World} {g : Nat} {l : List UInt8} (h : Row w g l) (j : Nat) (hj : j < l.length) : w.cell? ⟨g, j, none⟩ = some (.int .u8 (l[j]).toNat) := by
  rw [cell_of_row w g j _ 5 (0, 0) h]
  simp [Lib.byteCells, hj]
theorem Row.frozen {w : World} {g : Nat} {l : List UInt8} (h : Row w g l) (j : Nat) : w.frozen? ⟨g, j, none⟩ = false := frozen_of_row w g j _ 5 h
theorem Row.bs {w : World} {g n c : Nat} {l : List UInt8} (h : Row w g l) (hn : n ≤ l.length) (hc : n ≤ c) (hm : c ≤ maxLen) : Bs w (.slice (some ⟨g, 0, none⟩) n c) (l.take n) := by
  have e : (l.take n).length = n := by simp; omega
  have := Bs.row (w := w) (g := g) (o := 0) (c := c) (l := l.take n) (by omega) hm (fun j hj => by
    rw [e] at hj
    have := h.cell j (by omega)
    simpa using this)
  rwa [e] at this
theorem Row.set {w : World} {g : Nat} {l : List UInt8} (h : Row w g l) (j : Nat) (b : UInt8) : Row (w.setCell ⟨g, j, none⟩ (.int .u8 b.toNat)) g (l.set j b) := by
  have := heap_setCell_same w g j _ 5 (.int .u8 b.toNat) h
  unfold Row
  rw [this]
  simp [Lib.byteCells, List.map_set]
theorem Row.below {B : Nat} {w w' : World} {g : Nat} {l : List UInt8} (h : Row w g l) (hb : Below B w w') (hB : g < B) : Row w' g l := (hb.block g hB).trans h
theorem Row.lt {w : World} {g : Nat} {l : List UInt8} (h : Row w g l) : g < w.heap.size := (Array.getElem?_eq_some_iff.1 h).1

theorem info5 : (Tryz.prog.info? 5).map (fun i => (i.zero, i.size, i.bytes)) = some (some (.int .u8 0), 1, 1) := by kernel_rfl
theorem size5 : (Tryz.prog.info? 5).map (·.size) = some 1 := by kernel_rfl

/-- A full row that is owned is its block. -/
theorem own_block {w : World} {base e g n : Nat} {xs : List Value} (h : w.ownsRow base e 1 (.slice (some ⟨g, 0, none⟩) n n) n xs) : w.heap[g]? = some (.cells xs.toArray e (0, 0)) ∧ base ≤ g := by
  rcases h.2 with ⟨h', _⟩ | ⟨g', cap', cur, h', hb, hg, _, _, hs, htake⟩
  · simp at h'
  · simp only [Value.slice.injEq, Option.some.injEq, Addr.mk.injEq, and_true, true_and] at h'
    obtain ⟨rfl, rfl⟩ := h'
    have : cur = xs.toArray := by
      rw [← htake, List.take_of_length_le (by simp; omega)]
    exact ⟨this ▸ hg, hb⟩
theorem made_bytes (n : Nat) : (madeCells #[Value.int IntKind.u8 0] n).toList = Lib.byteCells (List.replicate n 0) := by
  rw [toList_madeCells_one]
  simp [Lib.byteCells]
theorem byteCells_one (l : List UInt8) : ∀ u ∈ Lib.byteCells l, u.oneCell' = true := by
  intro u hu
  simp only [Lib.byteCells, List.mem_map] at hu
  obtain ⟨b, _, rfl⟩ := hu
  rfl
theorem byteCells_at {l : List UInt8} {j : Nat} {u : Value} (h : (Lib.byteCells l)[j]? = some u) : ∃ hj : j < l.length, u = .int .u8 (l[j]).toNat := by
  simp only [Lib.byteCells, List.getElem?_map, Option.map_eq_some_iff] at h
  obtain ⟨b, hb, rfl⟩ := h
  obtain ⟨hj, e⟩ := List.getElem?_eq_some_iff.1 hb
  exact ⟨hj, by rw [e]⟩
/-- What a copy out of a slice of bytes asks. -/
theorem Bs.src {w w' : World} {ao : Option Addr} {l : List UInt8} (h3 : ∀ j (hj : j < l.length), ∃ g o, ao = some ⟨g, o, none⟩ ∧ w.cell? ⟨g, o + j, none⟩ = some (.int .u8 (l[j]).toNat)) (hb : Below w.heap.size w w') (m : Nat) (hm : m ≤ l.length) :
    0 < m → ∃ ad, ao = some ad ∧ ∀ j v, (Lib.byteCells (l.take m))[j]? = some v → w'.cell? (ad.add j) = some v := by
  intro h0
  obtain ⟨g, o, rfl, _⟩ := h3 0 (by omega)
  refine ⟨_, rfl, fun j v hv => ?_⟩
  obtain ⟨hj, rfl⟩ := byteCells_at hv
  simp at hj
  obtain ⟨g', o', e, hc⟩ := h3 j (by omega)
  simp at e
  obtain ⟨rfl, rfl⟩ := e
  have hlt := World.block_lt_of_cell? w _ hc
  rw [show (⟨g, o, none⟩ : Addr).add j = ⟨g, o + j, none⟩ by simp [Addr.add], hb.cell (p := ⟨g, o + j, none⟩) hlt, hc]
  simp

end Go.Proofs.YtfkhhplcogedmaaGreatDoor

/-
  Pack's numbers and texts, in this program.
-/

namespace Go.Proofs.YtfkhhplcogedmaaGreatDoor
open Go.RowKit

theorem or1_half (n : Nat) : (n ||| 1) / 2 = n / 2 := by
  apply Nat.eq_of_testBit_eq
  intro i
  rw [← Nat.testBit_succ, Nat.testBit_or, ← Nat.testBit_succ]
  have : Nat.testBit 1 (i + 1) = false := by rw [Nat.testBit_succ]; simp
  rw [this, Bool.or_false]
theorem or1_div (n : Nat) : (n ||| 1) / 128 = n / 128 := by
  have h : ∀ x : Nat, (x ||| 1) / 2 = x / 2 := fun x => by
    exact or1_half x
  have h7 : ∀ x : Nat, x / 128 = x / 2 / 64 := fun x => by omega
  rw [h7, h, ← h7]
theorem or1_lt {n : Nat} (h : n < 18446744073709551616) : n ||| 1 < 18446744073709551616 := Nat.or_lt_two_pow (n := 64) h (by decide)
theorem or1_le (n : Nat) : n ≤ n ||| 1 := Nat.left_le_or
theorem or1_pos (n : Nat) : 1 ≤ n ||| 1 := Nat.right_le_or
theorem bitLen_or1 {m : Nat} (h1 : 1 ≤ m) (h : m < 18446744073709551616) : Lib.bitLen (m ||| 1) = Lib.bitLen m := by
  rw [Lib.bitLen_half m (by omega) h, Lib.bitLen_half (m ||| 1) (by have := or1_pos m; omega) (or1_lt h), or1_half]
theorem small_len : ∀ n : Fin 128, (Lib.bitLen (n.val ||| 1) + 6) / 7 = 1 := by decide +kernel
/-- How many bytes a number has. -/
theorem size_eq : ∀ (k n : Nat), n < 128 ^ (k + 1) → n < 18446744073709551616 → (Lib.bitLen (n ||| 1) + 6) / 7 = (Lib.uvarint n).length
  | 0, n, h, _ => by
    rw [Lib.uvarint_small (by simpa using h)]
    exact small_len ⟨n, by simpa using h⟩
  | k + 1, n, h, hn => by
    by_cases hx : n < 128
    · rw [Lib.uvarint_small hx]
      exact small_len ⟨n, hx⟩
    · rw [Lib.uvarint_big (by omega), List.length_cons, ← size_eq k (n / 128) (by rw [Nat.pow_succ] at h; exact Nat.div_lt_of_lt_mul (by rw [Nat.mul_comm]; exact h)) (by omega)]
      have h1 := Lib.bitLen_shift 7 (n ||| 1) (by have := or1_le n; omega) (or1_lt hn)
      rw [show (2 : Nat) ^ 7 = 128 from rfl, or1_div, ← bitLen_or1 (m := n / 128) (by omega) (by omega)] at h1
      rw [h1]
      omega
theorem size_any {n : Nat} (h : n < 18446744073709551616) : (Lib.bitLen (n ||| 1) + 6) / 7 = (Lib.uvarint n).length := size_eq 9 n (Nat.lt_of_lt_of_le h (by decide)) h

set_option maxHeartbeats 1000000 in
set_option maxRecDepth 100000 in
theorem numberSize_any (n : Nat) (w : World) (h : n < 18446744073709551616) :
    Calls Tryz.prog 71 #[.int .u64 n] w fun e w' => e = .returned (.int .i64 (Lib.uvarint n).length) ∧ w' = w := by
  have hor : bits .or .u64 (n : Int) 1 = ((n ||| 1 : Nat) : Int) := u64_or_nat n 1 h (by omega)
  have hlt := or1_lt h
  have HE := hide (size_any h)
  have hc := Tryz.bits_Len64 ((n ||| 1 : Nat) : Int) w (by omega) (by omega)
  rw [Int.toNat_natCast] at hc
  have hb : Lib.bitLen (n ||| 1) ≤ 64 := Lib.bitLen_le _ 64 (by omega) hlt
  generalize n ||| 1 = x at *
  generalize Lib.bitLen x = y at *
  go_enter Tryz.func71, Tryz.ntmps71
  go_wp2_with (go_at_call 90; refine hc.mono ?_; rintro e w' ⟨rfl, rfl⟩)
  go_ret
  exact ⟨ret_int (by rw [← HE.out]; omega), rfl⟩

/-! ### appendNumber -/
theorem uv_split {y : Nat} (h : 1 < (Lib.uvarint y).length) : 128 ≤ y := by
  by_cases h1 : y < 128
  · rw [Lib.uvarint_small h1] at h
    simp at h
  · omega

set_option maxHeartbeats 8000000 in
set_option maxRecDepth 100000 in
theorem appendNumber_any (B n x : Nat) (hx : x < 18446744073709551616) (sv : Value) (xs : List Value) (w : World) (hown : w.ownsRow B 5 1 sv n xs) (hBw : B ≤ w.heap.size) (hlim : n + 10 ≤ 140737488355328) :
    Calls Tryz.prog 69 #[sv, .int .u64 x] w fun e w' => ∃ v', e = .returned v' ∧ w'.ownsRow B 5 1 v' (n + (Lib.uvarint x).length) (xs ++ Lib.byteCells (Lib.uvarint x)) ∧ Below B w w' := by
  obtain ⟨i0, hi, hz0, hz1, hz2⟩ := info_parts info5
  have hlen := Lib.uvarint_length64 hx
  have hpos := Lib.uvarint_pos x
  have hc := numberSize_any x w hx
  go_enter Tryz.func69, Tryz.ntmps69
  go_wp2_with (go_at_call 71; refine hc.mono ?_; rintro e w' ⟨rfl, rfl⟩)
  clear hc
  go_loopw [0, 1, 8] (fun vb vx vi wr => ∃ (y : Nat) (pre : List UInt8), vx = .int .u64 y ∧ y ≤ x ∧ vi = .int .i64 pre.length ∧ Lib.uvarint x = pre ++ Lib.uvarint y ∧ wr.ownsRow B 5 1 vb (n + pre.length) (xs ++ Lib.byteCells pre) ∧ Below B w' wr)
    (fun _ vx _ _ => (intOf vx).toNat)
  case atStart => exact ⟨x, [], rfl, Nat.le_refl _, rfl, rfl, by simpa [Lib.byteCells] using hown, Below.refl _ _⟩
  case round =>
    obtain ⟨y, pre, rfl, hy, rfl, hsplit, hown1, hnx⟩ := hrel
    have hsum : pre.length + (Lib.uvarint y).length = (Lib.uvarint x).length := by
      have h2 := congrArg List.length hsplit
      rw [List.length_append] at h2
      omega
    have hyp := Lib.uvarint_pos y
    have hpl : pre.length ≤ 9 := by omega
    have HS := hide hsplit
    have HU := hide hsum
    clear hsplit hsum
    by_cases h128 : 128 ≤ y
    · have hlt : (pre.length : Int) < (Lib.uvarint x).length - 1 := by
        have h1 := HU.out
        have h2 := Lib.uvarint_pos (y / 128)
        rw [Lib.uvarint_big h128, List.length_cons] at h1
        omega
      have hor : bits .or .u8 ((y : Int) % 256) 128 = ((y % 128 + 128 : Nat) : Int) := by
        rw [Lib.u8_or128_any _ (by omega) (by omega)]
        omega
      go_wp2_with (at_builtin; refine wpList_append_own _ rfl _ _ 68 rfl B 5 i0 (.int .u8 0) 1 1 Tryz.underlying68 hi hz0 hz1 hz2 rfl (by decide) _ _ _ rfl (hown1.alloc _) ⟨wr.heap.size, 0, none⟩ 1 1 [Value.int .u8 ((y % 128 + 128 : Nat) : Int)] rfl rfl ?c1 ?c2 ?c3 ?c4 ?c5 ?_)
      case c1 =>
        intro j u hj
        match j, hj with
        | 0, hj => simp at hj; subst hj; simp [Addr.add]
      case c2 => intro u hu; simp at hu; subst hu; rfl
      case c3 => unfold maxLen; omega
      case c4 => omega
      case c5 => have := hnx.size; simp; omega
      intro v' w1 hown' hgrow _
      have hnx1 : Below B w' w1 := (hnx.alloc (by have := hnx.size; omega) _).grown hgrow (by have := hnx.size; simp; omega) (fun k hk => (hown1.lt k hk).1)
      go_wp2
      go_roundw
      case rel =>
        refine ⟨y / 128, pre ++ [(y % 128 + 128).toUInt8], by go_num, by omega, by simp, by rw [HS.out, Lib.uvarint_big h128]; simp, ?_, hnx1⟩
        have ec : ((y % 128 + 128 : Nat) : Int) = (y : Int) % 128 + 128 := by omega
        rw [Lib.byteCells_snoc pre (by omega), List.length_append, List.length_singleton, ← Nat.add_assoc, ec]
        simpa using hown'
      case measure => simp [intOf]; omega
    · have hlt : ¬ (pre.length : Int) < (Lib.uvarint x).length - 1 := by
        have h1 := HU.out
        rw [Lib.uvarint_small (by omega), List.length_singleton] at h1
        omega
      have hsm : Lib.uvarint y = [y.toUInt8] := Lib.uvarint_small (by omega)
      have HM := hide hsm
      clear hsm
      go_wp2_with (at_builtin; refine wpList_append_own _ rfl _ _ 68 rfl B 5 i0 (.int .u8 0) 1 1 Tryz.underlying68 hi hz0 hz1 hz2 rfl (by decide) _ _ _ rfl (hown1.alloc _) ⟨wr.heap.size, 0, none⟩ 1 1 [Value.int .u8 (y : Int)] rfl rfl ?c1 ?c2 ?c3 ?c4 ?c5 ?_)
      case c2 => first | rfl | (intro u hu; simp at hu; subst hu; rfl) | simp [Value.oneCell']
      case c3 => unfold maxLen; omega
      case c4 => omega
      case c5 => have := hnx.size; simp; omega
      intro v' w1 hown' hgrow _
      have hnx1 : Below B w' w1 := (hnx.alloc (by have := hnx.size; omega) _).grown hgrow (by have := hnx.size; simp; omega) (fun k hk => (hown1.lt k hk).1)
      go_wp2
      go_ret
      refine ⟨v', rfl, ?_, hnx1⟩
      rw [HS.out, HM.out, Lib.byteCells_snoc pre (by omega), List.length_append, List.length_singleton, ← Nat.add_assoc]
      simpa using hown'

/-! ### withRoom -/
/-- 'make([]T, n, m)': the new row written out. -/
theorem wpList_make_cap {P : Program} (w : World) {ops : Array Oper} {rest : List Oper} {o : Oper} {a : Act} {Q : Exit → Act → World → Prop}
    (hg : o.guard = none) (l c : Operand) (t : TypeId) (hop : o.op = Op.makeSlice t l c)
    (e : TypeId) (i : TypeInfo) (z : Value) (h1 : P.underlying t = some (.slice e)) (h2 : P.info? e = some i) (h3 : i.zero = some z)
    (kl kc : IntKind) (L C : Int) (n m : Nat) (hl : a.eval l = .int kl L) (hc : a.eval c = .int kc C) (hL : L = (n : Int)) (hC : C = (m : Int)) (hnm : n ≤ m) (b2 : i.bytes * m ≤ 281474976710656) (b3 : m ≤ maxLen)
    (hK : ∀ w', Hid (w'.heap[w.heap.size]? = some (.cells (madeCells z.cells (m * i.size)) e (0, 0))) → w.grownBy w' none → wpList P ops Q rest (a.put o.dst (.slice (some ⟨w.heap.size, 0, none⟩) n m)) w') :
    wpList P ops Q (o :: rest) a w := by
  refine wpList_plain hg fun K hK' => ?_
  have h63' : (m : Int) ≤ 9223372036854775807 := by
    have h := b3
    simp [maxLen] at h
    omega
  have hb' : (i.bytes : Int) * (m : Int) ≤ 281474976710656 := by
    have h : ((i.bytes * m : Nat) : Int) ≤ 281474976710656 := by omega
    rwa [Int.natCast_mul] at h
  have hrun := run_make (P := P) w t e i z h1 h2 h3 kl kc n m (by omega) (by omega) hb' h63'
  simp only [Int.toNat_natCast] at hrun
  subst hL
  subst hC
  unfold Oper.wp
  simp [execOp, hop, hl, hc, hrun, Result.andThen]
  exact hK' _ _ (hK _ (heap_alloc_new w _) (World.grownBy_alloc w _ none))

theorem splice_room (l : List UInt8) (s : Nat) : splice (Lib.byteCells (List.replicate (l.length + s) 0)) 0 (Lib.byteCells l) = Lib.byteCells (l ++ List.replicate s 0) := by
  unfold splice
  rw [Lib.byteCells_append]
  simp [Lib.byteCells]
theorem made_array (n : Nat) : madeCells #[Value.int IntKind.u8 0] n = (Lib.byteCells (List.replicate n 0)).toArray := by
  rw [← made_bytes]
/-- A row with spare room, owned. -/
theorem Row.owns {w : World} {B g n : Nat} {l : List UInt8} (h : Row w g l) (hB : B ≤ g) (hn : n ≤ l.length) (hm : l.length ≤ maxLen) : w.ownsRow B 5 1 (.slice (some ⟨g, 0, none⟩) n l.length) n (Lib.byteCells (l.take n)) := by
  refine ⟨by simp [Lib.byteCells]; omega, .inr ⟨g, l.length, _, rfl, hB, h, hn, hm, by simp [Lib.byteCells], by simp [Lib.byteCells, List.map_take]⟩⟩

set_option maxHeartbeats 1000000 in
set_option maxRecDepth 100000 in
theorem withRoom_any (v : Value) (l : List UInt8) (s : Nat) (w : World) (h : Bs w v l) (hl : l.length + s ≤ 281474976710656) :
    Calls Tryz.prog 70 #[v, .int .i64 s] w fun e w' => e = .returned (.slice (some ⟨w.heap.size, 0, none⟩) l.length (l.length + s)) ∧ Row w' w.heap.size (l ++ List.replicate s 0) ∧ Below w.heap.size w w' := by
  obtain ⟨i0, hi, hz0, hz1, hz2⟩ := info_parts info5
  obtain ⟨ao, c, rfl, h1, h2, h3⟩ := h
  have H3 := hide h3
  clear h3
  unfold maxLen at h2
  go_enter Tryz.func70, Tryz.ntmps70
  go_wp2_with (at_make; refine wpList_make_cap _ rfl _ _ 68 rfl 5 i0 (.int .u8 0) Tryz.underlying68 hi hz0 .i64 .i64 _ _ l.length (l.length + s) rfl rfl ?c1 ?c2 ?c3 ?c4 ?c5 ?_)
  case c1 => omega
  case c2 => omega
  case c3 => omega
  case c4 => rw [hz2]; omega
  case c5 => unfold maxLen; omega
  intro w1 hr1 hgrow
  rw [made_array] at hr1
  have hb1 : Below w.heap.size w w1 := (Below.refl _ _).grown hgrow (Nat.le_refl _) (by intro k hk; cases hk)
  have hsrc := Bs.src H3.out hb1 l.length (Nat.le_refl _)
  rw [List.take_length] at hsrc
  have HS := hide hsrc
  clear hsrc
  go_wp2_with (refine wpList_copy_splice rfl _ _ 68 68 rfl 5 Tryz.underlying68 size5 _ _ _ _ _ _ rfl rfl w.heap.size 0 (Lib.byteCells (List.replicate (l.length + s) 0)) 5 hr1.out (Lib.byteCells l) ?d1 ?d2 ?d3 (byteCells_one l) w.heap.size w hb1 (Nat.le_refl _) ?_)
  case d1 => rw [Lib.byteCells_length]; simp
  case d2 => intro h0; rw [Lib.byteCells_length] at h0; first | exact ⟨rfl, HS.out h0⟩ | exact HS.out h0
  case d3 => simp [Lib.byteCells_length]
  intro w2 hr2 hb2
  rw [splice_room] at hr2
  clear hr1 hb1 HS H3
  go_wp2
  go_ret
  exact ⟨rfl, hr2.out, hb2⟩

/-! ### fold -/
theorem fold_eq {n : Int} (h0 : -9223372036854775808 ≤ n) (h1 : n ≤ 9223372036854775807) :
    bits .xor .u64 (IntKind.u64.wrap (IntKind.u64.wrap n * 2)) (IntKind.u64.wrap (n / 9223372036854775808)) = ((Lib.zigzag n : Nat) : Int) := by
  by_cases h : 0 ≤ n
  · rw [show n / 9223372036854775808 = 0 by omega, show IntKind.u64.wrap 0 = ((0 : Nat) : Int) by decide]
    have e : IntKind.u64.wrap (IntKind.u64.wrap n * 2) = ((Lib.zigzag n : Nat) : Int) := by
      rw [Lib.zigzag_nonneg h, IntKind.wrap_u64, IntKind.wrap_u64]
      omega
    rw [e, u64_xor_nat _ _ (Lib.zigzag_lt h0 h1) (by omega), Nat.xor_zero]
  · rw [show n / 9223372036854775808 = -1 by omega, ← Lib.zigzag_neg h0 (by omega), show IntKind.u64.wrap (-1) = IntKind.u64.max by decide]
    have e : IntKind.u64.wrap (IntKind.u64.wrap n * 2) = (((2 * n + 18446744073709551616).toNat : Nat) : Int) := by
      rw [IntKind.wrap_u64, IntKind.wrap_u64]
      omega
    have e2 : IntKind.u64.max = ((18446744073709551615 : Nat) : Int) := by decide
    rw [e, e2, u64_xor_nat _ _ (by omega) (by omega), u64_xor_nat _ _ (by omega) (by omega), Nat.xor_comm]
set_option maxHeartbeats 1000000 in
set_option maxRecDepth 100000 in
theorem fold_any (n : Int) (w : World) (h0 : -9223372036854775808 ≤ n) (h1 : n ≤ 9223372036854775807) :
    Calls Tryz.prog 108 #[.int .i64 n] w fun e w' => e = .returned (.int .u64 (Lib.zigzag n)) ∧ w' = w := by
  go_enter Tryz.func108, Tryz.ntmps108
  go_wp2
  go_ret
  exact ⟨ret_int (fold_eq h0 h1), rfl⟩

/-! ### Put -/
set_option maxHeartbeats 1000000 in
set_option maxRecDepth 100000 in
theorem put_any (v : Value) (l : List UInt8) (n : Nat) (w : World) (h : Bs w v l) (hn : n < 18446744073709551616) (hl : l.length + 20 ≤ 140737488355328) :
    Calls Tryz.prog 42 #[v, .int .u64 n] w fun e w' => ∃ v', e = .returned v' ∧ w'.ownsRow w.heap.size 5 1 v' (l.length + (Lib.uvarint n).length) (Lib.byteCells (l ++ Lib.uvarint n)) ∧ Below w.heap.size w w' := by
  have hlen := Lib.uvarint_length64 hn
  have hc := numberSize_any n w hn
  have hr := withRoom_any v l (Lib.uvarint n).length w h (by omega)
  go_enter Tryz.func42, Tryz.ntmps42
  go_wp2_with (first | (go_at_call 71; refine hc.mono ?_; rintro e w' ⟨rfl, rfl⟩) | (go_at_call 70; refine hr.mono ?_; rintro e w1 ⟨rfl, hrow, hb1⟩))
  have hown := hrow.owns (B := w'.heap.size) (n := l.length) (Nat.le_refl _) (by simp) (by simp [maxLen]; omega)
  rw [List.take_left, List.length_append, List.length_replicate] at hown
  refine (appendNumber_any w'.heap.size l.length n hn _ _ w1 hown hb1.size (by omega)).mono ?_
  rintro e w2 ⟨v2, rfl, hown2, hb2⟩
  rw [← Lib.byteCells_append] at hown2
  clear hown hrow hc hr
  go_wp2
  go_ret
  exact ⟨v2, rfl, hown2, hb1.trans hb2⟩

set_option maxHeartbeats 1000000 in
set_option maxRecDepth 100000 in
theorem putInt_any (v : Value) (l : List UInt8) (n : Int) (w : World) (h : Bs w v l) (h0 : -9223372036854775808 ≤ n) (h1 : n ≤ 9223372036854775807) (hl : l.length + 20 ≤ 140737488355328) :
    Calls Tryz.prog 92 #[v, .int .i64 n] w fun e w' => ∃ v', e = .returned v' ∧ w'.ownsRow w.heap.size 5 1 v' (l.length + (Lib.uvarint (Lib.zigzag n)).length) (Lib.byteCells (l ++ Lib.uvarint (Lib.zigzag n))) ∧ Below w.heap.size w w' := by
  have hc := fold_any n w h0 h1
  have hp := put_any v l (Lib.zigzag n) w h (Lib.zigzag_lt h0 h1) hl
  have H := hide hp
  clear hp
  go_enter Tryz.func92, Tryz.ntmps92
  go_wp2_with (first | (go_at_call 108; refine hc.mono ?_; rintro e w' ⟨rfl, rfl⟩) | (go_at_call 42; refine H.out.mono ?_; rintro e w1 ⟨v2, rfl, hown, hb1⟩))
  go_ret
  exact ⟨v2, rfl, hown, hb1⟩

set_option maxHeartbeats 1000000 in
set_option maxRecDepth 100000 in
theorem putText_any (v : Value) (l : List UInt8) (s : ByteArray) (w : World) (h : Bs w v l) (hl : l.length + s.size + 20 ≤ 140737488355328) :
    Calls Tryz.prog 72 #[v, .string s] w fun e w' => ∃ v', e = .returned v' ∧ w'.ownsRow w.heap.size 5 1 v' (l.length + (Lib.uvarint s.size).length + s.size) (Lib.byteCells (l ++ Lib.uvarint s.size ++ s.data.toList)) ∧ Below w.heap.size w w' := by
  have hlen := Lib.uvarint_length64 (x := s.size) (by omega)
  have hc := numberSize_any s.size w (by omega)
  have hr := withRoom_any v l ((Lib.uvarint s.size).length + s.size) w h (by omega)
  have H := hide hr
  clear hr
  go_enter Tryz.func72, Tryz.ntmps72
  go_wp2_with (first | (go_at_call 71; refine hc.mono ?_; rintro e w' ⟨rfl, rfl⟩) | fail)
  rw [← Int.natCast_add]
  refine H.out.mono ?_
  rintro e w1 ⟨rfl, hrow, hb1⟩
  have hown := hrow.owns (B := w'.heap.size) (n := l.length) (Nat.le_refl _) (by simp) (by simp [maxLen]; omega)
  rw [List.take_left, List.length_append, List.length_replicate] at hown
  have ha := appendNumber_any w'.heap.size l.length s.size (by omega) _ _ w1 hown hb1.size (by omega)
  have HA := hide ha
  clear ha hown hrow hc H
  go_wp2_with fail
  refine HA.out.mono ?_
  rintro e w2 ⟨v2, rfl, hown2, hb2⟩
  rw [← Lib.byteCells_append] at hown2
  obtain ⟨i0, hi, hz0, hz1, hz2⟩ := info_parts info5
  have hb3 := hb1.trans hb2
  go_wp2_with (at_builtin; refine Lib.wpList_append_own_string _ rfl _ _ 68 9 rfl w'.heap.size 5 i0 Tryz.underlying68 Tryz.underlying9 hi hz0 hz1 hz2 _ _ _ rfl hown2 s rfl ?c1 ?c2 ?c3 ?_)
  case c1 => unfold maxLen; omega
  case c2 => omega
  case c3 => exact hb3.size
  intro v3 w3 hown3 hgrow _
  rw [Lib.strCells_eq, ← Lib.byteCells_append] at hown3
  have hb4 : Below w'.heap.size w' w3 := hb3.grown hgrow hb3.size (fun k hk => (hown2.lt k hk).1)
  clear hown2 hgrow HA
  go_wp2
  go_ret
  exact ⟨v3, rfl, hown3, hb4⟩
end Go.Proofs.YtfkhhplcogedmaaGreatDoor

/-
  Sets, systems, programs in memory; sets, areSets.
-/
namespace Go.Proofs.YtfkhhplcogedmaaGreatDoor
open Go.RowKit
set_option maxRecDepth 100000
/-- Numbers as they are read. -/
def Nl (Q : Nat → Prop) (W : World) (v : Value) (l : List Int) : Prop :=
  ∃ ao c, v = .slice ao l.length c ∧ l.length ≤ c ∧ c ≤ maxLen ∧ (0 < l.length → ∃ g o, ao = some ⟨g, o, none⟩ ∧ Q g ∧ ∀ i (h : i < l.length), I6 l[i] ∧ W.cell? ⟨g, o + i, none⟩ = some (.int .i64 l[i]))
/-- A system at its place. -/
def SyAt (Q : Nat → Prop) (W : World) (g o : Nat) (s : Sy) : Prop := I6 s.run.pa ∧ I6 s.run.lo ∧ ∃ v1 v2 v3 v4 vc, W.cell? ⟨g, o, none⟩ = some v1 ∧ W.cell? ⟨g, o + 1, none⟩ = some v2 ∧ W.cell? ⟨g, o + 2, none⟩ = some v3 ∧ W.cell? ⟨g, o + 3, none⟩ = some v4 ∧ W.cell? ⟨g, o + 4, none⟩ = some (.string s.run.name) ∧ W.cell? ⟨g, o + 5, none⟩ = some (.int .i64 s.run.pa) ∧ W.cell? ⟨g, o + 6, none⟩ = some (.int .i64 s.run.lo) ∧ W.cell? ⟨g, o + 7, none⟩ = some vc ∧ Nl Q W v1 s.wi ∧ Nl Q W v2 s.wo ∧ Nl Q W v3 s.re ∧ Nl Q W v4 s.wr ∧ Il Q W vc s.run.code
def Sys (Q : Nat → Prop) (W : World) (v : Value) (l : List Sy) : Prop :=
  ∃ ao c, v = .slice ao l.length c ∧ l.length ≤ c ∧ c ≤ maxLen ∧ (0 < l.length → ∃ g o, ao = some ⟨g, o, none⟩ ∧ Q g ∧ ∀ i (h : i < l.length), SyAt Q W g (o + i * 8) l[i])
def Pgm (Q : Nat → Prop) (W : World) (vs vf : Value) (p : Pg) : Prop := Sys Q W vs p.sys ∧ Rts Q W vf p.fns
section
variable {W W' : World} {S Q : Nat → Prop} {v : Value}
theorem Nl.mv {l : List Int} (h : Nl Q W v l) (hm : Mv W W' S) (hs : ∀ j, Q j → ¬ S j) : Nl Q W' v l := by
  obtain ⟨ao, c, h1, h2, h3, h4⟩ := h
  refine ⟨ao, c, h1, h2, h3, fun h0 => ?_⟩
  obtain ⟨g, o, h5, h6, h7⟩ := h4 h0
  refine ⟨g, o, h5, h6, fun i hi => ?_⟩
  obtain ⟨a, b⟩ := h7 i hi
  exact ⟨a, hm.cell b (hs g h6)⟩
theorem Nl.mono {Q' : Nat → Prop} {l : List Int} (h : Nl Q W v l) (hq : ∀ j, Q j → Q' j) : Nl Q' W v l := by
  obtain ⟨ao, c, h1, h2, h3, h4⟩ := h
  refine ⟨ao, c, h1, h2, h3, fun h0 => ?_⟩
  obtain ⟨g, o, h5, h6, h7⟩ := h4 h0
  exact ⟨g, o, h5, hq g h6, h7⟩
theorem Nl.later {l : List Int} (h : Nl Q W v l) (hb : Below W.heap.size W W') : Nl Q W' v l := h.mv (Mv.of_below hb (fun _ => False)) (fun _ _ e => e)
theorem Nl.at {l : List Int} (h : Nl Q W v l) : ∃ ao c, v = .slice ao l.length c ∧ l.length ≤ c ∧ c ≤ 9223372036854775807 := by
  obtain ⟨ao, c, h1, h2, h3, -⟩ := h
  exact ⟨ao, c, h1, h2, by unfold maxLen at h3; omega⟩
theorem Nl.nth {n c : Nat} {ao : Option Addr} {l : List Int} (h : Nl Q W (.slice ao n c) l) {k : Nat} (hk : k < l.length) : ∃ g o, ao = some ⟨g, o, none⟩ ∧ Q g ∧ W.cell? ⟨g, o + k, none⟩ = some (.int .i64 l[k]) ∧ I6 l[k] := by
  obtain ⟨ao', c', e, h2, h3, h4⟩ := h
  injection e with e1 e2 e3
  subst e1 e3
  obtain ⟨g, o, rfl, hq, h5⟩ := h4 (by omega)
  obtain ⟨a, b⟩ := h5 k hk
  exact ⟨g, o, rfl, hq, b, a⟩
theorem SyAt.mv {g o : Nat} {s : Sy} (h : SyAt Q W g o s) (hm : Mv W W' S) (hs : ∀ j, Q j → ¬ S j) (hg : Q g) : SyAt Q W' g o s := by
  obtain ⟨i1, i2, v1, v2, v3, v4, vc, h1, h2, h3, h4, h5, h6, h7, h8, n1, n2, n3, n4, n5⟩ := h
  have c := fun {a : Addr} {x : Value} (e : W.cell? a = some x) (ha : a.block = g) => hm.cell e (by rw [ha]; exact hs g hg)
  exact ⟨i1, i2, v1, v2, v3, v4, vc, c h1 rfl, c h2 rfl, c h3 rfl, c h4 rfl, c h5 rfl, c h6 rfl, c h7 rfl, c h8 rfl, n1.mv hm hs, n2.mv hm hs, n3.mv hm hs, n4.mv hm hs, n5.mv hm hs⟩
theorem Sys.mv {l : List Sy} (h : Sys Q W v l) (hm : Mv W W' S) (hs : ∀ j, Q j → ¬ S j) : Sys Q W' v l := by
  obtain ⟨ao, c, h1, h2, h3, h4⟩ := h
  refine ⟨ao, c, h1, h2, h3, fun h0 => ?_⟩
  obtain ⟨g, o, h5, h6, h7⟩ := h4 h0
  exact ⟨g, o, h5, h6, fun i hi => (h7 i hi).mv hm hs h6⟩
theorem Sys.later {l : List Sy} (h : Sys Q W v l) (hb : Below W.heap.size W W') : Sys Q W' v l := h.mv (Mv.of_below hb (fun _ => False)) (fun _ _ e => e)
theorem Sys.at {l : List Sy} (h : Sys Q W v l) : ∃ ao c, v = .slice ao l.length c ∧ l.length ≤ c ∧ c ≤ 9223372036854775807 := by
  obtain ⟨ao, c, h1, h2, h3, -⟩ := h
  exact ⟨ao, c, h1, h2, by unfold maxLen at h3; omega⟩
theorem Sys.nth {n c : Nat} {ao : Option Addr} {l : List Sy} (h : Sys Q W (.slice ao n c) l) {k : Nat} (hk : k < l.length) : ∃ g o, ao = some ⟨g, o, none⟩ ∧ Q g ∧ SyAt Q W g (o + k * 8) l[k] := by
  obtain ⟨ao', c', e, h2, h3, h4⟩ := h
  injection e with e1 e2 e3
  subst e1 e3
  obtain ⟨g, o, rfl, hq, h5⟩ := h4 (by omega)
  exact ⟨g, o, rfl, hq, h5 k hk⟩
theorem Rts.at {l : List Rt} (h : Rts Q W v l) : ∃ ao c, v = .slice ao l.length c ∧ l.length ≤ c ∧ c ≤ 9223372036854775807 := by
  obtain ⟨ao, c, h1, h2, h3, -⟩ := h
  exact ⟨ao, c, h1, h2, by unfold maxLen at h3; omega⟩
theorem Rts.nth {n c : Nat} {ao : Option Addr} {l : List Rt} (h : Rts Q W (.slice ao n c) l) {k : Nat} (hk : k < l.length) : ∃ g o, ao = some ⟨g, o, none⟩ ∧ Q g ∧ I6 l[k].pa ∧ I6 l[k].lo ∧ ∃ vc, W.cell? ⟨g, o + k * 4, none⟩ = some (.string l[k].name) ∧ W.cell? ⟨g, o + k * 4 + 1, none⟩ = some (.int .i64 l[k].pa) ∧ W.cell? ⟨g, o + k * 4 + 2, none⟩ = some (.int .i64 l[k].lo) ∧ W.cell? ⟨g, o + k * 4 + 3, none⟩ = some vc ∧ Il Q W vc l[k].code := by
  obtain ⟨ao', c', e, h2, h3, h4⟩ := h
  injection e with e1 e2 e3
  subst e1 e3
  obtain ⟨g, o, rfl, hq, h5⟩ := h4 (by omega)
  exact ⟨g, o, rfl, hq, h5 k hk⟩
end
def syV (s : Sy) (v1 v2 v3 v4 vc : Value) : Value := .agg #[v1, v2, v3, v4, .string s.run.name, .int .i64 s.run.pa, .int .i64 s.run.lo, vc]
theorem undSet : (Tryz.prog.underlying 104).map (fun d => match d with | .struct _ | .array _ _ => true | _ => false) = some true := by kernel_rfl
theorem res_set {fn : Func} {p : Tmp} (hr : fn.results = #[.cell p 104]) {tmps : Array Value} {W : World} {g : Nat} {x y z t : Value} (hp : tmps.getD p undef = .pointer (some ⟨g, 0, none⟩)) (hg : W.heap[g]? = some (.cells #[x, y, z, t] 104 (0, 0))) : (results fn tmps).run Tryz.prog W = .ok (.agg #[x, y, z, t]) W := by
  obtain ⟨d, hu, hd⟩ := Option.map_eq_some_iff.1 undSet
  exact results_cell_row hr tmps W g 104 _ (0, 0) d hp hg hu (by cases d <;> first | rfl | cases hd) (by kernel_rfl)
theorem ix_set (a1 a2 a3 a4 : Option Addr) (n1 n2 n3 n4 c1 c2 c3 c4 : Nat) (w : World) :
    (Instr.index 104 (.agg #[.slice a1 n1 c1, .slice a2 n2 c2, .slice a3 n3 c3, .slice a4 n4 c4]) (.int .i64 0)).run Tryz.prog w = .ok (.slice a1 n1 c1) w ∧
    (Instr.index 104 (.agg #[.slice a1 n1 c1, .slice a2 n2 c2, .slice a3 n3 c3, .slice a4 n4 c4]) (.int .i64 1)).run Tryz.prog w = .ok (.slice a2 n2 c2) w ∧
    (Instr.index 104 (.agg #[.slice a1 n1 c1, .slice a2 n2 c2, .slice a3 n3 c3, .slice a4 n4 c4]) (.int .i64 2)).run Tryz.prog w = .ok (.slice a3 n3 c3) w ∧
    (Instr.index 104 (.agg #[.slice a1 n1 c1, .slice a2 n2 c2, .slice a3 n3 c3, .slice a4 n4 c4]) (.int .i64 3)).run Tryz.prog w = .ok (.slice a4 n4 c4) w := ⟨by kernel_rfl, by kernel_rfl, by kernel_rfl, by kernel_rfl⟩
set_option maxHeartbeats 1000000 in
theorem sets_any (a1 a2 a3 a4 : Option Addr) (n1 n2 n3 n4 c1 c2 c3 c4 : Nat) (nm pa lo vc : Value) (W : World) : Calls Tryz.prog 43 #[.agg #[.slice a1 n1 c1, .slice a2 n2 c2, .slice a3 n3 c3, .slice a4 n4 c4, nm, pa, lo, vc]] W fun e w' => e = .returned (.agg #[.slice a1 n1 c1, .slice a2 n2 c2, .slice a3 n3 c3, .slice a4 n4 c4]) ∧ Below W.heap.size W w' := by
  go_enter Tryz.func43, Tryz.ntmps43
  go_wp2_with fail
  have hn := heap_alloc_new (W.alloc (.cells #[.slice a1 n1 c1, .slice a2 n2 c2, .slice a3 n3 c3, .slice a4 n4 c4, nm, pa, lo, vc] 38)) (.cells #[.slice a1 n1 c1, .slice a2 n2 c2, .slice a3 n3 c3, .slice a4 n4 c4] 104)
  rw [show (W.alloc (.cells #[.slice a1 n1 c1, .slice a2 n2 c2, .slice a3 n3 c3, .slice a4 n4 c4, nm, pa, lo, vc] 38)).heap.size = W.heap.size + 1 from Array.size_push ..] at hn
  exact bodyPost_ret (res_set rfl rfl hn) rfl ⟨rfl, below_on (below_alloc W _) (below_alloc _ _)⟩
theorem setFrom_cons (last k : Int) (l : List Int) : setFrom last (k :: l) = (decide (last < k ∧ k ≤ 12) && setFrom k l) := rfl
set_option maxHeartbeats 4000000 in
theorem aresets_at {Q : Nat → Prop} {W : World} {a1 a2 a3 a4 : Option Addr} {n1 n2 n3 n4 c1 c2 c3 c4 : Nat} (nm pa lo vc : Value) (l1 l2 l3 l4 : List Int)
    (h1 : Nl Q W (.slice a1 n1 c1) l1) (h2 : Nl Q W (.slice a2 n2 c2) l2) (h3 : Nl Q W (.slice a3 n3 c3) l3) (h4 : Nl Q W (.slice a4 n4 c4) l4) :
    Calls Tryz.prog 67 #[.agg #[.slice a1 n1 c1, .slice a2 n2 c2, .slice a3 n3 c3, .slice a4 n4 c4, nm, pa, lo, vc]] W fun e w' => e = .returned (.bool (setOk l1 && setOk l2 && setOk l3 && setOk l4)) ∧ Below W.heap.size W w' := by
  obtain ⟨w0, hw0⟩ : ∃ X, X = W.alloc (.cells #[.slice a1 n1 c1, .slice a2 n2 c2, .slice a3 n3 c3, .slice a4 n4 c4, nm, pa, lo, vc] 38) := ⟨_, rfl⟩
  have B0 : Below W.heap.size W w0 := hw0 ▸ below_alloc W _
  have n1' : w0.heap[W.heap.size]? = some (.cells #[.slice a1 n1 c1, .slice a2 n2 c2, .slice a3 n3 c3, .slice a4 n4 c4, nm, pa, lo, vc] 38 (0, 0)) := by rw [hw0]; exact heap_alloc_new W _
  obtain ⟨B, hB⟩ : ∃ B, B = W.heap.size := ⟨_, rfl⟩
  rw [← hB] at n1'
  have e8 : w0.cell? ⟨B, 0, none⟩ = some (.slice a1 n1 c1) ∧ w0.cell? ⟨B, 1, none⟩ = some (.slice a2 n2 c2) ∧ w0.cell? ⟨B, 2, none⟩ = some (.slice a3 n3 c3) ∧ w0.cell? ⟨B, 3, none⟩ = some (.slice a4 n4 c4) ∧ w0.cell? ⟨B, 4, none⟩ = some nm ∧ w0.cell? ⟨B, 5, none⟩ = some pa ∧ w0.cell? ⟨B, 6, none⟩ = some lo ∧ w0.cell? ⟨B, 7, none⟩ = some vc := by
    refine ⟨?_, ?_, ?_, ?_, ?_, ?_, ?_, ?_⟩ <;> rw [cell_of_row w0 _ _ _ 38 (0, 0) n1'] <;> rfl
  obtain ⟨d0, d1, d2, d3, d4, d5, d6, d7⟩ := e8
  have J := hide (sets_any a1 a2 a3 a4 n1 n2 n3 n4 c1 c2 c3 c4 nm pa lo vc w0)
  have HB := hide B0
  obtain ⟨te, hte⟩ : ∃ t, t = (setOk l1 && setOk l2 && setOk l3 && setOk l4) := ⟨_, rfl⟩
  rw [← hte]
  have SEL : Hid (∀ (w : World), Below W.heap.size W w → ∀ k : Nat, k < 4 → ∃ ax nx cx lx, (∀ w, (Instr.index 104 (.agg #[.slice a1 n1 c1, .slice a2 n2 c2, .slice a3 n3 c3, .slice a4 n4 c4]) (.int .i64 (k : Int))).run Tryz.prog w = .ok (.slice ax nx cx) w) ∧ Nl Q w (.slice ax nx cx) lx ∧ [l1, l2, l3, l4][k]? = some lx) := by
    intro w hw k hk
    obtain rfl | rfl | rfl | rfl : k = 0 ∨ k = 1 ∨ k = 2 ∨ k = 3 := by omega
    · exact ⟨_, _, _, _, fun w => (ix_set a1 a2 a3 a4 n1 n2 n3 n4 c1 c2 c3 c4 w).1, h1.later hw, rfl⟩
    · exact ⟨_, _, _, _, fun w => (ix_set a1 a2 a3 a4 n1 n2 n3 n4 c1 c2 c3 c4 w).2.1, h2.later hw, rfl⟩
    · exact ⟨_, _, _, _, fun w => (ix_set a1 a2 a3 a4 n1 n2 n3 n4 c1 c2 c3 c4 w).2.2.1, h3.later hw, rfl⟩
    · exact ⟨_, _, _, _, fun w => (ix_set a1 a2 a3 a4 n1 n2 n3 n4 c1 c2 c3 c4 w).2.2.2, h4.later hw, rfl⟩
  have LEN : Hid ([l1, l2, l3, l4].length = 4) := rfl
  have TE : Hid (te = [l1, l2, l3, l4].all setOk) := by unfold Hid; rw [hte]; simp [Bool.and_assoc]
  generalize [l1, l2, l3, l4] = ls at *
  have LL : Hid (∀ k lx, ls[k]? = some lx → setOk lx = false → te = false) := fun k lx h1 h2 => by
    rw [TE.out, List.all_eq_false]
    exact ⟨lx, List.mem_of_getElem? h1, by simp [h2]⟩
  have LK : Hid (∀ k lx, ls[k]? = some lx → setOk lx = true → (ls.take k).all setOk = true → (ls.take (k + 1)).all setOk = true) := fun k lx h1 h2 h3 => by
    rw [List.take_add_one, h1, List.all_append, h3]
    simp [h2]
  clear hte h1 h2 h3 h4 B0 n1'
  go_enter Tryz.func67, Tryz.ntmps67
  go_upto_region 1 with fail
  rw [← hw0, ← hB]
  clear hw0 hB
  go_wp2_with fail
  refine J.out.mono ?_
  rintro e w1 ⟨rfl, hb1⟩
  have H1 := hide (below_on HB.out hb1)
  clear hb1 J d0 d1 d2 d3 d4 d5 d6 d7
  go_wp2_with fail
  go_loop [10] (fun v => ∃ k : Nat, v = .int .i64 (k : Int) ∧ k ≤ 4 ∧ Hid ((ls.take k).all setOk = true)) (fun v => 4 - (intOf v).toNat)
  case atStart => exact ⟨0, rfl, by omega, rfl⟩
  case round =>
    obtain ⟨k, rfl, hk, ha⟩ := hrel
    by_cases hlt : k < 4
    · obtain ⟨ax, nx, cx, lx, ix, hnl, hls⟩ := SEL.out w1 H1.out k hlt
      obtain ⟨ax', cx', e, hn1, hn2⟩ := hnl.at
      injection e with e1 e2 e3
      subst e1 e3
      have HN := hide hnl
      have HLS := hide hls
      have EN := hide e2
      rw [← e2] at hn1
      clear hnl hls e2
      go_wp2_with fail
      go_loop [15, 5] (fun v u => ∃ (j : Nat) (last : Int), v = .int .i64 (j : Int) ∧ u = .int .i64 last ∧ j ≤ nx ∧ Hid (setOk lx = setFrom last (lx.drop j))) (fun v _ => nx - (intOf v).toNat)
      case atStart => exact ⟨0, 0, rfl, rfl, by omega, rfl⟩
      case round =>
        obtain ⟨j, last, rfl, rfl, hj, hs⟩ := hrel
        by_cases hjt : j < nx
        · have hjt' : j < lx.length := by rw [← EN.out]; exact hjt
          obtain ⟨g, o, rfl, -, d0, -⟩ := HN.out.nth hjt'
          have hd : lx.drop j = lx[j] :: lx.drop (j + 1) := List.drop_eq_getElem_cons hjt'
          have hs2 := hs.out
          rw [hd, setFrom_cons] at hs2
          have HS2 := hide hs2
          clear hs2 hs hd
          generalize lx[j] = x at *
          by_cases hx1 : x ≤ last
          · obtain rfl : te = false := LL.out k lx HLS.out (by rw [HS2.out, decide_eq_false (by omega)]; rfl)
            go_wp2_with fail
            go_ret
            exact ⟨rfl, H1.out⟩
          · by_cases hx2 : 12 < x
            · obtain rfl : te = false := LL.out k lx HLS.out (by rw [HS2.out, decide_eq_false (by omega)]; rfl)
              go_wp2_with fail
              go_ret
              exact ⟨rfl, H1.out⟩
            · have HS3 : Hid (setOk lx = setFrom x (lx.drop (j + 1))) := by unfold Hid; rw [HS2.out, decide_eq_true (by omega), Bool.true_and]
              go_wp2_with fail
              exact ⟨⟨j + 1, x, by go_num, rfl, by omega, HS3.out⟩, by simp [intOf]; omega⟩
        · have HS3 : Hid (setOk lx = true) := by
            unfold Hid
            rw [hs.out, List.drop_eq_nil_of_le (by rw [← EN.out]; omega)]; rfl
          go_wp2_with fail
          exact ⟨⟨k + 1, by go_num, by omega, LK.out k lx HLS.out HS3.out ha.out⟩, by simp [intOf]; omega⟩
    · obtain rfl : k = 4 := by omega
      obtain rfl : te = true := by
        rw [TE.out]
        have := ha.out
        rw [List.take_of_length_le (by rw [LEN.out]; omega)] at this
        exact this
      go_wp2_with fail
      go_ret
      exact ⟨rfl, H1.out⟩
end Go.Proofs.YtfkhhplcogedmaaGreatDoor
