import Derived.Test.YtafmiolehlagkaaGreatProg
import Derived.WalkKit
import Derived.WalkSpells
import Derived.WalkLawsBesides
import Derived.Below
import Derived.RowKit
import Derived.Lib.VarintMem
import Derived.Laws.CopyOwn
import Derived.Shelf.Strconv.Itoa0
import Derived.Lib.Zigzag
import Derived.Lib.AppendStr
import Derived.Deep.QuietTactic
import Derived.BigQuiet
import Derived.Laws.BytesArg
namespace Go.Proofs.YtafmiolehlagkaaGreat.Pak
open Go.RowKit
set_option maxRecDepth 100000

theorem hide {p : Prop} (h : p) : Hid p := h
theorem ret_int {k : IntKind} {a b : Int} (h : a = b) : Ending.returned (.int k a) = .returned (.int k b) := by rw [h]
theorem val_int {k : IntKind} {a b : Int} (h : a = b) : Value.int k a = .int k b := by rw [h]

/-- A slice of bytes that reads as l (nil, or empty, or a row of cells). -/
def Bs (w : World) (v : Value) (l : List UInt8) : Prop :=
  ∃ ao c, v = .slice ao l.length c ∧ l.length ≤ c ∧ c ≤ maxLen ∧ ∀ j (hj : j < l.length), ∃ g o, ao = some ⟨g, o, none⟩ ∧ w.cell? ⟨g, o + j, none⟩ = some (.int .u8 (l[j]).toNat)

theorem Bs.nil (w : World) : Bs w (.slice none 0 0) [] := ⟨none, 0, rfl, Nat.le_refl _, Nat.zero_le _, fun j hj => absurd hj (by simp)⟩
theorem Bs.row {w : World} {g o c : Nat} {l : List UInt8} (h1 : l.length ≤ c) (h2 : c ≤ maxLen) (h3 : ∀ j (hj : j < l.length), w.cell? ⟨g, o + j, none⟩ = some (.int .u8 (l[j]).toNat)) : Bs w (.slice (some ⟨g, o, none⟩) l.length c) l :=
  ⟨some ⟨g, o, none⟩, c, rfl, h1, h2, fun j hj => ⟨g, o, rfl, h3 j hj⟩⟩
theorem Bs.parts {w : World} {v : Value} {l : List UInt8} (h : Bs w v l) :
    (∃ ao c, v = .slice ao 0 c ∧ l = []) ∨ ∃ g o c, v = .slice (some ⟨g, o, none⟩) l.length c ∧ 0 < l.length ∧ l.length ≤ c ∧ c ≤ maxLen ∧ ∀ j (hj : j < l.length), w.cell? ⟨g, o + j, none⟩ = some (.int .u8 (l[j]).toNat) := by
  obtain ⟨ao, c, rfl, h1, h2, h3⟩ := h
  by_cases h0 : 0 < l.length
  · obtain ⟨g, o, rfl, _⟩ := h3 0 h0
    refine .inr ⟨g, o, c, rfl, h0, h1, h2, fun j hj => ?_⟩
    obtain ⟨g', o', e, hc⟩ := h3 j hj
    simp at e
    obtain ⟨rfl, rfl⟩ := e
    exact hc
  · obtain rfl : l = [] := List.eq_nil_of_length_eq_zero (by omega)
    exact .inl ⟨ao, c, rfl, rfl⟩
/-- What is below the first new block reads on. -/
theorem Bs.below {B : Nat} {w w' : World} {v : Value} {l : List UInt8} (h : Bs w v l) (hb : Below B w w') (hB : w.heap.size ≤ B) : Bs w' v l := by
  obtain ⟨ao, c, rfl, h1, h2, h3⟩ := h
  refine ⟨ao, c, rfl, h1, h2, fun j hj => ?_⟩
  obtain ⟨g, o, e, hc⟩ := h3 j hj
  have hlt := World.block_lt_of_cell? w _ hc
  exact ⟨g, o, e, (hb.cell (p := ⟨g, o + j, none⟩) (by exact Nat.lt_of_lt_of_le hlt hB)).trans hc⟩
/-- A block of the call's own, whole. -/
abbrev Row (w : World) (g : Nat) (l : List UInt8) : Prop := w.heap[g]? = some (.cells (Lib.byteCells l).toArray 5 (0, 0))
theorem Row.cell {w : World} {g : Nat} {l : List UInt8} (h : Row w g l) (j : Nat) (hj : j < l.length) : w.cell? ⟨g, j, none⟩ = some (.int .u8 (l[j]).toNat) := by
  rw [cell_of_row w g j _ 5 (0, 0) h]
  simp [Lib.byteCells, hj]
theorem Row.frozen {w : World} {g : Nat} {l : List UInt8} (h : Row w g l) (j : Nat) : w.frozen? ⟨g, j, none⟩ = false := frozen_of_row w g j _ 5 h
theorem Row.bs {w : World} {g n c : Nat} {l : List UInt8} (h : Row w g l) (hn : n ≤ l.length) (hc : n ≤ c) (hm : c ≤ maxLen) : Bs w (.slice (some ⟨g, 0, none⟩) n c) (l.take n) := by
  have e : (l.take n).length = n := by simp; omega
  have := Bs.row (w := w) (g := g) (o := 0) (c := c) (l := l.take n) (by omega) hm (fun j hj => by
    rw [e] at hj
    have := h.cell j (by omega)
    simpa using this)
  rwa [e] at this
theorem Row.set {w : World} {g : Nat} {l : List UInt8} (h : Row w g l) (j : Nat) (b : UInt8) : Row (w.setCell ⟨g, j, none⟩ (.int .u8 b.toNat)) g (l.set j b) := by
  have := heap_setCell_same w g j _ 5 (.int .u8 b.toNat) h
  unfold Row
  rw [this]
  simp [Lib.byteCells, List.map_set]
theorem Row.below {B : Nat} {w w' : World} {g : Nat} {l : List UInt8} (h : Row w g l) (hb : Below B w w') (hB : g < B) : Row w' g l := (hb.block g hB).trans h
theorem Row.lt {w : World} {g : Nat} {l : List UInt8} (h : Row w g l) : g < w.heap.size := (Array.getElem?_eq_some_iff.1 h).1

/-! ### Sum -/
end Go.Proofs.YtafmiolehlagkaaGreat.Pak

namespace Go.Proofs.YtafmiolehlagkaaGreat.Pak
open Go.RowKit
set_option maxRecDepth 100000
theorem info5 : (Tryz.prog.info? 5).map (fun i => (i.zero, i.size, i.bytes)) = some (some (.int .u8 0), 1, 1) := by kernel_rfl
theorem size5 : (Tryz.prog.info? 5).map (·.size) = some 1 := by kernel_rfl

/-- A full row that is owned is its block. -/
theorem own_block {w : World} {base e g n : Nat} {xs : List Value} (h : w.ownsRow base e 1 (.slice (some ⟨g, 0, none⟩) n n) n xs) : w.heap[g]? = some (.cells xs.toArray e (0, 0)) ∧ base ≤ g := by
  rcases h.2 with ⟨h', _⟩ | ⟨g', cap', cur, h', hb, hg, _, _, hs, htake⟩
  · simp at h'
  · simp only [Value.slice.injEq, Option.some.injEq, Addr.mk.injEq, and_true, true_and] at h'
    obtain ⟨rfl, rfl⟩ := h'
    have : cur = xs.toArray := by
      rw [← htake, List.take_of_length_le (by simp; omega)]
    exact ⟨this ▸ hg, hb⟩
theorem made_bytes (n : Nat) : (madeCells #[Value.int IntKind.u8 0] n).toList = Lib.byteCells (List.replicate n 0) := by
  rw [toList_madeCells_one]
  simp [Lib.byteCells]
theorem byteCells_one (l : List UInt8) : ∀ u ∈ Lib.byteCells l, u.oneCell' = true := by
  intro u hu
  simp only [Lib.byteCells, List.mem_map] at hu
  obtain ⟨b, _, rfl⟩ := hu
  rfl
theorem byteCells_at {l : List UInt8} {j : Nat} {u : Value} (h : (Lib.byteCells l)[j]? = some u) : ∃ hj : j < l.length, u = .int .u8 (l[j]).toNat := by
  simp only [Lib.byteCells, List.getElem?_map, Option.map_eq_some_iff] at h
  obtain ⟨b, hb, rfl⟩ := h
  obtain ⟨hj, e⟩ := List.getElem?_eq_some_iff.1 hb
  exact ⟨hj, by rw [e]⟩
/-- What a copy out of a slice of bytes asks. -/
theorem Bs.src {w w' : World} {ao : Option Addr} {l : List UInt8} (h3 : ∀ j (hj : j < l.length), ∃ g o, ao = some ⟨g, o, none⟩ ∧ w.cell? ⟨g, o + j, none⟩ = some (.int .u8 (l[j]).toNat)) (hb : Below w.heap.size w w') (m : Nat) (hm : m ≤ l.length) :
    0 < m → ∃ ad, ao = some ad ∧ ∀ j v, (Lib.byteCells (l.take m))[j]? = some v → w'.cell? (ad.add j) = some v := by
  intro h0
  obtain ⟨g, o, rfl, _⟩ := h3 0 (by omega)
  refine ⟨_, rfl, fun j v hv => ?_⟩
  obtain ⟨hj, rfl⟩ := byteCells_at hv
  simp at hj
  obtain ⟨g', o', e, hc⟩ := h3 j (by omega)
  simp at e
  obtain ⟨rfl, rfl⟩ := e
  have hlt := World.block_lt_of_cell? w _ hc
  rw [show (⟨g, o, none⟩ : Addr).add j = ⟨g, o + j, none⟩ by simp [Addr.add], hb.cell (p := ⟨g, o + j, none⟩) hlt, hc]
  simp

end Go.Proofs.YtafmiolehlagkaaGreat.Pak

/-
  DERIVED: THE SHELF's CONTRACTS AT THIS DUMP, IN PLAIN WORDS (tools/lay-plain.mjs out of 'the shelf's own text', which tools/lay-shelf.mjs wrote): THE SAME DECLARATIONS UNDER THE SAME NAMES: 'import', 'namespace', 'open', 'def', 'theorem' AND NOTHING ELSE: no command of the shelf's: FOR A HAND-IN. Each laying: the table of numbers ('.._ren') and one theorem, a field a fact of the dump's own or the kernel's comparison; each contract: ONE APPLICATION.
-/
namespace Go.Proofs
open Go.Shelf
def Tryz.lays129_ren : Go.Shelf.Ren := ⟨fun | 129 => 165 | n => n, fun | 53 => 165 | 3 => 3 | 4 => 4 | 46 => 211 | 5 => 5 | 9 => 9 | n => n, fun | n => n⟩
theorem Tryz.lays129 : Go.Proofs.Lays.n129 Tryz.prog Tryz.lays129_ren := {
  mixed := by kernel_rfl
  f129 := Tryz.func165.trans (congrArg some (by kernel_rfl))
  t3 := Tryz.underlying3
  a3 := Tryz.isAgg3
  z3 := Tryz.sizeOf3
  v3 := Tryz.zeroValue3
  t4 := Tryz.underlying4
  a4 := Tryz.isAgg4
  z4 := Tryz.sizeOf4
  v4 := Tryz.zeroValue4
  t5 := Tryz.underlying5
  a5 := Tryz.isAgg5
  z5 := Tryz.sizeOf5
  v5 := Tryz.zeroValue5
  t9 := Tryz.underlying9
  a9 := Tryz.isAgg9
  z9 := Tryz.sizeOf9
  v9 := Tryz.zeroValue9
  t46 := Tryz.underlying211
  a46 := Tryz.isAgg211
  z46 := Tryz.sizeOf211
  v46 := Tryz.zeroValue211
  t53 := Tryz.underlying165
  a53 := Tryz.isAgg165
  z53 := Tryz.sizeOf165
  v53 := Tryz.zeroValue165 }
/-- bits.Len64: "Len64 returns the minimum number of bits required to represent x; the result is 0 for x == 0.": IT RETURNS 'Lib.bitLen x'; the world is as it was. ('h0', 'h1': x is a uint64.) (LAID: no walk: one application.) -/
theorem Tryz.bits_Len64 (x : Int) (w : World) (h0 : 0 ≤ x) (h1 : x ≤ 18446744073709551615) :
    Calls Tryz.prog 165 #[.int .u64 x] w fun e w' => e = .returned (.int .i64 (Lib.bitLen x.toNat)) ∧ w' = w := Any.bits_Len64 Tryz.lays129 x w h0 h1
end Go.Proofs

namespace Go.Proofs.YtafmiolehlagkaaGreat.Pak
open Go.RowKit
set_option maxRecDepth 100000

theorem or1_half (n : Nat) : (n ||| 1) / 2 = n / 2 := by
  apply Nat.eq_of_testBit_eq
  intro i
  rw [← Nat.testBit_succ, Nat.testBit_or, ← Nat.testBit_succ]
  have : Nat.testBit 1 (i + 1) = false := by rw [Nat.testBit_succ]; simp
  rw [this, Bool.or_false]
theorem or1_div (n : Nat) : (n ||| 1) / 128 = n / 128 := by
  have h : ∀ x : Nat, (x ||| 1) / 2 = x / 2 := fun x => by
    exact or1_half x
  have h7 : ∀ x : Nat, x / 128 = x / 2 / 64 := fun x => by omega
  rw [h7, h, ← h7]
theorem or1_lt {n : Nat} (h : n < 18446744073709551616) : n ||| 1 < 18446744073709551616 := Nat.or_lt_two_pow (n := 64) h (by decide)
theorem or1_le (n : Nat) : n ≤ n ||| 1 := Nat.left_le_or
theorem or1_pos (n : Nat) : 1 ≤ n ||| 1 := Nat.right_le_or
theorem bitLen_or1 {m : Nat} (h1 : 1 ≤ m) (h : m < 18446744073709551616) : Lib.bitLen (m ||| 1) = Lib.bitLen m := by
  rw [Lib.bitLen_half m (by omega) h, Lib.bitLen_half (m ||| 1) (by have := or1_pos m; omega) (or1_lt h), or1_half]
theorem small_len : ∀ n : Fin 128, (Lib.bitLen (n.val ||| 1) + 6) / 7 = 1 := by decide +kernel
/-- How many bytes a number has. -/
theorem size_eq : ∀ (k n : Nat), n < 128 ^ (k + 1) → n < 18446744073709551616 → (Lib.bitLen (n ||| 1) + 6) / 7 = (Lib.uvarint n).length
  | 0, n, h, _ => by
    rw [Lib.uvarint_small (by simpa using h)]
    exact small_len ⟨n, by simpa using h⟩
  | k + 1, n, h, hn => by
    by_cases hx : n < 128
    · rw [Lib.uvarint_small hx]
      exact small_len ⟨n, hx⟩
    · rw [Lib.uvarint_big (by omega), List.length_cons, ← size_eq k (n / 128) (by rw [Nat.pow_succ] at h; exact Nat.div_lt_of_lt_mul (by rw [Nat.mul_comm]; exact h)) (by omega)]
      have h1 := Lib.bitLen_shift 7 (n ||| 1) (by have := or1_le n; omega) (or1_lt hn)
      rw [show (2 : Nat) ^ 7 = 128 from rfl, or1_div, ← bitLen_or1 (m := n / 128) (by omega) (by omega)] at h1
      rw [h1]
      omega
theorem size_any {n : Nat} (h : n < 18446744073709551616) : (Lib.bitLen (n ||| 1) + 6) / 7 = (Lib.uvarint n).length := size_eq 9 n (Nat.lt_of_lt_of_le h (by decide)) h

set_option maxHeartbeats 1000000 in
set_option maxRecDepth 100000 in
theorem numberSize_any (n : Nat) (w : World) (h : n < 18446744073709551616) :
    Calls Tryz.prog 115 #[.int .u64 n] w fun e w' => e = .returned (.int .i64 (Lib.uvarint n).length) ∧ w' = w := by
  have hor : bits .or .u64 (n : Int) 1 = ((n ||| 1 : Nat) : Int) := u64_or_nat n 1 h (by omega)
  have hlt := or1_lt h
  have HE := hide (size_any h)
  have hc := Tryz.bits_Len64 ((n ||| 1 : Nat) : Int) w (by omega) (by omega)
  rw [Int.toNat_natCast] at hc
  have hb : Lib.bitLen (n ||| 1) ≤ 64 := Lib.bitLen_le _ 64 (by omega) hlt
  generalize n ||| 1 = x at *
  generalize Lib.bitLen x = y at *
  go_enter Tryz.func115, Tryz.ntmps115
  go_wp2_with (go_at_call 165; refine hc.mono ?_; rintro e w' ⟨rfl, rfl⟩)
  go_ret
  exact ⟨ret_int (by rw [← HE.out]; omega), rfl⟩

/-! ### appendNumber -/
theorem uv_split {y : Nat} (h : 1 < (Lib.uvarint y).length) : 128 ≤ y := by
  by_cases h1 : y < 128
  · rw [Lib.uvarint_small h1] at h
    simp at h
  · omega

set_option maxHeartbeats 8000000 in
set_option maxRecDepth 100000 in
theorem appendNumber_any (B n x : Nat) (hx : x < 18446744073709551616) (sv : Value) (xs : List Value) (w : World) (hown : w.ownsRow B 5 1 sv n xs) (hBw : B ≤ w.heap.size) (hlim : n + 10 ≤ 140737488355328) :
    Calls Tryz.prog 113 #[sv, .int .u64 x] w fun e w' => ∃ v', e = .returned v' ∧ w'.ownsRow B 5 1 v' (n + (Lib.uvarint x).length) (xs ++ Lib.byteCells (Lib.uvarint x)) ∧ Below B w w' := by
  obtain ⟨i0, hi, hz0, hz1, hz2⟩ := info_parts info5
  have hlen := Lib.uvarint_length64 hx
  have hpos := Lib.uvarint_pos x
  have hc := numberSize_any x w hx
  go_enter Tryz.func113, Tryz.ntmps113
  go_wp2_with (go_at_call 115; refine hc.mono ?_; rintro e w' ⟨rfl, rfl⟩)
  clear hc
  go_loopw [0, 1, 8] (fun vb vx vi wr => ∃ (y : Nat) (pre : List UInt8), vx = .int .u64 y ∧ y ≤ x ∧ vi = .int .i64 pre.length ∧ Lib.uvarint x = pre ++ Lib.uvarint y ∧ wr.ownsRow B 5 1 vb (n + pre.length) (xs ++ Lib.byteCells pre) ∧ Below B w' wr)
    (fun _ vx _ _ => (intOf vx).toNat)
  case atStart => exact ⟨x, [], rfl, Nat.le_refl _, rfl, rfl, by simpa [Lib.byteCells] using hown, Below.refl _ _⟩
  case round =>
    obtain ⟨y, pre, rfl, hy, rfl, hsplit, hown1, hnx⟩ := hrel
    have hsum : pre.length + (Lib.uvarint y).length = (Lib.uvarint x).length := by
      have h2 := congrArg List.length hsplit
      rw [List.length_append] at h2
      omega
    have hyp := Lib.uvarint_pos y
    have hpl : pre.length ≤ 9 := by omega
    have HS := hide hsplit
    have HU := hide hsum
    clear hsplit hsum
    by_cases h128 : 128 ≤ y
    · have hlt : (pre.length : Int) < (Lib.uvarint x).length - 1 := by
        have h1 := HU.out
        have h2 := Lib.uvarint_pos (y / 128)
        rw [Lib.uvarint_big h128, List.length_cons] at h1
        omega
      have hor : bits .or .u8 ((y : Int) % 256) 128 = ((y % 128 + 128 : Nat) : Int) := by
        rw [Lib.u8_or128_any _ (by omega) (by omega)]
        omega
      go_wp2_with (at_builtin; refine wpList_append_own _ rfl _ _ 51 rfl B 5 i0 (.int .u8 0) 1 1 Tryz.underlying51 hi hz0 hz1 hz2 rfl (by decide) _ _ _ rfl (hown1.alloc _) ⟨wr.heap.size, 0, none⟩ 1 1 [Value.int .u8 ((y % 128 + 128 : Nat) : Int)] rfl rfl ?c1 ?c2 ?c3 ?c4 ?c5 ?_)
      case c1 =>
        intro j u hj
        match j, hj with
        | 0, hj => simp at hj; subst hj; simp [Addr.add]
      case c2 => intro u hu; simp at hu; subst hu; rfl
      case c3 => unfold maxLen; omega
      case c4 => omega
      case c5 => have := hnx.size; simp; omega
      intro v' w1 hown' hgrow _
      have hnx1 : Below B w' w1 := (hnx.alloc (by have := hnx.size; omega) _).grown hgrow (by have := hnx.size; simp; omega) (fun k hk => (hown1.lt k hk).1)
      go_wp2
      go_roundw
      case rel =>
        refine ⟨y / 128, pre ++ [(y % 128 + 128).toUInt8], by go_num, by omega, by simp, by rw [HS.out, Lib.uvarint_big h128]; simp, ?_, hnx1⟩
        have ec : ((y % 128 + 128 : Nat) : Int) = (y : Int) % 128 + 128 := by omega
        rw [Lib.byteCells_snoc pre (by omega), List.length_append, List.length_singleton, ← Nat.add_assoc, ec]
        simpa using hown'
      case measure => simp [intOf]; omega
    · have hlt : ¬ (pre.length : Int) < (Lib.uvarint x).length - 1 := by
        have h1 := HU.out
        rw [Lib.uvarint_small (by omega), List.length_singleton] at h1
        omega
      have hsm : Lib.uvarint y = [y.toUInt8] := Lib.uvarint_small (by omega)
      have HM := hide hsm
      clear hsm
      go_wp2_with (at_builtin; refine wpList_append_own _ rfl _ _ 51 rfl B 5 i0 (.int .u8 0) 1 1 Tryz.underlying51 hi hz0 hz1 hz2 rfl (by decide) _ _ _ rfl (hown1.alloc _) ⟨wr.heap.size, 0, none⟩ 1 1 [Value.int .u8 (y : Int)] rfl rfl ?c1 ?c2 ?c3 ?c4 ?c5 ?_)
      case c2 => first | rfl | (intro u hu; simp at hu; subst hu; rfl) | simp [Value.oneCell']
      case c3 => unfold maxLen; omega
      case c4 => omega
      case c5 => have := hnx.size; simp; omega
      intro v' w1 hown' hgrow _
      have hnx1 : Below B w' w1 := (hnx.alloc (by have := hnx.size; omega) _).grown hgrow (by have := hnx.size; simp; omega) (fun k hk => (hown1.lt k hk).1)
      go_wp2
      go_ret
      refine ⟨v', rfl, ?_, hnx1⟩
      rw [HS.out, HM.out, Lib.byteCells_snoc pre (by omega), List.length_append, List.length_singleton, ← Nat.add_assoc]
      simpa using hown'

/-! ### withRoom -/
/-- 'make([]T, n, m)': the new row written out. -/
theorem wpList_make_cap {P : Program} (w : World) {ops : Array Oper} {rest : List Oper} {o : Oper} {a : Act} {Q : Exit → Act → World → Prop}
    (hg : o.guard = none) (l c : Operand) (t : TypeId) (hop : o.op = Op.makeSlice t l c)
    (e : TypeId) (i : TypeInfo) (z : Value) (h1 : P.underlying t = some (.slice e)) (h2 : P.info? e = some i) (h3 : i.zero = some z)
    (kl kc : IntKind) (L C : Int) (n m : Nat) (hl : a.eval l = .int kl L) (hc : a.eval c = .int kc C) (hL : L = (n : Int)) (hC : C = (m : Int)) (hnm : n ≤ m) (b2 : i.bytes * m ≤ 281474976710656) (b3 : m ≤ maxLen)
    (hK : ∀ w', Hid (w'.heap[w.heap.size]? = some (.cells (madeCells z.cells (m * i.size)) e (0, 0))) → w.grownBy w' none → wpList P ops Q rest (a.put o.dst (.slice (some ⟨w.heap.size, 0, none⟩) n m)) w') :
    wpList P ops Q (o :: rest) a w := by
  refine wpList_plain hg fun K hK' => ?_
  have h63' : (m : Int) ≤ 9223372036854775807 := by
    have h := b3
    simp [maxLen] at h
    omega
  have hb' : (i.bytes : Int) * (m : Int) ≤ 281474976710656 := by
    have h : ((i.bytes * m : Nat) : Int) ≤ 281474976710656 := by omega
    rwa [Int.natCast_mul] at h
  have hrun := run_make (P := P) w t e i z h1 h2 h3 kl kc n m (by omega) (by omega) hb' h63'
  simp only [Int.toNat_natCast] at hrun
  subst hL
  subst hC
  unfold Oper.wp
  simp [execOp, hop, hl, hc, hrun, Result.andThen]
  exact hK' _ _ (hK _ (heap_alloc_new w _) (World.grownBy_alloc w _ none))

theorem splice_room (l : List UInt8) (s : Nat) : splice (Lib.byteCells (List.replicate (l.length + s) 0)) 0 (Lib.byteCells l) = Lib.byteCells (l ++ List.replicate s 0) := by
  unfold splice
  rw [Lib.byteCells_append]
  simp [Lib.byteCells]
theorem made_array (n : Nat) : madeCells #[Value.int IntKind.u8 0] n = (Lib.byteCells (List.replicate n 0)).toArray := by
  rw [← made_bytes]
/-- A row with spare room, owned. -/
theorem Row.owns {w : World} {B g n : Nat} {l : List UInt8} (h : Row w g l) (hB : B ≤ g) (hn : n ≤ l.length) (hm : l.length ≤ maxLen) : w.ownsRow B 5 1 (.slice (some ⟨g, 0, none⟩) n l.length) n (Lib.byteCells (l.take n)) := by
  refine ⟨by simp [Lib.byteCells]; omega, .inr ⟨g, l.length, _, rfl, hB, h, hn, hm, by simp [Lib.byteCells], by simp [Lib.byteCells, List.map_take]⟩⟩

set_option maxHeartbeats 1000000 in
set_option maxRecDepth 100000 in
theorem withRoom_any (v : Value) (l : List UInt8) (s : Nat) (w : World) (h : Bs w v l) (hl : l.length + s ≤ 281474976710656) :
    Calls Tryz.prog 114 #[v, .int .i64 s] w fun e w' => e = .returned (.slice (some ⟨w.heap.size, 0, none⟩) l.length (l.length + s)) ∧ Row w' w.heap.size (l ++ List.replicate s 0) ∧ Below w.heap.size w w' := by
  obtain ⟨i0, hi, hz0, hz1, hz2⟩ := info_parts info5
  obtain ⟨ao, c, rfl, h1, h2, h3⟩ := h
  have H3 := hide h3
  clear h3
  unfold maxLen at h2
  go_enter Tryz.func114, Tryz.ntmps114
  go_wp2_with (at_make; refine wpList_make_cap _ rfl _ _ 51 rfl 5 i0 (.int .u8 0) Tryz.underlying51 hi hz0 .i64 .i64 _ _ l.length (l.length + s) rfl rfl ?c1 ?c2 ?c3 ?c4 ?c5 ?_)
  case c1 => omega
  case c2 => omega
  case c3 => omega
  case c4 => rw [hz2]; omega
  case c5 => unfold maxLen; omega
  intro w1 hr1 hgrow
  rw [made_array] at hr1
  have hb1 : Below w.heap.size w w1 := (Below.refl _ _).grown hgrow (Nat.le_refl _) (by intro k hk; cases hk)
  have hsrc := Bs.src H3.out hb1 l.length (Nat.le_refl _)
  rw [List.take_length] at hsrc
  have HS := hide hsrc
  clear hsrc
  go_wp2_with (refine wpList_copy_splice rfl _ _ 51 51 rfl 5 Tryz.underlying51 size5 _ _ _ _ _ _ rfl rfl w.heap.size 0 (Lib.byteCells (List.replicate (l.length + s) 0)) 5 hr1.out (Lib.byteCells l) ?d1 ?d2 ?d3 (byteCells_one l) w.heap.size w hb1 (Nat.le_refl _) ?_)
  case d1 => rw [Lib.byteCells_length]; simp
  case d2 => intro h0; rw [Lib.byteCells_length] at h0; first | exact ⟨rfl, HS.out h0⟩ | exact HS.out h0
  case d3 => simp [Lib.byteCells_length]
  intro w2 hr2 hb2
  rw [splice_room] at hr2
  clear hr1 hb1 HS H3
  go_wp2
  go_ret
  exact ⟨rfl, hr2.out, hb2⟩

/-! ### fold -/
theorem fold_eq {n : Int} (h0 : -9223372036854775808 ≤ n) (h1 : n ≤ 9223372036854775807) :
    bits .xor .u64 (IntKind.u64.wrap (IntKind.u64.wrap n * 2)) (IntKind.u64.wrap (n / 9223372036854775808)) = ((Lib.zigzag n : Nat) : Int) := by
  by_cases h : 0 ≤ n
  · rw [show n / 9223372036854775808 = 0 by omega, show IntKind.u64.wrap 0 = ((0 : Nat) : Int) by decide]
    have e : IntKind.u64.wrap (IntKind.u64.wrap n * 2) = ((Lib.zigzag n : Nat) : Int) := by
      rw [Lib.zigzag_nonneg h, IntKind.wrap_u64, IntKind.wrap_u64]
      omega
    rw [e, u64_xor_nat _ _ (Lib.zigzag_lt h0 h1) (by omega), Nat.xor_zero]
  · rw [show n / 9223372036854775808 = -1 by omega, ← Lib.zigzag_neg h0 (by omega), show IntKind.u64.wrap (-1) = IntKind.u64.max by decide]
    have e : IntKind.u64.wrap (IntKind.u64.wrap n * 2) = (((2 * n + 18446744073709551616).toNat : Nat) : Int) := by
      rw [IntKind.wrap_u64, IntKind.wrap_u64]
      omega
    have e2 : IntKind.u64.max = ((18446744073709551615 : Nat) : Int) := by decide
    rw [e, e2, u64_xor_nat _ _ (by omega) (by omega), u64_xor_nat _ _ (by omega) (by omega), Nat.xor_comm]
set_option maxHeartbeats 1000000 in
set_option maxRecDepth 100000 in
theorem fold_any (n : Int) (w : World) (h0 : -9223372036854775808 ≤ n) (h1 : n ≤ 9223372036854775807) :
    Calls Tryz.prog 117 #[.int .i64 n] w fun e w' => e = .returned (.int .u64 (Lib.zigzag n)) ∧ w' = w := by
  go_enter Tryz.func117, Tryz.ntmps117
  go_wp2
  go_ret
  exact ⟨ret_int (fold_eq h0 h1), rfl⟩

/-! ### Put -/
set_option maxHeartbeats 1000000 in
set_option maxRecDepth 100000 in
theorem put_any (v : Value) (l : List UInt8) (n : Nat) (w : World) (h : Bs w v l) (hn : n < 18446744073709551616) (hl : l.length + 20 ≤ 140737488355328) :
    Calls Tryz.prog 111 #[v, .int .u64 n] w fun e w' => ∃ v', e = .returned v' ∧ w'.ownsRow w.heap.size 5 1 v' (l.length + (Lib.uvarint n).length) (Lib.byteCells (l ++ Lib.uvarint n)) ∧ Below w.heap.size w w' := by
  have hlen := Lib.uvarint_length64 hn
  have hc := numberSize_any n w hn
  have hr := withRoom_any v l (Lib.uvarint n).length w h (by omega)
  go_enter Tryz.func111, Tryz.ntmps111
  go_wp2_with (first | (go_at_call 115; refine hc.mono ?_; rintro e w' ⟨rfl, rfl⟩) | (go_at_call 114; refine hr.mono ?_; rintro e w1 ⟨rfl, hrow, hb1⟩))
  have hown := hrow.owns (B := w'.heap.size) (n := l.length) (Nat.le_refl _) (by simp) (by simp [maxLen]; omega)
  rw [List.take_left, List.length_append, List.length_replicate] at hown
  refine (appendNumber_any w'.heap.size l.length n hn _ _ w1 hown hb1.size (by omega)).mono ?_
  rintro e w2 ⟨v2, rfl, hown2, hb2⟩
  rw [← Lib.byteCells_append] at hown2
  clear hown hrow hc hr
  go_wp2
  go_ret
  exact ⟨v2, rfl, hown2, hb1.trans hb2⟩

set_option maxHeartbeats 1000000 in
set_option maxRecDepth 100000 in
theorem putInt_any (v : Value) (l : List UInt8) (n : Int) (w : World) (h : Bs w v l) (h0 : -9223372036854775808 ≤ n) (h1 : n ≤ 9223372036854775807) (hl : l.length + 20 ≤ 140737488355328) :
    Calls Tryz.prog 119 #[v, .int .i64 n] w fun e w' => ∃ v', e = .returned v' ∧ w'.ownsRow w.heap.size 5 1 v' (l.length + (Lib.uvarint (Lib.zigzag n)).length) (Lib.byteCells (l ++ Lib.uvarint (Lib.zigzag n))) ∧ Below w.heap.size w w' := by
  have hc := fold_any n w h0 h1
  have hp := put_any v l (Lib.zigzag n) w h (Lib.zigzag_lt h0 h1) hl
  have H := hide hp
  clear hp
  go_enter Tryz.func119, Tryz.ntmps119
  go_wp2_with (first | (go_at_call 117; refine hc.mono ?_; rintro e w' ⟨rfl, rfl⟩) | (go_at_call 111; refine H.out.mono ?_; rintro e w1 ⟨v2, rfl, hown, hb1⟩))
  go_ret
  exact ⟨v2, rfl, hown, hb1⟩

end Go.Proofs.YtafmiolehlagkaaGreat.Pak

/-
  A4, AS PLAIN MATHEMATICS: the three forms of a row of numbers, and the one that is taken. No program in this text.
-/
namespace Go.Proofs.YtafmiolehlagkaaGreat.Pak.Rw
open Go.RowKit
set_option maxRecDepth 100000

def ivar (z : Int) : List UInt8 := Lib.uvarint (Lib.zigzag z)
/-- What the forms 0 and 1 write for the number at place i. -/
def entry (l : List Int) (i form : Nat) : Int := if form = 1 ∧ 0 < i then wrap64 (l.getD i 0 - l.getD (i - 1) 0) else l.getD i 0
def bodyTo (l : List Int) (form : Nat) : Nat → List UInt8
  | 0 => []
  | k + 1 => bodyTo l form k ++ ivar (entry l k form)
/-- Is the number at place i the last of its run? -/
def ends (l : List Int) (i : Nat) : Bool := i + 1 == l.length || l.getD i 0 != l.getD (i + 1) 0
structure RunsAt where
  bytes : List UInt8
  count : Nat
  len : Nat
def runsTo (l : List Int) : Nat → RunsAt
  | 0 => ⟨[], 0, 0⟩
  | k + 1 => if ends l k then ⟨(runsTo l k).bytes ++ (Lib.uvarint ((runsTo l k).len + 1) ++ ivar (l.getD k 0)), (runsTo l k).count + 1, 0⟩ else ⟨(runsTo l k).bytes, (runsTo l k).count, (runsTo l k).len + 1⟩
def runsB (l : List Int) : List UInt8 := Lib.uvarint (runsTo l l.length).count ++ (runsTo l l.length).bytes
def formB (l : List Int) (form : Nat) : List UInt8 := if form = 2 then runsB l else bodyTo l form l.length
def best (l : List Int) : Nat :=
  if (formB l 1).length < (formB l 0).length then (if (formB l 2).length < (formB l 1).length then 2 else 1)
  else (if (formB l 2).length < (formB l 0).length then 2 else 0)
/-- The row, as PutRow writes it. -/
def rowB (l : List Int) : List UInt8 := if l.length = 0 then [0] else Lib.uvarint l.length ++ (UInt8.ofNat (best l) :: formB l (best l))

/-- It fits an int64. -/
def Fits (z : Int) : Prop := -9223372036854775808 ≤ z ∧ z ≤ 9223372036854775807
theorem wrap64_fits (n : Int) : Fits (wrap64 n) := by unfold Fits wrap64; omega
def AllFit (l : List Int) : Prop := ∀ z ∈ l, Fits z
theorem getD_fits {l : List Int} (h : AllFit l) (i : Nat) : Fits (l.getD i 0) := by
  by_cases hi : i < l.length
  · rw [List.getD_eq_getElem?_getD, List.getElem?_eq_getElem hi]; exact h _ (List.getElem_mem hi)
  · rw [List.getD_eq_getElem?_getD, List.getElem?_eq_none (by omega)]; unfold Fits; simp
theorem entry_fits {l : List Int} (h : AllFit l) (i form : Nat) : Fits (entry l i form) := by
  unfold entry
  split
  · exact wrap64_fits _
  · exact getD_fits h i
theorem ivar_length {z : Int} (h : Fits z) : (ivar z).length ≤ 10 := Lib.uvarint_length64 (Lib.zigzag_lt h.1 h.2)
theorem bodyTo_length {l : List Int} (h : AllFit l) (form : Nat) : ∀ k, (bodyTo l form k).length ≤ 10 * k
  | 0 => by simp [bodyTo]
  | k + 1 => by
    have h1 := bodyTo_length h form k
    have h2 := ivar_length (entry_fits h k form)
    simp only [bodyTo, List.length_append]
    omega
theorem runsTo_count (l : List Int) : ∀ k, (runsTo l k).count ≤ k ∧ (runsTo l k).len ≤ k
  | 0 => by simp [runsTo]
  | k + 1 => by
    have h := runsTo_count l k
    unfold runsTo
    split <;> simp <;> omega
theorem runsTo_length {l : List Int} (h : AllFit l) : ∀ k, k < 18446744073709551616 → (runsTo l k).bytes.length ≤ 20 * k
  | 0, _ => by simp [runsTo]
  | k + 1, hk => by
    have h1 := runsTo_length h k (by omega)
    have h2 := ivar_length (getD_fits h k)
    have h3 := Lib.uvarint_length64 (x := (runsTo l k).len + 1) (by have := (runsTo_count l k).2; omega)
    unfold runsTo
    split
    · simp only [List.length_append]; omega
    · simp only; omega
theorem formB_length {l : List Int} (h : AllFit l) (hl : l.length ≤ 1048576) (form : Nat) : (formB l form).length ≤ 20 * l.length + 10 := by
  unfold formB runsB
  split
  · have h1 := runsTo_length h l.length (by omega)
    have h2 := Lib.uvarint_length64 (x := (runsTo l l.length).count) (by have := (runsTo_count l l.length).1; omega)
    simp only [List.length_append]
    omega
  · have := bodyTo_length h form l.length
    omega
theorem best_le (l : List Int) : best l ≤ 2 := by unfold best; split <;> split <;> omega

end Go.Proofs.YtafmiolehlagkaaGreat.Pak.Rw

namespace Go.Proofs.YtafmiolehlagkaaGreat.Pak
open Go.RowKit
set_option maxRecDepth 100000

/-- A slice of int64 that reads as zs. -/
def Ns (w : World) (v : Value) (zs : List Int) : Prop :=
  ∃ ao c, v = .slice ao zs.length c ∧ zs.length ≤ c ∧ c ≤ maxLen ∧ ∀ j, j < zs.length → ∃ g o, ao = some ⟨g, o, none⟩ ∧ w.cell? ⟨g, o + j, none⟩ = some (.int .i64 (zs.getD j 0))
theorem Ns.row {w : World} {g o c : Nat} {zs : List Int} (h1 : zs.length ≤ c) (h2 : c ≤ maxLen) (h3 : ∀ j, j < zs.length → w.cell? ⟨g, o + j, none⟩ = some (.int .i64 (zs.getD j 0))) : Ns w (.slice (some ⟨g, o, none⟩) zs.length c) zs :=
  ⟨some ⟨g, o, none⟩, c, rfl, h1, h2, fun j hj => ⟨g, o, rfl, h3 j hj⟩⟩
theorem Ns.parts {w : World} {v : Value} {zs : List Int} (h : Ns w v zs) :
    (∃ ao c, v = .slice ao 0 c ∧ zs = []) ∨ ∃ g o c, v = .slice (some ⟨g, o, none⟩) zs.length c ∧ 0 < zs.length ∧ zs.length ≤ c ∧ c ≤ maxLen ∧ ∀ j, j < zs.length → w.cell? ⟨g, o + j, none⟩ = some (.int .i64 (zs.getD j 0)) := by
  obtain ⟨ao, c, rfl, h1, h2, h3⟩ := h
  by_cases h0 : 0 < zs.length
  · obtain ⟨g, o, rfl, _⟩ := h3 0 h0
    refine .inr ⟨g, o, c, rfl, h0, h1, h2, fun j hj => ?_⟩
    obtain ⟨g', o', e, hc⟩ := h3 j hj
    simp at e
    obtain ⟨rfl, rfl⟩ := e
    exact hc
  · obtain rfl : zs = [] := List.eq_nil_of_length_eq_zero (by omega)
    exact .inl ⟨ao, c, rfl, rfl⟩
theorem Ns.below {B : Nat} {w w' : World} {v : Value} {zs : List Int} (h : Ns w v zs) (hb : Below B w w') (hB : w.heap.size ≤ B) : Ns w' v zs := by
  obtain ⟨ao, c, rfl, h1, h2, h3⟩ := h
  refine ⟨ao, c, rfl, h1, h2, fun j hj => ?_⟩
  obtain ⟨g, o, e, hc⟩ := h3 j hj
  have hlt := World.block_lt_of_cell? w _ hc
  exact ⟨g, o, e, (hb.cell (p := ⟨g, o + j, none⟩) (by exact Nat.lt_of_lt_of_le hlt hB)).trans hc⟩
/-- The cells that a walk over a row reads. -/
abbrev Cells (w : World) (g o : Nat) (zs : List Int) : Prop := ∀ j, j < zs.length → w.cell? ⟨g, o + j, none⟩ = some (.int .i64 (zs.getD j 0))

set_option maxHeartbeats 1000000 in
set_option maxRecDepth 100000 in
theorem entry_any (g o c i form : Nat) (zs : List Int) (w : World) (hi : i < zs.length) (hl : zs.length ≤ 9223372036854775807) (hf : form ≤ 1) (hc : Cells w g o zs) :
    Calls Tryz.prog 118 #[.slice (some ⟨g, o, none⟩) zs.length c, .int .i64 i, .int .i64 form] w fun e w' => e = .returned (.int .i64 (Rw.entry zs i form)) ∧ ∃ n, w' = w.drewN n := by
  have h1 := hc i hi
  have e1 : (i : Int) < (zs.length : Int) := by omega
  by_cases hs : form = 1 ∧ 0 < i
  · obtain ⟨rfl, hpos⟩ := hs
    have E : Hid (Rw.entry zs i 1 = wrap64 (zs.getD i 0 - zs.getD (i - 1) 0)) := by unfold Rw.entry; rw [if_pos ⟨rfl, hpos⟩]; rfl
    have h2 := hc (i - 1) (by omega)
    generalize zs.getD i 0 = x at *
    generalize zs.getD (i - 1) 0 = y at *
    obtain ⟨k, rfl⟩ : ∃ k, i = k + 1 := ⟨i - 1, by omega⟩
    simp only [Nat.add_sub_cancel] at h2
    clear hc
    go_enter Tryz.func118, Tryz.ntmps118
    go_wp2
    go_quiet (fail)
    go_wp2
    go_ret
    rw [E.out]
    exact ⟨rfl, nq, rfl⟩
  · have E : Hid (Rw.entry zs i form = zs.getD i 0) := by unfold Rw.entry; rw [if_neg hs]; rfl
    generalize zs.getD i 0 = x at *
    clear hc
    rcases (show form = 0 ∨ (form = 1 ∧ i = 0) by omega) with rfl | ⟨rfl, rfl⟩
    · go_enter Tryz.func118, Tryz.ntmps118
      go_wp2
      go_ret
      rw [E.out]
      exact ⟨rfl, 0, rfl⟩
    · have h1' : w.cell? ⟨g, o, none⟩ = some (.int .i64 x) := h1
      go_enter Tryz.func118, Tryz.ntmps118
      go_wp2
      go_ret
      rw [E.out]
      exact ⟨rfl, 0, rfl⟩

set_option maxHeartbeats 1000000 in
set_option maxRecDepth 100000 in
theorem endsRun_any (g o c i : Nat) (zs : List Int) (w : World) (hi : i < zs.length) (hl : zs.length ≤ 9223372036854775807) (hc : Cells w g o zs) :
    Calls Tryz.prog 166 #[.slice (some ⟨g, o, none⟩) zs.length c, .int .i64 i] w fun e w' => e = .returned (.bool (Rw.ends zs i)) ∧ ∃ n, w' = w.drewN n := by
  have h1 := hc i hi
  have e1 : (i : Int) < (zs.length : Int) := by omega
  by_cases hs : i + 1 = zs.length
  · have E := hide (show Rw.ends zs i = true by unfold Rw.ends; simp [hs])
    have hz : ((i : Int) == (zs.length : Int) - 1) = true := by rw [beq_iff_eq]; omega
    clear hc hs
    go_enter Tryz.func166, Tryz.ntmps166
    go_wp2
    go_quiet (fail)
    go_wp2
    go_ret
    rw [E.out]
    exact ⟨rfl, nq, rfl⟩
  · have E := hide (show Rw.ends zs i = (zs.getD i 0 != zs.getD (i + 1) 0) by unfold Rw.ends; rw [show (i + 1 == zs.length) = false by simp [hs], Bool.false_or])
    have hz : ((i : Int) == (zs.length : Int) - 1) = false := by rw [beq_eq_false_iff_ne]; omega
    have h2 := hc (i + 1) (by omega)
    have e2 : (i : Int) + 1 < (zs.length : Int) := by omega
    generalize zs.getD i 0 = x at *
    generalize zs.getD (i + 1) 0 = y at *
    clear hc hs
    go_enter Tryz.func166, Tryz.ntmps166
    go_wp2
    go_quiet (fail)
    go_wp2
    go_ret
    rw [E.out]
    exact ⟨rfl, nq, rfl⟩

theorem drew_trans {a b c : World} (h : ∃ d, b = a.drewN d) (h' : ∃ d, c = b.drewN d) : ∃ d, c = a.drewN d := by
  obtain ⟨d, rfl⟩ := h
  obtain ⟨e, rfl⟩ := h'
  exact ⟨d + e, by rw [World.drewN_drewN]⟩
theorem cells_drew {w w' : World} {g o : Nat} {zs : List Int} (h : Cells w g o zs) (hd : ∃ d, w' = w.drewN d) : Cells w' g o zs := by
  obtain ⟨d, rfl⟩ := hd
  exact h
theorem runs_yes {zs : List Int} {k : Nat} (h : Rw.ends zs k = true) : Rw.runsTo zs (k + 1) = ⟨(Rw.runsTo zs k).bytes ++ (Lib.uvarint ((Rw.runsTo zs k).len + 1) ++ Rw.ivar (zs.getD k 0)), (Rw.runsTo zs k).count + 1, 0⟩ := by
  rw [Rw.runsTo, if_pos h]
theorem runs_no {zs : List Int} {k : Nat} (h : Rw.ends zs k = false) : Rw.runsTo zs (k + 1) = ⟨(Rw.runsTo zs k).bytes, (Rw.runsTo zs k).count, (Rw.runsTo zs k).len + 1⟩ := by
  rw [Rw.runsTo, if_neg (by simp [h])]

set_option maxHeartbeats 2000000 in
set_option maxRecDepth 100000 in
theorem runsSize_any (g o c : Nat) (zs : List Int) (w : World) (hz : Rw.AllFit zs) (hl : zs.length ≤ 1048576) (hc : Cells w g o zs) :
    Calls Tryz.prog 195 #[.slice (some ⟨g, o, none⟩) zs.length c] w fun e w' => e = .returned (.int .i64 (Rw.runsB zs).length) ∧ ∃ n, w' = w.drewN n := by
  have HZ := hide hz
  have HC := hide hc
  clear hz hc
  go_enter Tryz.func195, Tryz.ntmps195
  go_wp2
  go_loopw [3, 4, 5, 9] (fun s q n i wr => ∃ k : Nat, k ≤ zs.length ∧ i = .int .i64 k ∧ s = .int .i64 (Rw.runsTo zs k).bytes.length ∧ q = .int .u64 (Rw.runsTo zs k).count ∧ n = .int .u64 (Rw.runsTo zs k).len ∧ ∃ d, wr = w.drewN d) (fun _ _ _ i _ => zs.length - (intOf i).toNat)
  case atStart => exact ⟨0, Nat.zero_le _, rfl, rfl, rfl, rfl, 0, rfl⟩
  case round =>
    obtain ⟨k, hk, rfl, rfl, rfl, rfl, hw⟩ := hrel
    have HW := hide hw
    clear hw
    have b1 := Rw.runsTo_length HZ.out k (by omega)
    have b2 := (Rw.runsTo_count zs k).1
    have b3 := (Rw.runsTo_count zs k).2
    by_cases hlt : k < zs.length
    · have hce := endsRun_any g o c k zs wr hlt (by omega) (cells_drew HC.out HW.out)
      have e1 : (k : Int) < (zs.length : Int) := by omega
      have hfit := Rw.getD_fits HZ.out k
      cases he : Rw.ends zs k with
      | false =>
        have E := hide (runs_no he)
        rw [he] at hce
        clear he
        generalize Rw.runsTo zs k = R at *
        go_wp2_with (go_at_call 166; refine hce.mono ?_; rintro e w1 ⟨rfl, hd⟩)
        exact ⟨⟨k + 1, by omega, by go_num, by rw [E.out], by rw [E.out], by rw [E.out]; go_num, drew_trans HW.out hd⟩, by simp [intOf]; omega⟩
      | true =>
        have E := hide (runs_yes he)
        rw [he] at hce
        clear he
        generalize Rw.runsTo zs k = R at *
        have hn1 : ∀ w, Calls Tryz.prog 115 #[.int .u64 ((R.len : Int) + 1)] w fun e w' => e = .returned (.int .i64 (Lib.uvarint (R.len + 1)).length) ∧ w' = w := fun w => numberSize_any (R.len + 1) w (by omega)
        have hf := fun w => fold_any (zs.getD k 0) w hfit.1 hfit.2
        have hn2 := fun w => numberSize_any (Lib.zigzag (zs.getD k 0)) w (Lib.zigzag_lt hfit.1 hfit.2)
        have b4 := Lib.uvarint_length64 (x := R.len + 1) (by omega)
        have b5 := Lib.uvarint_length64 (Lib.zigzag_lt hfit.1 hfit.2)
        go_wp2_with (go_at_call 166; refine hce.mono ?_; rintro e w1 ⟨rfl, hd⟩; have HD := hide hd; clear hd)
        have hk1 := cells_drew HC.out (drew_trans HW.out HD.out) k hlt
        generalize zs.getD k 0 = x at *
        go_quiet ((first | exact Calls.quiet_of_same (hn1 _) | exact Calls.quiet_of_same (hf _) | exact Calls.quiet_of_same (hn2 _)))
        go_wp2
        refine ⟨⟨k + 1, by omega, by go_num, ?_, by rw [E.out]; go_num, by rw [E.out]; rfl, drew_trans HW.out (drew_trans HD.out ⟨nq, rfl⟩)⟩, by simp [intOf]; omega⟩
        rw [E.out]
        refine val_int ?_
        simp only [List.length_append, Rw.ivar]
        omega
    · have hq := fun w => numberSize_any (Rw.runsTo zs k).count w (by omega)
      have b4 := Lib.uvarint_length64 (x := (Rw.runsTo zs k).count) (by omega)
      obtain rfl : k = zs.length := by omega
      have E := hide (show (Rw.runsB zs).length = (Lib.uvarint (Rw.runsTo zs zs.length).count).length + (Rw.runsTo zs zs.length).bytes.length by simp [Rw.runsB])
      generalize Rw.runsTo zs zs.length = R at *
      go_wp2_with (go_at_call 115; refine (hq _).mono ?_; rintro e w' ⟨rfl, rfl⟩)
      go_ret
      rw [E.out]
      exact ⟨ret_int (by omega), HW.out⟩

set_option maxHeartbeats 2000000 in
set_option maxRecDepth 100000 in
theorem formSize_any (g o c form : Nat) (zs : List Int) (w : World) (hform : form ≤ 2) (hz : Rw.AllFit zs) (hl : zs.length ≤ 1048576) (hc : Cells w g o zs) :
    Calls Tryz.prog 164 #[.slice (some ⟨g, o, none⟩) zs.length c, .int .i64 form] w fun e w' => e = .returned (.int .i64 (Rw.formB zs form).length) ∧ ∃ n, w' = w.drewN n := by
  by_cases h2 : form = 2
  · subst h2
    have hr := runsSize_any g o c zs w hz hl hc
    have E := hide (show Rw.formB zs 2 = Rw.runsB zs from rfl)
    clear hz hc
    go_enter Tryz.func164, Tryz.ntmps164
    go_wp2_with (go_at_call 195; refine hr.mono ?_; rintro e w1 ⟨rfl, hd⟩)
    go_ret
    rw [E.out]
    exact ⟨rfl, hd⟩
  · have E := hide (show Rw.formB zs form = Rw.bodyTo zs form zs.length by unfold Rw.formB; rw [if_neg h2])
    have hf2 : ((form : Int) == 2) = false := by rw [beq_eq_false_iff_ne]; omega
    have HZ := hide hz
    have HC := hide hc
    clear hz hc
    go_enter Tryz.func164, Tryz.ntmps164
    go_wp2
    go_loopw [5, 13] (fun s i wr => ∃ k : Nat, k ≤ zs.length ∧ i = .int .i64 k ∧ s = .int .i64 (Rw.bodyTo zs form k).length ∧ ∃ d, wr = w.drewN d) (fun _ i _ => zs.length - (intOf i).toNat)
    case atStart => exact ⟨0, Nat.zero_le _, rfl, rfl, 0, rfl⟩
    case round =>
      obtain ⟨k, hk, rfl, rfl, hw⟩ := hrel
      have HW := hide hw
      clear hw
      have b1 := Rw.bodyTo_length HZ.out form k
      by_cases hlt : k < zs.length
      · have hce := entry_any g o c k form zs wr hlt (by omega) (by omega) (cells_drew HC.out HW.out)
        have hfit := Rw.entry_fits HZ.out k form
        have F := hide (show (Rw.bodyTo zs form (k + 1)).length = (Rw.bodyTo zs form k).length + (Lib.uvarint (Lib.zigzag (Rw.entry zs k form))).length by simp [Rw.bodyTo, Rw.ivar])
        generalize Rw.entry zs k form = x at *
        generalize (Rw.bodyTo zs form k).length = m at *
        have hf := fun w => fold_any x w hfit.1 hfit.2
        have hn2 := fun w => numberSize_any (Lib.zigzag x) w (Lib.zigzag_lt hfit.1 hfit.2)
        have b5 := Lib.uvarint_length64 (Lib.zigzag_lt hfit.1 hfit.2)
        go_wp2_with (first | (go_at_call 118; refine hce.mono ?_; rintro e w1 ⟨rfl, hd⟩) | (go_at_call 117; refine (hf _).mono ?_; rintro e w2 ⟨rfl, rfl⟩) | (go_at_call 115; refine (hn2 _).mono ?_; rintro e w3 ⟨rfl, rfl⟩))
        exact ⟨⟨k + 1, by omega, by go_num, val_int (by rw [F.out]; omega), drew_trans HW.out hd⟩, by simp [intOf]; omega⟩
      · go_wp2
        go_ret
        obtain rfl : k = zs.length := by omega
        rw [E.out]
        exact ⟨rfl, HW.out⟩

set_option maxHeartbeats 2000000 in
set_option maxRecDepth 100000 in
theorem shortest_any (g o c : Nat) (zs : List Int) (w : World) (hz : Rw.AllFit zs) (hl : zs.length ≤ 1048576) (hc : Cells w g o zs) :
    Calls Tryz.prog 112 #[.slice (some ⟨g, o, none⟩) zs.length c] w fun e w' => e = .returned (.tuple #[.int .i64 (Rw.best zs), .int .i64 (Rw.formB zs (Rw.best zs)).length]) ∧ ∃ n, w' = w.drewN n := by
  have f0 := fun wr (hd : ∃ d, wr = w.drewN d) => formSize_any g o c 0 zs wr (by omega) hz hl (cells_drew hc hd)
  have f1 := fun wr (hd : ∃ d, wr = w.drewN d) => formSize_any g o c 1 zs wr (by omega) hz hl (cells_drew hc hd)
  have f2 := fun wr (hd : ∃ d, wr = w.drewN d) => formSize_any g o c 2 zs wr (by omega) hz hl (cells_drew hc hd)
  have E : Hid (∀ s0 s1 s2, (Rw.formB zs 0).length = s0 → (Rw.formB zs 1).length = s1 → (Rw.formB zs 2).length = s2 → (s1 < s0 → s2 < s1 → Rw.best zs = 2) ∧ (s1 < s0 → ¬ s2 < s1 → Rw.best zs = 1) ∧ (¬ s1 < s0 → s2 < s0 → Rw.best zs = 2) ∧ (¬ s1 < s0 → ¬ s2 < s0 → Rw.best zs = 0)) := by
    intro s0 s1 s2 h0 h1 h2
    subst h0 h1 h2
    unfold Rw.best
    refine ⟨fun a b => ?_, fun a b => ?_, fun a b => ?_, fun a b => ?_⟩ <;> simp [a, b]
  have b0 := Rw.formB_length hz hl 0
  have b1 := Rw.formB_length hz hl 1
  have b2 := Rw.formB_length hz hl 2
  have E0 := E.out (Rw.formB zs 0).length (Rw.formB zs 1).length (Rw.formB zs 2).length rfl rfl rfl
  have H0 : ∃ s0 : Nat, Hid ((Rw.formB zs 0).length = s0) := ⟨_, rfl⟩
  have H1 : ∃ s0 : Nat, Hid ((Rw.formB zs 1).length = s0) := ⟨_, rfl⟩
  have H2 : ∃ s0 : Nat, Hid ((Rw.formB zs 2).length = s0) := ⟨_, rfl⟩
  obtain ⟨s0, H0⟩ := H0
  obtain ⟨s1, H1⟩ := H1
  obtain ⟨s2, H2⟩ := H2
  rw [H0.out] at f0 b0 E0
  rw [H1.out] at f1 b1 E0
  rw [H2.out] at f2 b2 E0
  have F0 := hide f0
  have F1 := hide f1
  have F2 := hide f2
  have EE := hide E0
  clear f0 f1 f2 hz hc E E0
  by_cases c1 : s1 < s0
  · by_cases c2 : s2 < s1
    all_goals
      have c1' : (s1 : Int) < s0 := by omega
      go_enter Tryz.func112, Tryz.ntmps112
      go_wp2
      refine wp_loop_rounds 4 ?_
      rw [rounds_succ]
      go_wp2_with fail
      refine (F0.out w ⟨0, rfl⟩).mono ?_
      rintro e w1 ⟨rfl, hd⟩
      have HD := hide hd
      clear hd
      go_wp2_with fail
      rw [rounds_succ]
      go_wp2_with fail
      refine (F1.out w1 HD.out).mono ?_
      rintro e w2 ⟨rfl, hd⟩
      have HD2 := hide (drew_trans HD.out hd)
      clear hd
      go_wp2_with fail
      rw [rounds_succ]
      go_wp2_with fail
      refine (F2.out w2 HD2.out).mono ?_
      rintro e w3 ⟨rfl, hd⟩
      have HD3 := hide (drew_trans HD2.out hd)
      clear hd
      go_wp2_with fail
      rw [rounds_succ]
      go_wp2_with fail
      go_ret2
    · rw [EE.out.1 c1 c2, H2.out]
      exact ⟨rfl, HD3.out⟩
    · rw [EE.out.2.1 c1 c2, H1.out]
      exact ⟨rfl, HD3.out⟩
  · by_cases c2 : s2 < s0
    all_goals
      have c1' : ¬ (s1 : Int) < s0 := by omega
      go_enter Tryz.func112, Tryz.ntmps112
      go_wp2
      refine wp_loop_rounds 4 ?_
      rw [rounds_succ]
      go_wp2_with fail
      refine (F0.out w ⟨0, rfl⟩).mono ?_
      rintro e w1 ⟨rfl, hd⟩
      have HD := hide hd
      clear hd
      go_wp2_with fail
      rw [rounds_succ]
      go_wp2_with fail
      refine (F1.out w1 HD.out).mono ?_
      rintro e w2 ⟨rfl, hd⟩
      have HD2 := hide (drew_trans HD.out hd)
      clear hd
      go_wp2_with fail
      rw [rounds_succ]
      go_wp2_with fail
      refine (F2.out w2 HD2.out).mono ?_
      rintro e w3 ⟨rfl, hd⟩
      have HD3 := hide (drew_trans HD2.out hd)
      clear hd
      go_wp2_with fail
      rw [rounds_succ]
      go_wp2_with fail
      go_ret2
    · rw [EE.out.2.2.1 c1 c2, H2.out]
      exact ⟨rfl, HD3.out⟩
    · rw [EE.out.2.2.2 c1 c2, H0.out]
      exact ⟨rfl, HD3.out⟩
end Go.Proofs.YtafmiolehlagkaaGreat.Pak

namespace Go.Proofs.YtafmiolehlagkaaGreat.Pak
open Go.RowKit
set_option maxRecDepth 100000

theorem cells_below {B : Nat} {w w' : World} {g o : Nat} {zs : List Int} (h : Cells w g o zs) (hb : Below B w w') (hg : g < B) : Cells w' g o zs :=
  fun j hj => (hb.cell (p := ⟨g, o + j, none⟩) hg).trans (h j hj)
theorem below_drew {B : Nat} {w w' : World} (h : ∃ d, w' = w.drewN d) : Below B w w' := by
  obtain ⟨d, rfl⟩ := h
  exact ⟨rfl, rfl, rfl, Nat.le_refl _, fun _ _ => rfl⟩
theorem owns_drew {B e n size : Nat} {v : Value} {xs : List Value} {w w' : World} (h : w.ownsRow B e size v n xs) (hd : ∃ d, w' = w.drewN d) : w'.ownsRow B e size v n xs := by
  obtain ⟨d, rfl⟩ := hd
  exact h

theorem runs_owned {w : World} {B n : Nat} {v : Value} {xs : List Value} {U R : List UInt8} {m x : Nat}
    (h : w.ownsRow B 5 1 v (n + U.length + R.length + (Lib.uvarint m).length + (Lib.uvarint x).length) (xs ++ Lib.byteCells (U ++ R) ++ Lib.byteCells (Lib.uvarint m) ++ Lib.byteCells (Lib.uvarint x))) :
    w.ownsRow B 5 1 v (n + U.length + (R ++ (Lib.uvarint m ++ Lib.uvarint x)).length) (xs ++ Lib.byteCells (U ++ (R ++ (Lib.uvarint m ++ Lib.uvarint x)))) := by
  have e1 : n + U.length + (R ++ (Lib.uvarint m ++ Lib.uvarint x)).length = n + U.length + R.length + (Lib.uvarint m).length + (Lib.uvarint x).length := by
    simp only [List.length_append]; omega
  have e2 : xs ++ Lib.byteCells (U ++ (R ++ (Lib.uvarint m ++ Lib.uvarint x))) = xs ++ Lib.byteCells (U ++ R) ++ Lib.byteCells (Lib.uvarint m) ++ Lib.byteCells (Lib.uvarint x) := by
    simp only [Lib.byteCells_append, List.append_assoc]
  rw [e1, e2]
  exact h
set_option maxHeartbeats 4000000 in
set_option maxRecDepth 100000 in
theorem appendRuns_any (B n g o c : Nat) (zs : List Int) (sv : Value) (xs : List Value) (w : World) (hz : Rw.AllFit zs) (hl : zs.length ≤ 1048576) (hc : Cells w g o zs) (hg : g < B)
    (hown : w.ownsRow B 5 1 sv n xs) (hBw : B ≤ w.heap.size) (hlim : n + 30000000 ≤ 140737488355328) :
    Calls Tryz.prog 116 #[sv, .slice (some ⟨g, o, none⟩) zs.length c] w fun e w' => ∃ v', e = .returned v' ∧ w'.ownsRow B 5 1 v' (n + (Rw.runsB zs).length) (xs ++ Lib.byteCells (Rw.runsB zs)) ∧ Below B w w' := by
  have HZ := hide hz
  have HC := hide hc
  have HO := hide hown
  clear hz hc hown
  go_enter Tryz.func116, Tryz.ntmps116
  go_wp2
  go_loopw [5, 11] (fun q i wr => ∃ k : Nat, k ≤ zs.length ∧ i = .int .i64 k ∧ q = .int .u64 (Rw.runsTo zs k).count ∧ ∃ d, wr = w.drewN d) (fun _ i _ => zs.length - (intOf i).toNat)
  case atStart => exact ⟨0, Nat.zero_le _, rfl, rfl, 0, rfl⟩
  case round =>
    obtain ⟨k, hk, rfl, rfl, hw⟩ := hrel
    have HW := hide hw
    clear hw
    have b2 := (Rw.runsTo_count zs k).1
    by_cases hlt : k < zs.length
    · have hce := endsRun_any g o c k zs wr hlt (by omega) (cells_drew HC.out HW.out)
      cases he : Rw.ends zs k with
      | false =>
        have E := hide (congrArg Rw.RunsAt.count (runs_no he))
        rw [he] at hce
        clear he
        go_wp2_with (go_at_call 166; refine hce.mono ?_; rintro e w1 ⟨rfl, hd⟩)
        exact ⟨⟨k + 1, by omega, by go_num, by rw [E.out], drew_trans HW.out hd⟩, by simp [intOf]; omega⟩
      | true =>
        have E := hide (congrArg Rw.RunsAt.count (runs_yes he))
        rw [he] at hce
        clear he
        go_wp2_with (go_at_call 166; refine hce.mono ?_; rintro e w1 ⟨rfl, hd⟩)
        exact ⟨⟨k + 1, by omega, by go_num, by rw [E.out]; go_num, drew_trans HW.out hd⟩, by simp [intOf]; omega⟩
    · obtain rfl : k = zs.length := by omega
      have ha := appendNumber_any B n (Rw.runsTo zs zs.length).count (by omega) sv xs wr (owns_drew HO.out HW.out) (by obtain ⟨d, rfl⟩ := HW.out; exact hBw) (by omega)
      have b4 := Lib.uvarint_length64 (x := (Rw.runsTo zs zs.length).count) (by omega)
      have E := hide (show Rw.runsB zs = Lib.uvarint (Rw.runsTo zs zs.length).count ++ (Rw.runsTo zs zs.length).bytes from rfl)
      generalize Lib.uvarint (Rw.runsTo zs zs.length).count = U at *
      go_wp2_with (go_at_call 113; refine ha.mono ?_; rintro e w2 ⟨v2, rfl, hown2, hb2⟩)
      have HB := hide ((below_drew HW.out).trans hb2)
      have HO2 := hide hown2
      clear hown2 ha HO HW hb2
      go_loopw [0, 7, 25] (fun v m i wr => ∃ k : Nat, k ≤ zs.length ∧ i = .int .i64 k ∧ m = .int .u64 (Rw.runsTo zs k).len ∧ wr.ownsRow B 5 1 v (n + U.length + (Rw.runsTo zs k).bytes.length) (xs ++ Lib.byteCells (U ++ (Rw.runsTo zs k).bytes)) ∧ Below B w wr) (fun _ _ i _ => zs.length - (intOf i).toNat)
      case atStart => exact ⟨0, Nat.zero_le _, rfl, rfl, by simpa [Rw.runsTo] using HO2.out, HB.out⟩
      case round =>
        obtain ⟨k, hk, rfl, rfl, ho, hb⟩ := hrel
        have HO := hide ho
        have HW := hide hb
        clear ho hb
        have b1 := Rw.runsTo_length HZ.out k (by omega)
        have b3 := (Rw.runsTo_count zs k).2
        by_cases hlt : k < zs.length
        · have hce := endsRun_any g o c k zs wr hlt (by omega) (cells_below HC.out HW.out hg)
          have hsz := HW.out.size
          cases he : Rw.ends zs k with
          | false =>
            have E2 := hide (runs_no he)
            rw [he] at hce
            clear he
            generalize Rw.runsTo zs k = R at *
            go_wp2_with (go_at_call 166; refine hce.mono ?_; rintro e w1 ⟨rfl, hd⟩)
            refine ⟨⟨k + 1, by omega, by go_num, by rw [E2.out]; go_num, ?_, HW.out.trans (below_drew hd)⟩, by simp [intOf]; omega⟩
            rw [E2.out]
            exact owns_drew HO.out hd
          | true =>
            have E2 := hide (runs_yes he)
            rw [he] at hce
            clear he
            have hfit := Rw.getD_fits HZ.out k
            generalize Rw.runsTo zs k = R at *
            have HK := hide (fun W (hb : Below B w W) => cells_below HC.out hb hg k hlt)
            generalize zs.getD k 0 = x at *
            have b4 := Lib.uvarint_length64 (x := R.len + 1) (by omega)
            have hf := fun w => fold_any x w hfit.1 hfit.2
            go_wp2_with (go_at_call 166; refine hce.mono ?_; rintro e w1 ⟨rfl, hd⟩; have HD := hide hd; clear hd)
            have hw1 : B ≤ w1.heap.size := Nat.le_trans (Nat.le_trans hBw hsz) (below_drew (B := 0) HD.out).size
            refine (appendNumber_any B _ (R.len + 1) (by omega) _ _ w1 (owns_drew HO.out HD.out) hw1 (by omega)).mono ?_
            rintro e w2 ⟨v2, rfl, hown2, hb2⟩
            have HO3 := hide hown2
            have HB3 := hide ((HW.out.trans (below_drew HD.out)).trans hb2)
            have hk1 := HK.out _ HB3.out
            have e1 : (k : Int) < (zs.length : Int) := by omega
            have hw2 := hb2.size
            clear hown2 hb2
            go_wp2_with (go_at_call 117; refine (hf _).mono ?_; rintro e w3 ⟨rfl, rfl⟩)
            refine (appendNumber_any B _ (Lib.zigzag x) (Lib.zigzag_lt hfit.1 hfit.2) _ _ _ HO3.out (by omega) (by omega)).mono ?_
            rintro e w4 ⟨v4, rfl, hown4, hb4⟩
            have HO4 := hide hown4
            have HB4 := hide (HB3.out.trans hb4)
            clear hown4 hb4
            go_wp2
            refine ⟨⟨k + 1, by omega, by go_num, by rw [E2.out]; rfl, ?_, HB4.out⟩, by simp [intOf]; omega⟩
            rw [E2.out]
            exact runs_owned HO4.out
        · obtain rfl : k = zs.length := by omega
          go_wp2
          go_ret
          refine ⟨_, rfl, ?_, HW.out⟩
          rw [E.out, List.length_append, ← Nat.add_assoc]
          exact HO.out
end Go.Proofs.YtafmiolehlagkaaGreat.Pak

namespace Go.Proofs.YtafmiolehlagkaaGreat.Pak
open Go.RowKit
set_option maxRecDepth 100000

theorem uvarint_zero : Lib.uvarint 0 = [0] := Lib.uvarint_small (by omega)

theorem row_head {w : World} {B : Nat} {v : Value} {l U : List UInt8} {f : Nat} (hf : f < 256)
    (h : w.ownsRow B 5 1 v (l.length + U.length + 1) (Lib.byteCells l ++ Lib.byteCells U ++ [Value.int .u8 (f : Int)])) :
    w.ownsRow B 5 1 v (l.length + U.length + 1) (Lib.byteCells (l ++ (U ++ [UInt8.ofNat f]))) := by
  have e : Lib.byteCells (l ++ (U ++ [UInt8.ofNat f])) = Lib.byteCells l ++ Lib.byteCells U ++ [Value.int .u8 (f : Int)] := by
    have hx : (UInt8.ofNat f).toNat = f := by simp [UInt8.toNat_ofNat']; omega
    simp [Lib.byteCells, hx]
  rw [e]
  exact h
theorem row_done {w : World} {B : Nat} {v : Value} {l U F : List UInt8} {f : UInt8}
    (h : w.ownsRow B 5 1 v (l.length + U.length + 1 + F.length) (Lib.byteCells (l ++ (U ++ [f])) ++ Lib.byteCells F)) :
    w.ownsRow B 5 1 v (l.length + (U ++ (f :: F)).length) (Lib.byteCells (l ++ (U ++ (f :: F)))) := by
  have e1 : l.length + (U ++ (f :: F)).length = l.length + U.length + 1 + F.length := by simp; omega
  have e2 : l ++ (U ++ (f :: F)) = (l ++ (U ++ [f])) ++ F := by simp
  rw [e1, e2, Lib.byteCells_append]
  exact h
theorem body_owned {w : World} {B m : Nat} {v : Value} {X F U : List UInt8}
    (h : w.ownsRow B 5 1 v (m + F.length + U.length) (Lib.byteCells X ++ Lib.byteCells F ++ Lib.byteCells U)) :
    w.ownsRow B 5 1 v (m + (F ++ U).length) (Lib.byteCells X ++ Lib.byteCells (F ++ U)) := by
  rw [List.length_append, ← Nat.add_assoc, Lib.byteCells_append, ← List.append_assoc]
  exact h
set_option maxHeartbeats 4000000 in
set_option maxRecDepth 100000 in
theorem putRow_some (v : Value) (l : List UInt8) (g o c : Nat) (zs : List Int) (w : World) (h : Bs w v l) (hpos : 0 < zs.length) (hz : Rw.AllFit zs) (hl : zs.length ≤ 1048576) (hc : Cells w g o zs) (hlim : l.length + 60000000 ≤ 140737488355328) :
    Calls Tryz.prog 51 #[v, .slice (some ⟨g, o, none⟩) zs.length c] w fun e w' => ∃ v', e = .returned v' ∧ w'.ownsRow w.heap.size 5 1 v' (l.length + (Rw.rowB zs).length) (Lib.byteCells (l ++ Rw.rowB zs)) ∧ Below w.heap.size w w' := by
  have hg : g < w.heap.size := World.block_lt_of_cell? w _ (hc 0 hpos)
  have hsf := shortest_any g o c zs w hz hl hc
  have hb2 := Rw.best_le zs
  have hfl := Rw.formB_length hz hl (Rw.best zs)
  have hul := Lib.uvarint_length64 (x := zs.length) (by omega)
  have hn := fun w => numberSize_any zs.length w (by omega)
  have E := hide (show Rw.rowB zs = Lib.uvarint zs.length ++ (UInt8.ofNat (Rw.best zs) :: Rw.formB zs (Rw.best zs)) by unfold Rw.rowB; rw [if_neg (by omega)])
  have HH := hide h
  have HZ := hide hz
  have HC := hide hc
  have h0 : ((zs.length : Int) == 0) = false := by rw [beq_eq_false_iff_ne]; omega
  clear h hz hc
  generalize hbf : Rw.best zs = f at *
  generalize hfb : Rw.formB zs f = F at *
  have HF := hide hfb
  clear hfb hbf
  generalize hU : Lib.uvarint zs.length = U at *
  have HU := hide hU
  clear hU
  go_enter Tryz.func51, Tryz.ntmps51
  go_wp2_with (first | (go_at_call 112; refine hsf.mono ?_; rintro e w1 ⟨rfl, hd⟩; have HD := hide hd; clear hd) | (go_at_call 115; refine (hn _).mono ?_; rintro e w2 ⟨rfl, rfl⟩))
  have hbs : Bs w2 v l := HH.out.below (below_drew (B := w.heap.size) HD.out) (Nat.le_refl _)
  have hsz : w2.heap.size = w.heap.size := by obtain ⟨d, rfl⟩ := HD.out; rfl
  have HS := hide hsz
  rw [show ((U.length : Int) + 1 + (F.length : Int)) = ((U.length + 1 + F.length : Nat) : Int) by omega]
  refine (withRoom_any v l (U.length + 1 + F.length) w2 hbs (by omega)).mono ?_
  rintro e w3 ⟨rfl, hrow, hb3⟩
  have hown := hrow.owns (B := w2.heap.size) (n := l.length) (Nat.le_refl _) (by simp) (by simp [maxLen]; omega)
  rw [List.take_left, List.length_append, List.length_replicate] at hown
  have ha := appendNumber_any w2.heap.size l.length zs.length (by omega) _ _ w3 hown hb3.size (by omega)
  rw [HU.out] at ha
  have HA := hide ha
  have HB3 := hide hb3
  clear ha hown hrow hb3 hsz hbs hsf
  go_wp2_with fail
  refine HA.out.mono ?_
  rintro e w4 ⟨v4, rfl, hown4, hb4⟩
  have HB4 := hide (HB3.out.trans hb4)
  have hs4 := (HB3.out.trans hb4).size
  clear hb4 HA HB3
  obtain ⟨i0, hi, hz0, hz1, hz2⟩ := info_parts info5
  go_wp2_with (at_builtin; refine wpList_append_own _ rfl _ _ 51 rfl w2.heap.size 5 i0 (.int .u8 0) 1 1 Tryz.underlying51 hi hz0 hz1 hz2 rfl (by decide) _ _ _ rfl (hown4.alloc _) ⟨w4.heap.size, 0, none⟩ 1 1 [Value.int .u8 (f : Int)] rfl rfl ?c1 ?c2 ?c3 ?c4 ?c5 ?_)
  case c1 => first | exact cell_one_new _ _ _ | (intro j u hj; match j, hj with | 0, hj => simp at hj; subst hj; simp [Addr.add])
  case c2 => intro u hu; simp at hu; subst hu; rfl
  case c3 => unfold maxLen; omega
  case c4 => omega
  case c5 => simp; omega
  intro v5 w5 hown5 hgrow _
  have hb5 : Below w2.heap.size w2 w5 := (HB4.out.alloc hs4 _).grown hgrow (by simp; omega) (fun k hk => (hown4.lt k hk).1)
  rw [← List.append_assoc] at hown5
  have hown6 := row_head (U := U) (f := f) (by omega) hown5
  have HO := hide hown6
  have HB := hide ((below_drew (B := w2.heap.size) HD.out).trans hb5)
  have hs5 := hb5.size
  clear hown4 hown5 hown6 hgrow hb5 HB4
  have hg2 : g < w2.heap.size := by rw [HS.out]; exact hg
  by_cases hf2 : f = 2
  · subst hf2
    have hr := appendRuns_any w2.heap.size _ g o c zs v5 _ w5 HZ.out hl (cells_below HC.out HB.out hg2) hg2 HO.out hs5 (by omega)
    have e : Rw.runsB zs = F := HF.out
    rw [e] at hr
    clear e
    have HR := hide hr
    clear hr
    go_wp2_with fail
    refine HR.out.mono ?_
    rintro e w6 ⟨v6, rfl, hown7, hb7⟩
    have HO7 := hide hown7
    have HB7 := hide (HB.out.trans hb7)
    clear hown7 hb7 HR
    go_wp2
    go_ret
    refine ⟨v6, rfl, ?_, HS.out ▸ HB7.out⟩
    rw [E.out, ← HS.out]
    exact row_done HO7.out
  · have hf2' : ((f : Int) == 2) = false := by rw [beq_eq_false_iff_ne]; omega
    have e : F = Rw.bodyTo zs f zs.length := by rw [← HF.out]; unfold Rw.formB; rw [if_neg hf2]
    have HE := hide e
    clear e
    go_wp2
    go_loopw [8, 44] (fun v i wr => ∃ k : Nat, k ≤ zs.length ∧ i = .int .i64 k ∧ wr.ownsRow w2.heap.size 5 1 v (l.length + U.length + 1 + (Rw.bodyTo zs f k).length) (Lib.byteCells (l ++ (U ++ [UInt8.ofNat f])) ++ Lib.byteCells (Rw.bodyTo zs f k)) ∧ Below w2.heap.size w wr ∧ w2.heap.size ≤ wr.heap.size) (fun _ i _ => zs.length - (intOf i).toNat)
    case atStart => exact ⟨0, Nat.zero_le _, rfl, by simpa [Rw.bodyTo, Lib.byteCells] using HO.out, HB.out, hs5⟩
    case round =>
      obtain ⟨k, hk, rfl, ho, hb, hsr⟩ := hrel
      have HO8 := hide ho
      have HB8 := hide hb
      clear ho hb
      have b1 := Rw.bodyTo_length HZ.out f k
      by_cases hlt : k < zs.length
      · have hce := entry_any g o c k f zs wr hlt (by omega) (by omega) (cells_below HC.out HB8.out hg2)
        have hfit := Rw.entry_fits HZ.out k f
        have hbd := hide (show Rw.bodyTo zs f (k + 1) = Rw.bodyTo zs f k ++ Lib.uvarint (Lib.zigzag (Rw.entry zs k f)) from rfl)
        generalize Rw.entry zs k f = x at *
        have hfo := fun w => fold_any x w hfit.1 hfit.2
        go_wp2_with (first | (go_at_call 118; refine hce.mono ?_; rintro e w7 ⟨rfl, hd⟩; have HD7 := hide hd; clear hd) | (go_at_call 117; refine (hfo _).mono ?_; rintro e w8 ⟨rfl, rfl⟩))
        refine (appendNumber_any w2.heap.size _ (Lib.zigzag x) (Lib.zigzag_lt hfit.1 hfit.2) _ _ _ (owns_drew HO8.out HD7.out) (Nat.le_trans hsr (below_drew (B := 0) HD7.out).size) (by omega)).mono ?_
        rintro e w9 ⟨v9, rfl, hown9, hb9⟩
        have HO9 := hide hown9
        have HB9 := hide ((HB8.out.trans (below_drew HD7.out)).trans hb9)
        have hs9 := Nat.le_trans (Nat.le_trans hsr (below_drew (B := 0) HD7.out).size) hb9.size
        clear hown9 hb9
        go_wp2
        refine ⟨⟨k + 1, by omega, by go_num, ?_, HB9.out, hs9⟩, by simp [intOf]; omega⟩
        rw [hbd.out]
        exact body_owned HO9.out
      · obtain rfl : k = zs.length := by omega
        go_wp2
        go_ret
        refine ⟨_, rfl, ?_, HS.out ▸ HB8.out⟩
        rw [E.out, ← HS.out, HE.out]
        exact row_done HO8.out

set_option maxHeartbeats 1000000 in
set_option maxRecDepth 100000 in
theorem putRow_none (v : Value) (l : List UInt8) (ao : Option Addr) (c : Nat) (w : World) (h : Bs w v l) (hlim : l.length + 60000000 ≤ 140737488355328) :
    Calls Tryz.prog 51 #[v, .slice ao 0 c] w fun e w' => ∃ v', e = .returned v' ∧ w'.ownsRow w.heap.size 5 1 v' (l.length + (Rw.rowB []).length) (Lib.byteCells (l ++ Rw.rowB [])) ∧ Below w.heap.size w w' := by
  have hp := put_any v l 0 w h (by omega) (by omega)
  rw [uvarint_zero] at hp
  have hp' : Calls Tryz.prog 111 #[v, .int .u64 0] w fun e w' => ∃ v', e = .returned v' ∧ w'.ownsRow w.heap.size 5 1 v' (l.length + 1) (Lib.byteCells (l ++ [0])) ∧ Below w.heap.size w w' := hp
  have H := hide hp'
  clear hp hp' h
  go_enter Tryz.func51, Tryz.ntmps51
  go_wp2_with (go_at_call 111; refine H.out.mono ?_; rintro e w1 ⟨v2, rfl, hown, hb1⟩)
  go_ret
  exact ⟨v2, rfl, hown, hb1⟩

/-- PutRow. -/
theorem putRow_any (v vl : Value) (l : List UInt8) (zs : List Int) (w : World) (h : Bs w v l) (hn : Ns w vl zs) (hz : Rw.AllFit zs) (hl : zs.length ≤ 1048576) (hlim : l.length + 60000000 ≤ 140737488355328) :
    Calls Tryz.prog 51 #[v, vl] w fun e w' => ∃ v', e = .returned v' ∧ w'.ownsRow w.heap.size 5 1 v' (l.length + (Rw.rowB zs).length) (Lib.byteCells (l ++ Rw.rowB zs)) ∧ Below w.heap.size w w' := by
  rcases hn.parts with ⟨ao, c, rfl, rfl⟩ | ⟨g, o, c, rfl, hpos, _, _, hc⟩
  · exact putRow_none v l ao c w h hlim
  · exact putRow_some v l g o c zs w h hpos hz hl hc hlim
end Go.Proofs.YtafmiolehlagkaaGreat.Pak

namespace Go.Proofs.YtafmiolehlagkaaGreat.Pak
open Go.RowKit
set_option maxRecDepth 100000

/-- string(b). -/
theorem conv_row (w : World) (a : Addr) (c : Nat) (l : List UInt8) (hcell : ∀ j (hj : j < l.length), w.cell? (a.add j) = some (.int .u8 (l[j]).toNat)) :
    (convert 51 9 (.slice (some a) l.length c)).run Tryz.prog w = .ok (.string ⟨l.toArray⟩) w := by
  have hl : (loadCells a l.length).run Tryz.prog w = .ok ((l.map fun b => (b.toNat : Int)).map (Value.int .u8)).toArray w := by
    have := run_loadCells_list (P := Tryz.prog) w a ((l.map fun b => (b.toNat : Int)).map (Value.int .u8)) (fun j v hj => by
      simp only [List.getElem?_map, Option.map_eq_some_iff] at hj
      obtain ⟨_, ⟨b, hb, rfl⟩, rfl⟩ := hj
      obtain ⟨hjl, rfl⟩ := List.getElem?_eq_some_iff.1 hb
      exact hcell j hjl)
    simpa using this
  rw [run_convert_bytes_string w 51 9 5 _ _ c Tryz.underlying51 Tryz.underlying5 Tryz.underlying9, run_bytesToString w _ _ c _ hl, foldl_push_bytes]
  have e : ((l.map fun b => (b.toNat : Int)).map fun n => UInt8.ofNat n.toNat) = l := by
    rw [List.map_map]
    conv => rhs; rw [← List.map_id l]
    apply List.map_congr_left
    intro b _
    simp
  rw [e]
  simp [ByteArray.empty, ByteArray.emptyWithCapacity]
  rfl
theorem conv_bs {w : World} {v : Value} {l : List UInt8} (h : Bs w v l) : (convert 51 9 v).run Tryz.prog w = .ok (.string ⟨l.toArray⟩) w := by
  obtain ⟨ao, c, rfl, h1, h2, h3⟩ := h
  cases ao with
  | none =>
    cases l with
    | nil =>
      rw [run_convert_bytes_nil w 51 5 Tryz.underlying51 Tryz.underlying5 _ c 9 Tryz.underlying9]
      rfl
    | cons b l =>
      obtain ⟨_, _, e, _⟩ := h3 0 (by simp)
      cases e
  | some a =>
    refine conv_row w a c l fun j hj => ?_
    obtain ⟨g, o, e, hc⟩ := h3 j hj
    cases e
    rw [show (⟨g, o, none⟩ : Addr).add j = ⟨g, o + j, none⟩ by simp [Addr.add]]
    exact hc

end Go.Proofs.YtafmiolehlagkaaGreat.Pak
