import Derived.Test.YtkohlhnkaklnpaaProg
import Derived.Test.YtkohlhnkaklnpaaCrc
import Derived.WalkKit
import Derived.WalkSpells
import Derived.WalkLawsBesides
import Derived.Laws.CopyOwn
import Derived.Lib.VarintMem
namespace Go.Proofs.Ytkohlhnkaklnpaa
open Go.RowKit

theorem hide {p : Prop} (h : p) : Hid p := h
theorem ret_int {k : IntKind} {a b : Int} (h : a = b) : Ending.returned (.int k a) = .returned (.int k b) := by rw [h]
theorem val_int {k : IntKind} {a b : Int} (h : a = b) : Value.int k a = .int k b := by rw [h]

/-- A slice of bytes that reads as l (nil, or empty, or a row of cells). -/
def Bs (w : World) (v : Value) (l : List UInt8) : Prop :=
  ∃ ao c, v = .slice ao l.length c ∧ l.length ≤ c ∧ c ≤ maxLen ∧ ∀ j (hj : j < l.length), ∃ g o, ao = some ⟨g, o, none⟩ ∧ w.cell? ⟨g, o + j, none⟩ = some (.int .u8 (l[j]).toNat)

theorem Bs.nil (w : World) : Bs w (.slice none 0 0) [] := ⟨none, 0, rfl, Nat.le_refl _, Nat.zero_le _, fun j hj => absurd hj (by simp)⟩
theorem Bs.row {w : World} {g o c : Nat} {l : List UInt8} (h1 : l.length ≤ c) (h2 : c ≤ maxLen) (h3 : ∀ j (hj : j < l.length), w.cell? ⟨g, o + j, none⟩ = some (.int .u8 (l[j]).toNat)) : Bs w (.slice (some ⟨g, o, none⟩) l.length c) l :=
  ⟨some ⟨g, o, none⟩, c, rfl, h1, h2, fun j hj => ⟨g, o, rfl, h3 j hj⟩⟩
theorem Bs.parts {w : World} {v : Value} {l : List UInt8} (h : Bs w v l) :
    (∃ ao c, v = .slice ao 0 c ∧ l = []) ∨ ∃ g o c, v = .slice (some ⟨g, o, none⟩) l.length c ∧ 0 < l.length ∧ l.length ≤ c ∧ c ≤ maxLen ∧ ∀ j (hj : j < l.length), w.cell? ⟨g, o + j, none⟩ = some (.int .u8 (l[j]).toNat) := by
  obtain ⟨ao, c, rfl, h1, h2, h3⟩ := h
  by_cases h0 : 0 < l.length
  · obtain ⟨g, o, rfl, _⟩ := h3 0 h0
    refine .inr ⟨g, o, c, rfl, h0, h1, h2, fun j hj => ?_⟩
    obtain ⟨g', o', e, hc⟩ := h3 j hj
    simp at e
    obtain ⟨rfl, rfl⟩ := e
    exact hc
  · obtain rfl : l = [] := List.eq_nil_of_length_eq_zero (by omega)
    exact .inl ⟨ao, c, rfl, rfl⟩
/-- What is below the first new block reads on. -/
theorem Bs.below {B : Nat} {w w' : World} {v : Value} {l : List UInt8} (h : Bs w v l) (hb : Below B w w') (hB : w.heap.size ≤ B) : Bs w' v l := by
  obtain ⟨ao, c, rfl, h1, h2, h3⟩ := h
  refine ⟨ao, c, rfl, h1, h2, fun j hj => ?_⟩
  obtain ⟨g, o, e, hc⟩ := h3 j hj
  have hlt := World.block_lt_of_cell? w _ hc
  exact ⟨g, o, e, (hb.cell (p := ⟨g, o + j, none⟩) (by exact Nat.lt_of_lt_of_le hlt hB)).trans hc⟩
/-- A block of the call's own, whole. -/
abbrev Row (w : World) (g : Nat) (l : List UInt8) : Prop := w.heap[g]? = some (.cells (Lib.byteCells l).toArray 5 (0, 0))
theorem Row.cell {w : World} {g : Nat} {l : List UInt8} (h : Row w g l) (j : Nat) (hj : j < l.length) : w.cell? ⟨g, j, none⟩ = some (.int .u8 (l[j]).toNat) := by
  rw [cell_of_row w g j _ 5 (0, 0) h]
  simp [Lib.byteCells, hj]
theorem Row.frozen {w : World} {g : Nat} {l : List UInt8} (h : Row w g l) (j : Nat) : w.frozen? ⟨g, j, none⟩ = false := frozen_of_row w g j _ 5 h
theorem Row.bs {w : World} {g n c : Nat} {l : List UInt8} (h : Row w g l) (hn : n ≤ l.length) (hc : n ≤ c) (hm : c ≤ maxLen) : Bs w (.slice (some ⟨g, 0, none⟩) n c) (l.take n) := by
  have e : (l.take n).length = n := by simp; omega
  have := Bs.row (w := w) (g := g) (o := 0) (c := c) (l := l.take n) (by omega) hm (fun j hj => by
    rw [e] at hj
    have := h.cell j (by omega)
    simpa using this)
  rwa [e] at this
theorem Row.set {w : World} {g : Nat} {l : List UInt8} (h : Row w g l) (j : Nat) (b : UInt8) : Row (w.setCell ⟨g, j, none⟩ (.int .u8 b.toNat)) g (l.set j b) := by
  have := heap_setCell_same w g j _ 5 (.int .u8 b.toNat) h
  unfold Row
  rw [this]
  simp [Lib.byteCells, List.map_set]
theorem Row.below {B : Nat} {w w' : World} {g : Nat} {l : List UInt8} (h : Row w g l) (hb : Below B w w') (hB : g < B) : Row w' g l := (hb.block g hB).trans h
theorem Row.lt {w : World} {g : Nat} {l : List UInt8} (h : Row w g l) : g < w.heap.size := (Array.getElem?_eq_some_iff.1 h).1

/-! ### Sum -/
theorem bit_step (s : Nat) (h : s < 4294967296) : bits .xor .u32 ((s : Int) / 2) (2197175160 * bits .and .u32 (s : Int) 1 % 4294967296) = ((Crc.crcBit s : Nat) : Int) := by
  have h1 : bits .and .u32 (s : Int) 1 = ((s % 2 : Nat) : Int) := by
    rw [show (1 : Int) = ((1 : Nat) : Int) by rfl, u32_and_nat s 1 h (by omega), nat_mask1]
  rw [h1]
  have h2 : (2197175160 * ((s % 2 : Nat) : Int) % 4294967296) = ((Crc.poly * (s % 2) : Nat) : Int) := by
    unfold Crc.poly
    omega
  rw [h2, show ((s : Int) / 2) = ((s / 2 : Nat) : Int) by omega]
  exact u32_xor_nat _ _ (by omega) (Crc.poly_mul s)
theorem all_turned (s : Nat) (h : s < 4294967296) : bits .xor .u32 IntKind.u32.max (s : Int) = ((s ^^^ 4294967295 : Nat) : Int) := by
  rw [Nat.xor_comm, show IntKind.u32.max = ((4294967295 : Nat) : Int) by rfl]
  exact u32_xor_nat _ _ (by omega) h

set_option maxHeartbeats 1000000 in
set_option maxRecDepth 100000 in
theorem sum_some (g o c : Nat) (l : List UInt8) (w : World) (hl : l.length ≤ maxLen) (hcell : ∀ j (hj : j < l.length), w.cell? ⟨g, o + j, none⟩ = some (.int .u8 (l[j]).toNat)) :
    Calls Try.prog 36 #[.slice (some ⟨g, o, none⟩) l.length c] w fun e w' => e = .returned (.int .u32 (Crc.crc l)) ∧ w' = w := by
  unfold maxLen at hl
  go_enter Try.func36, Try.ntmps36
  go_wp2
  go_loop [3, 7] (fun s i => ∃ k : Nat, k ≤ l.length ∧ i = .int .i64 k ∧ s = .int .u32 (Crc.crcFold 4294967295 (l.take k))) (fun _ i => l.length - (intOf i).toNat)
  case atStart => exact ⟨0, Nat.zero_le _, rfl, rfl⟩
  case round =>
    obtain ⟨k, hk, rfl, rfl⟩ := hrel
    have hs := Crc.crcFold_lt (l.take k) (s := 4294967295) (by omega)
    by_cases hlt : k < l.length
    · have hc := hcell k hlt
      have hb := (l[k]).toNat_lt
      have hx : bits .xor .u32 (Crc.crcFold 4294967295 (l.take k) : Int) (l[k].toNat : Int) = ((Crc.crcFold 4294967295 (l.take k) ^^^ l[k].toNat : Nat) : Int) := u32_xor_nat _ _ hs (by omega)
      have HT : Hid (Crc.crcFold 4294967295 (l.take (k + 1)) = Crc.crcByte (Crc.crcFold 4294967295 (l.take k)) l[k].toNat) := by
        rw [List.take_succ_eq_append_getElem hlt]
        exact Crc.crcFold_snoc _ _ _
      go_wp2
      generalize hS : Crc.crcFold 4294967295 (l.take k) = S at *
      clear hS
      go_loop [3, 17] (fun s i => ∃ j : Nat, j ≤ 8 ∧ i = .int .i64 j ∧ s = .int .u32 (Crc.crcBits j (S ^^^ l[k].toNat))) (fun _ i => 8 - (intOf i).toNat)
      case atStart => exact ⟨0, Nat.zero_le _, rfl, rfl⟩
      case round =>
        obtain ⟨j, hj, rfl, rfl⟩ := hrel
        have hz := Crc.crcBits_lt j (Crc.xor_lt hs (show l[k].toNat < 4294967296 by omega))
        by_cases hj8 : j < 8
        · go_wp2
          refine ⟨⟨j + 1, by omega, by go_num, val_int ?_⟩, by simp [intOf]; omega⟩
          rw [bit_step _ hz, Crc.crcBits_succ]
        · go_wp2
          refine ⟨⟨k + 1, by omega, by go_num, val_int ?_⟩, by simp [intOf]; omega⟩
          obtain rfl : j = 8 := by omega
          rw [HT.out]
          rfl
    · go_wp2
      go_ret
      exact ⟨ret_int (by rw [List.take_of_length_le (by omega)] at hs ⊢; exact all_turned _ hs), rfl⟩

set_option maxHeartbeats 1000000 in
set_option maxRecDepth 100000 in
theorem sum_nil (ao : Option Addr) (c : Nat) (w : World) :
    Calls Try.prog 36 #[.slice ao 0 c] w fun e w' => e = .returned (.int .u32 (Crc.crc [])) ∧ w' = w := by
  go_enter Try.func36, Try.ntmps36
  go_wp2
  refine wp_loop_rounds 1 ?_
  rw [rounds_succ]
  go_wp2
  go_ret
  exact ⟨ret_int (by decide), rfl⟩

theorem sum_any (v : Value) (l : List UInt8) (w : World) (h : Bs w v l) :
    Calls Try.prog 36 #[v] w fun e w' => e = .returned (.int .u32 (Crc.crc l)) ∧ w' = w := by
  rcases h.parts with ⟨ao, c, rfl, rfl⟩ | ⟨g, o, c, rfl, _, h1, h2, h3⟩
  · exact sum_nil ao c w
  · exact sum_some g o c l w (by omega) h3
end Go.Proofs.Ytkohlhnkaklnpaa
