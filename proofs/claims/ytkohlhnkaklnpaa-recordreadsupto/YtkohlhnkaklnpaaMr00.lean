import Derived.Test.YtkohlhnkaklnpaaProg
import Derived.WalkKit
import Derived.WalkSpells
import Derived.WalkLawsBesides
import Derived.Laws.CopyOwn
import Derived.Lib.VarintMem
import Derived.Lib.Varint
/-
  THE SUM OF PACK (A5), AS PLAIN MATHEMATICS: no program in this text. 'crcBit': one bit is shifted out. 'crc': the sum of a list of bytes. 'refByte': the same byte, its bits taken one by one.
-/
namespace Go.Proofs.Ytkohlhnkaklnpaa.Crc

def poly : Nat := 2197175160
def crcBit (s : Nat) : Nat := (s / 2) ^^^ (poly * (s % 2))
def crcBits : Nat → Nat → Nat
  | 0, s => s
  | n + 1, s => crcBits n (crcBit s)
def crcByte (s b : Nat) : Nat := crcBits 8 (s ^^^ b)
def crcFold (s : Nat) (l : List UInt8) : Nat := l.foldl (fun s b => crcByte s b.toNat) s
def crc (l : List UInt8) : Nat := crcFold 4294967295 l ^^^ 4294967295

theorem xor_lt {a b : Nat} (ha : a < 4294967296) (hb : b < 4294967296) : a ^^^ b < 4294967296 := Nat.xor_lt_two_pow (n := 32) ha hb
theorem poly_mul (s : Nat) : poly * (s % 2) < 4294967296 := by unfold poly; omega
theorem crcBit_lt {s : Nat} (h : s < 4294967296) : crcBit s < 4294967296 := xor_lt (by omega) (poly_mul s)
theorem crcBits_lt : ∀ (n : Nat) {s : Nat}, s < 4294967296 → crcBits n s < 4294967296
  | 0, _, h => h
  | n + 1, _, h => crcBits_lt n (crcBit_lt h)
theorem crcBits_succ : ∀ (n s : Nat), crcBits (n + 1) s = crcBit (crcBits n s)
  | 0, _ => rfl
  | n + 1, s => crcBits_succ n (crcBit s)
theorem crcByte_lt {s b : Nat} (h : s < 4294967296) (hb : b < 256) : crcByte s b < 4294967296 := crcBits_lt 8 (xor_lt h (by omega))
theorem crcFold_lt : ∀ (l : List UInt8) {s : Nat}, s < 4294967296 → crcFold s l < 4294967296
  | [], _, h => h
  | b :: l, _, h => crcFold_lt l (crcByte_lt h b.toNat_lt)
theorem crc_lt (l : List UInt8) : crc l < 4294967296 := xor_lt (crcFold_lt l (by omega)) (by omega)
theorem crcFold_snoc (s : Nat) (l : List UInt8) (b : UInt8) : crcFold s (l ++ [b]) = crcByte (crcFold s l) b.toNat := by simp [crcFold]
theorem crcFold_append (s : Nat) (l m : List UInt8) : crcFold s (l ++ m) = crcFold (crcFold s l) m := by simp [crcFold]

/-! ### The reference's way: bit by bit -/
def refBit (s c : Nat) : Nat := if c % 2 = s % 2 then s / 2 else (s / 2) ^^^ poly
def refBits : Nat → Nat → Nat → Nat
  | 0, s, _ => s
  | n + 1, s, b => refBit (refBits n s b) (b / 2 ^ n)

theorem xor_mod2 (a b : Nat) : (a ^^^ b) % 2 = (a % 2 + b % 2) % 2 := by
  have h := Nat.testBit_xor a b 0
  simp only [Nat.testBit_zero] at h
  have ha := Nat.mod_two_eq_zero_or_one a
  have hb := Nat.mod_two_eq_zero_or_one b
  have hx := Nat.mod_two_eq_zero_or_one (a ^^^ b)
  rcases ha with ha | ha <;> rcases hb with hb | hb <;> rcases hx with hx | hx <;> simp [ha, hb, hx] at h ⊢
theorem xor_div2 (a b : Nat) : (a ^^^ b) / 2 = (a / 2) ^^^ (b / 2) := by
  apply Nat.eq_of_testBit_eq
  intro i
  rw [Nat.testBit_xor, ← Nat.testBit_succ, ← Nat.testBit_succ, ← Nat.testBit_succ, Nat.testBit_xor]

/-- One bit: what was not yet taken of the byte stands beside. -/
theorem crcBit_ref (r c : Nat) : crcBit (r ^^^ c) = refBit r c ^^^ (c / 2) := by
  unfold crcBit refBit
  rw [xor_div2, xor_mod2]
  rcases Nat.mod_two_eq_zero_or_one r with hr | hr <;> rcases Nat.mod_two_eq_zero_or_one c with hc | hc <;> simp [hr, hc]
  · rw [Nat.xor_assoc, Nat.xor_assoc, Nat.xor_comm poly]
  · rw [Nat.xor_assoc, Nat.xor_assoc, Nat.xor_comm poly]

theorem crcBits_ref (s b : Nat) : ∀ n, crcBits n (s ^^^ b) = refBits n s b ^^^ (b / 2 ^ n)
  | 0 => by simp [crcBits, refBits]
  | n + 1 => by
    rw [crcBits_succ, crcBits_ref s b n, crcBit_ref, Nat.div_div_eq_div_mul, ← Nat.pow_succ]
    rfl

theorem refByte_eq (s b : Nat) (hb : b < 256) : refBits 8 s b = crcByte s b := by
  have h := crcBits_ref s b 8
  rw [Nat.div_eq_of_lt (by simpa using hb), Nat.xor_zero] at h
  exact h.symm
theorem refBit_lt {s c : Nat} (h : s < 4294967296) : refBit s c < 4294967296 := by
  unfold refBit
  split
  · omega
  · exact xor_lt (by omega) (by unfold poly; omega)
theorem refBits_lt {s : Nat} (b : Nat) (h : s < 4294967296) : ∀ n, refBits n s b < 4294967296
  | 0 => h
  | n + 1 => refBit_lt (refBits_lt b h n)

/-! ### A burst of up to 32 bits is told -/
theorem crcBit_xor (a b : Nat) : crcBit (a ^^^ b) = crcBit a ^^^ crcBit b := by
  unfold crcBit
  rw [xor_div2, xor_mod2]
  rcases Nat.mod_two_eq_zero_or_one a with ha | ha <;> rcases Nat.mod_two_eq_zero_or_one b with hb | hb <;> simp [ha, hb]
  · rw [Nat.xor_assoc]
  · rw [Nat.xor_assoc, Nat.xor_assoc, Nat.xor_comm poly]
  · rw [Nat.xor_assoc, Nat.xor_comm poly, Nat.xor_assoc, Nat.xor_self, Nat.xor_zero]
theorem crcBits_xor : ∀ (n a b : Nat), crcBits n (a ^^^ b) = crcBits n a ^^^ crcBits n b
  | 0, _, _ => rfl
  | n + 1, a, b => by simp only [crcBits]; rw [crcBit_xor, crcBits_xor n]

/-- Nothing but 0 becomes 0: the polynomial's highest bit is 1. -/
theorem crcBit_zero {s : Nat} (h : s < 4294967296) (h0 : crcBit s = 0) : s = 0 := by
  unfold crcBit at h0
  rcases Nat.mod_two_eq_zero_or_one s with hs | hs
  · rw [hs] at h0
    simp at h0
    omega
  · rw [hs, Nat.mul_one] at h0
    have h1 : (s / 2).testBit 31 = poly.testBit 31 := by
      have := congrArg (fun x => Nat.testBit x 31) h0
      simp only [Nat.testBit_xor, Nat.zero_testBit] at this
      revert this
      cases (s / 2).testBit 31 <;> cases poly.testBit 31 <;> simp
    rw [Nat.testBit_lt_two_pow (show s / 2 < 2 ^ 31 by omega)] at h1
    exact absurd h1 (by decide)
theorem crcBits_zero : ∀ (n : Nat) {s : Nat}, s < 4294967296 → crcBits n s = 0 → s = 0
  | 0, _, _, h0 => h0
  | n + 1, _, h, h0 => crcBit_zero h (crcBits_zero n (crcBit_lt h) h0)

theorem crcByte_xor (s t b c : Nat) : crcByte (s ^^^ t) (b ^^^ c) = crcByte s b ^^^ crcByte t c := by
  unfold crcByte
  rw [← crcBits_xor]
  congr 1
  rw [Nat.xor_assoc, ← Nat.xor_assoc t, Nat.xor_comm t b, Nat.xor_assoc b, ← Nat.xor_assoc s]

/-- The same bytes behind: another state stays another one. -/
theorem crcFold_inj : ∀ (l : List UInt8) {s t : Nat}, s < 4294967296 → t < 4294967296 → crcFold s l = crcFold t l → s = t
  | [], _, _, _, _, h => h
  | b :: l, s, t, hs, ht, h => by
    have h1 := crcFold_inj l (crcByte_lt hs b.toNat_lt) (crcByte_lt ht b.toNat_lt) h
    have h2 : crcBits 8 (s ^^^ t) = 0 := by
      have e : crcByte (s ^^^ t) (b.toNat ^^^ b.toNat) = 0 := by rw [crcByte_xor, h1, Nat.xor_self]
      rw [Nat.xor_self] at e
      simpa [crcByte] using e
    have h3 := crcBits_zero 8 (xor_lt hs ht) h2
    have h4 : (s ^^^ t) ^^^ t = t := by rw [h3, Nat.zero_xor]
    rwa [Nat.xor_assoc, Nat.xor_self, Nat.xor_zero] at h4

/-- What lies above the lowest bit comes down by one, and nothing else happens. -/
theorem crcBit_even (x : Nat) : crcBit (2 * x) = x := by
  unfold crcBit
  simp [show 2 * x / 2 = x by omega]
theorem crcBits_up : ∀ (n x : Nat), crcBits n (2 ^ n * x) = x
  | 0, x => by simp [crcBits]
  | n + 1, x => by
    simp only [crcBits]
    rw [Nat.pow_succ, Nat.mul_comm (2 ^ n), Nat.mul_assoc, crcBit_even, crcBits_up n x]

theorem crcBits_add : ∀ (n m s : Nat), crcBits (n + m) s = crcBits m (crcBits n s)
  | 0, m, s => by simp [crcBits]
  | n + 1, m, s => by
    rw [show n + 1 + m = (n + m) + 1 by omega]
    simp only [crcBits]
    exact crcBits_add n m (crcBit s)

/-- Four bytes at once. -/
theorem four (s a b c d : Nat) :
    crcByte (crcByte (crcByte (crcByte s a) b) c) d = crcBits 32 (s ^^^ (a ^^^ (2 ^ 8 * b ^^^ (2 ^ 16 * c ^^^ 2 ^ 24 * d)))) := by
  have e1 : ∀ (n x y : Nat), crcBits n (x ^^^ 2 ^ n * y) = crcBits n x ^^^ y := fun n x y => by rw [crcBits_xor, crcBits_up]
  unfold crcByte
  rw [show (32 : Nat) = 8 + (8 + (8 + 8)) by rfl, crcBits_add, crcBits_add, crcBits_add]
  have f1 : s ^^^ (a ^^^ (2 ^ 8 * b ^^^ (2 ^ 16 * c ^^^ 2 ^ 24 * d))) = (s ^^^ a) ^^^ 2 ^ 8 * (b ^^^ (2 ^ 8 * c ^^^ 2 ^ 16 * d)) := by
    have e2 : ∀ x y : Nat, 2 ^ 8 * (x ^^^ y) = 2 ^ 8 * x ^^^ 2 ^ 8 * y := fun x y => by
      have := Nat.shiftLeft_xor_distrib (a := x) (b := y) (i := 8)
      simpa [Nat.shiftLeft_eq, Nat.mul_comm] using this
    rw [e2, e2, ← Nat.mul_assoc, ← Nat.mul_assoc, ← Nat.pow_add, ← Nat.pow_add, Nat.xor_assoc]
  have f2 : b ^^^ (2 ^ 8 * c ^^^ 2 ^ 16 * d) = b ^^^ 2 ^ 8 * (c ^^^ 2 ^ 8 * d) := by
    have e2 : ∀ x y : Nat, 2 ^ 8 * (x ^^^ y) = 2 ^ 8 * x ^^^ 2 ^ 8 * y := fun x y => by
      have := Nat.shiftLeft_xor_distrib (a := x) (b := y) (i := 8)
      simpa [Nat.shiftLeft_eq, Nat.mul_comm] using this
    rw [e2, ← Nat.mul_assoc, ← Nat.pow_add]
  rw [f1, e1, f2, ← Nat.xor_assoc, e1, ← Nat.xor_assoc, e1]

end Go.Proofs.Ytkohlhnkaklnpaa.Crc

namespace Go.Proofs.Ytkohlhnkaklnpaa
open Go.RowKit

theorem hide {p : Prop} (h : p) : Hid p := h
theorem ret_int {k : IntKind} {a b : Int} (h : a = b) : Ending.returned (.int k a) = .returned (.int k b) := by rw [h]
theorem val_int {k : IntKind} {a b : Int} (h : a = b) : Value.int k a = .int k b := by rw [h]

/-- A slice of bytes that reads as l (nil, or empty, or a row of cells). -/
def Bs (w : World) (v : Value) (l : List UInt8) : Prop :=
  ∃ ao c, v = .slice ao l.length c ∧ l.length ≤ c ∧ c ≤ maxLen ∧ ∀ j (hj : j < l.length), ∃ g o, ao = some ⟨g, o, none⟩ ∧ w.cell? ⟨g, o + j, none⟩ = some (.int .u8 (l[j]).toNat)

theorem Bs.nil (w : World) : Bs w (.slice none 0 0) [] := ⟨none, 0, rfl, Nat.le_refl _, Nat.zero_le _, fun j hj => absurd hj (by simp)⟩
theorem Bs.row {w : World} {g o c : Nat} {l : List UInt8} (h1 : l.length ≤ c) (h2 : c ≤ maxLen) (h3 : ∀ j (hj : j < l.length), w.cell? ⟨g, o + j, none⟩ = some (.int .u8 (l[j]).toNat)) : Bs w (.slice (some ⟨g, o, none⟩) l.length c) l :=
  ⟨some ⟨g, o, none⟩, c, rfl, h1, h2, fun j hj => ⟨g, o, rfl, h3 j hj⟩⟩
theorem Bs.parts {w : World} {v : Value} {l : List UInt8} (h : Bs w v l) :
    (∃ ao c, v = .slice ao 0 c ∧ l = []) ∨ ∃ g o c, v = .slice (some ⟨g, o, none⟩) l.length c ∧ 0 < l.length ∧ l.length ≤ c ∧ c ≤ maxLen ∧ ∀ j (hj : j < l.length), w.cell? ⟨g, o + j, none⟩ = some (.int .u8 (l[j]).toNat) := by
  obtain ⟨ao, c, rfl, h1, h2, h3⟩ := h
  by_cases h0 : 0 < l.length
  · obtain ⟨g, o, rfl, _⟩ := h3 0 h0
    refine .inr ⟨g, o, c, rfl, h0, h1, h2, fun j hj => ?_⟩
    obtain ⟨g', o', e, hc⟩ := h3 j hj
    simp at e
    obtain ⟨rfl, rfl⟩ := e
    exact hc
  · obtain rfl : l = [] := List.eq_nil_of_length_eq_zero (by omega)
    exact .inl ⟨ao, c, rfl, rfl⟩
/-- What is below the first new block reads on. -/
theorem Bs.below {B : Nat} {w w' : World} {v : Value} {l : List UInt8} (h : Bs w v l) (hb : Below B w w') (hB : w.heap.size ≤ B) : Bs w' v l := by
  obtain ⟨ao, c, rfl, h1, h2, h3⟩ := h
  refine ⟨ao, c, rfl, h1, h2, fun j hj => ?_⟩
  obtain ⟨g, o, e, hc⟩ := h3 j hj
  have hlt := World.block_lt_of_cell? w _ hc
  exact ⟨g, o, e, (hb.cell (p := ⟨g, o + j, none⟩) (by exact Nat.lt_of_lt_of_le hlt hB)).trans hc⟩
/-- A block of the call's own, whole. -/
abbrev Row (w : World) (g : Nat) (l : List UInt8) : Prop := w.heap[g]? = some (.cells (Lib.byteCells l).toArray 5 (0, 0))
theorem Row.cell {w : World} {g : Nat} {l : List UInt8} (h : Row w g l) (j : Nat) (hj : j < l.length) : w.cell? ⟨g, j, none⟩ = some (.int .u8 (l[j]).toNat) := by
  rw [cell_of_row w g j _ 5 (0, 0) h]
  simp [Lib.byteCells, hj]
theorem Row.frozen {w : World} {g : Nat} {l : List UInt8} (h : Row w g l) (j : Nat) : w.frozen? ⟨g, j, none⟩ = false := frozen_of_row w g j _ 5 h
theorem Row.bs {w : World} {g n c : Nat} {l : List UInt8} (h : Row w g l) (hn : n ≤ l.length) (hc : n ≤ c) (hm : c ≤ maxLen) : Bs w (.slice (some ⟨g, 0, none⟩) n c) (l.take n) := by
  have e : (l.take n).length = n := by simp; omega
  have := Bs.row (w := w) (g := g) (o := 0) (c := c) (l := l.take n) (by omega) hm (fun j hj => by
    rw [e] at hj
    have := h.cell j (by omega)
    simpa using this)
  rwa [e] at this
theorem Row.set {w : World} {g : Nat} {l : List UInt8} (h : Row w g l) (j : Nat) (b : UInt8) : Row (w.setCell ⟨g, j, none⟩ (.int .u8 b.toNat)) g (l.set j b) := by
  have := heap_setCell_same w g j _ 5 (.int .u8 b.toNat) h
  unfold Row
  rw [this]
  simp [Lib.byteCells, List.map_set]
theorem Row.below {B : Nat} {w w' : World} {g : Nat} {l : List UInt8} (h : Row w g l) (hb : Below B w w') (hB : g < B) : Row w' g l := (hb.block g hB).trans h
theorem Row.lt {w : World} {g : Nat} {l : List UInt8} (h : Row w g l) : g < w.heap.size := (Array.getElem?_eq_some_iff.1 h).1

/-! ### Sum -/
theorem bit_step (s : Nat) (h : s < 4294967296) : bits .xor .u32 ((s : Int) / 2) (2197175160 * bits .and .u32 (s : Int) 1 % 4294967296) = ((Crc.crcBit s : Nat) : Int) := by
  have h1 : bits .and .u32 (s : Int) 1 = ((s % 2 : Nat) : Int) := by
    rw [show (1 : Int) = ((1 : Nat) : Int) by rfl, u32_and_nat s 1 h (by omega), nat_mask1]
  rw [h1]
  have h2 : (2197175160 * ((s % 2 : Nat) : Int) % 4294967296) = ((Crc.poly * (s % 2) : Nat) : Int) := by
    unfold Crc.poly
    omega
  rw [h2, show ((s : Int) / 2) = ((s / 2 : Nat) : Int) by omega]
  exact u32_xor_nat _ _ (by omega) (Crc.poly_mul s)
theorem all_turned (s : Nat) (h : s < 4294967296) : bits .xor .u32 IntKind.u32.max (s : Int) = ((s ^^^ 4294967295 : Nat) : Int) := by
  rw [Nat.xor_comm, show IntKind.u32.max = ((4294967295 : Nat) : Int) by rfl]
  exact u32_xor_nat _ _ (by omega) h

set_option maxHeartbeats 1000000 in
set_option maxRecDepth 100000 in
theorem sum_some (g o c : Nat) (l : List UInt8) (w : World) (hl : l.length ≤ maxLen) (hcell : ∀ j (hj : j < l.length), w.cell? ⟨g, o + j, none⟩ = some (.int .u8 (l[j]).toNat)) :
    Calls Try.prog 36 #[.slice (some ⟨g, o, none⟩) l.length c] w fun e w' => e = .returned (.int .u32 (Crc.crc l)) ∧ w' = w := by
  unfold maxLen at hl
  go_enter Try.func36, Try.ntmps36
  go_wp2
  go_loop [3, 7] (fun s i => ∃ k : Nat, k ≤ l.length ∧ i = .int .i64 k ∧ s = .int .u32 (Crc.crcFold 4294967295 (l.take k))) (fun _ i => l.length - (intOf i).toNat)
  case atStart => exact ⟨0, Nat.zero_le _, rfl, rfl⟩
  case round =>
    obtain ⟨k, hk, rfl, rfl⟩ := hrel
    have hs := Crc.crcFold_lt (l.take k) (s := 4294967295) (by omega)
    by_cases hlt : k < l.length
    · have hc := hcell k hlt
      have hb := (l[k]).toNat_lt
      have hx : bits .xor .u32 (Crc.crcFold 4294967295 (l.take k) : Int) (l[k].toNat : Int) = ((Crc.crcFold 4294967295 (l.take k) ^^^ l[k].toNat : Nat) : Int) := u32_xor_nat _ _ hs (by omega)
      have HT : Hid (Crc.crcFold 4294967295 (l.take (k + 1)) = Crc.crcByte (Crc.crcFold 4294967295 (l.take k)) l[k].toNat) := by
        rw [List.take_succ_eq_append_getElem hlt]
        exact Crc.crcFold_snoc _ _ _
      go_wp2
      generalize hS : Crc.crcFold 4294967295 (l.take k) = S at *
      clear hS
      go_loop [3, 17] (fun s i => ∃ j : Nat, j ≤ 8 ∧ i = .int .i64 j ∧ s = .int .u32 (Crc.crcBits j (S ^^^ l[k].toNat))) (fun _ i => 8 - (intOf i).toNat)
      case atStart => exact ⟨0, Nat.zero_le _, rfl, rfl⟩
      case round =>
        obtain ⟨j, hj, rfl, rfl⟩ := hrel
        have hz := Crc.crcBits_lt j (Crc.xor_lt hs (show l[k].toNat < 4294967296 by omega))
        by_cases hj8 : j < 8
        · go_wp2
          refine ⟨⟨j + 1, by omega, by go_num, val_int ?_⟩, by simp [intOf]; omega⟩
          rw [bit_step _ hz, Crc.crcBits_succ]
        · go_wp2
          refine ⟨⟨k + 1, by omega, by go_num, val_int ?_⟩, by simp [intOf]; omega⟩
          obtain rfl : j = 8 := by omega
          rw [HT.out]
          rfl
    · go_wp2
      go_ret
      exact ⟨ret_int (by rw [List.take_of_length_le (by omega)] at hs ⊢; exact all_turned _ hs), rfl⟩

set_option maxHeartbeats 1000000 in
set_option maxRecDepth 100000 in
theorem sum_nil (ao : Option Addr) (c : Nat) (w : World) :
    Calls Try.prog 36 #[.slice ao 0 c] w fun e w' => e = .returned (.int .u32 (Crc.crc [])) ∧ w' = w := by
  go_enter Try.func36, Try.ntmps36
  go_wp2
  refine wp_loop_rounds 1 ?_
  rw [rounds_succ]
  go_wp2
  go_ret
  exact ⟨ret_int (by decide), rfl⟩

theorem sum_any (v : Value) (l : List UInt8) (w : World) (h : Bs w v l) :
    Calls Try.prog 36 #[v] w fun e w' => e = .returned (.int .u32 (Crc.crc l)) ∧ w' = w := by
  rcases h.parts with ⟨ao, c, rfl, rfl⟩ | ⟨g, o, c, rfl, _, h1, h2, h3⟩
  · exact sum_nil ao c w
  · exact sum_some g o c l w (by omega) h3
end Go.Proofs.Ytkohlhnkaklnpaa

/-
  A1 TO A3 READ, AS PLAIN MATHEMATICS: no program in this text. 'getN': what Get tells of bytes. 'unzig': back from zig-zag.
-/
namespace Go.Proofs.Ytkohlhnkaklnpaa.Dec

def getFrom : Nat → Nat → List UInt8 → Nat × Nat
  | _, _, [] => (0, 0)
  | k, acc, b :: r =>
    if 10 ≤ k then (0, 0)
    else if 128 ≤ b.toNat then getFrom (k + 1) (acc + b.toNat % 128 * 2 ^ (7 * k)) r
    else if (0 < k ∧ b.toNat = 0) ∨ (k = 9 ∧ 1 < b.toNat) then (0, 0)
    else (acc + b.toNat * 2 ^ (7 * k), k + 1)
def getN (l : List UInt8) : Nat × Nat := getFrom 0 0 l

theorem getFrom_nil (k acc : Nat) : getFrom k acc [] = (0, 0) := by unfold getFrom; rfl
theorem getFrom_ten (k acc : Nat) (r : List UInt8) (h : 10 ≤ k) : getFrom k acc r = (0, 0) := by
  cases r with
  | nil => exact getFrom_nil _ _
  | cons b r => unfold getFrom; rw [if_pos h]
theorem getFrom_more {k acc : Nat} {b : UInt8} {r : List UInt8} (hk : k < 10) (hb : 128 ≤ b.toNat) : getFrom k acc (b :: r) = getFrom (k + 1) (acc + b.toNat % 128 * 2 ^ (7 * k)) r := by
  rw [getFrom, if_neg (by omega), if_pos hb]
theorem getFrom_bad {k acc : Nat} {b : UInt8} {r : List UInt8} (hk : k < 10) (hb : b.toNat < 128) (h : (0 < k ∧ b.toNat = 0) ∨ (k = 9 ∧ 1 < b.toNat)) : getFrom k acc (b :: r) = (0, 0) := by
  rw [getFrom, if_neg (by omega), if_neg (by omega), if_pos h]
theorem getFrom_last {k acc : Nat} {b : UInt8} {r : List UInt8} (hk : k < 10) (hb : b.toNat < 128) (h : ¬ ((0 < k ∧ b.toNat = 0) ∨ (k = 9 ∧ 1 < b.toNat))) : getFrom k acc (b :: r) = (acc + b.toNat * 2 ^ (7 * k), k + 1) := by
  rw [getFrom, if_neg (by omega), if_neg (by omega), if_neg h]

/-- What is read lies within the bytes, and fits 64 bits. -/
theorem getFrom_bounds : ∀ (r : List UInt8) (k acc : Nat), k ≤ 10 → acc < 2 ^ (7 * k) → (getFrom k acc r).1 < 18446744073709551616 ∧ (getFrom k acc r).2 ≤ k + r.length ∧ (getFrom k acc r).2 ≤ 10
  | [], k, acc, hk, _ => by rw [getFrom_nil]; exact ⟨by simp, Nat.zero_le _, Nat.zero_le _⟩
  | b :: r, k, acc, hk, ha => by
    by_cases h10 : 10 ≤ k
    · rw [getFrom_ten k acc _ h10]; exact ⟨by simp, Nat.zero_le _, Nat.zero_le _⟩
    have hpow : 2 ^ (7 * (k + 1)) = 128 * 2 ^ (7 * k) := by rw [show 7 * (k + 1) = 7 * k + 7 by omega, Nat.pow_add, Nat.mul_comm]
    by_cases hb : 128 ≤ b.toNat
    · rw [getFrom_more (by omega) hb]
      have hlt : acc + b.toNat % 128 * 2 ^ (7 * k) < 2 ^ (7 * (k + 1)) := by
        have h1 : b.toNat % 128 ≤ 127 := by omega
        have h2 := Nat.mul_le_mul_right (2 ^ (7 * k)) h1
        omega
      obtain ⟨h1, h2, h3⟩ := getFrom_bounds r (k + 1) _ (by omega) hlt
      exact ⟨h1, by simp; omega, h3⟩
    · by_cases hbad : (0 < k ∧ b.toNat = 0) ∨ (k = 9 ∧ 1 < b.toNat)
      · rw [getFrom_bad (by omega) (by omega) hbad]; exact ⟨by simp, Nat.zero_le _, Nat.zero_le _⟩
      · rw [getFrom_last (by omega) (by omega) hbad]
        refine ⟨?_, by simp <;> omega, by simp; try omega⟩
        show acc + b.toNat * 2 ^ (7 * k) < 18446744073709551616
        by_cases h9 : k = 9
        · subst h9
          have hb1 : b.toNat ≤ 1 := by omega
          have h2 := Nat.mul_le_mul_right (2 ^ (7 * 9)) hb1
          have e : 2 ^ (7 * 9) = 9223372036854775808 := by decide
          omega
        · have h1 : b.toNat ≤ 127 := by omega
          have h2 := Nat.mul_le_mul_right (2 ^ (7 * k)) h1
          have h3 : 2 ^ (7 * (k + 1)) ≤ 2 ^ 63 := Nat.pow_le_pow_right (by omega) (by omega)
          have e : 2 ^ 63 = 9223372036854775808 := by decide
          omega
theorem getN_lt (l : List UInt8) : (getN l).1 < 18446744073709551616 := (getFrom_bounds l 0 0 (by omega) (by simp)).1
theorem getN_le (l : List UInt8) : (getN l).2 ≤ l.length := by have := (getFrom_bounds l 0 0 (by omega) (by simp)).2.1; simpa [getN] using this
theorem getN_ten (l : List UInt8) : (getN l).2 ≤ 10 := (getFrom_bounds l 0 0 (by omega) (by simp)).2.2
/-- Where there is none, the number is 0. -/
theorem getFrom_none : ∀ (r : List UInt8) (k acc : Nat), (getFrom k acc r).2 = 0 → (getFrom k acc r).1 = 0
  | [], k, acc, _ => by rw [getFrom_nil]
  | b :: r, k, acc, h => by
    by_cases h10 : 10 ≤ k
    · rw [getFrom_ten k acc _ h10]
    by_cases hb : 128 ≤ b.toNat
    · rw [getFrom_more (by omega) hb] at h ⊢
      exact getFrom_none r _ _ h
    · by_cases hbad : (0 < k ∧ b.toNat = 0) ∨ (k = 9 ∧ 1 < b.toNat)
      · rw [getFrom_bad (by omega) (by omega) hbad]
      · rw [getFrom_last (by omega) (by omega) hbad] at h
        simp at h
theorem getN_none {l : List UInt8} (h : (getN l).2 = 0) : (getN l).1 = 0 := getFrom_none l 0 0 h

/-- Zig-zag undone. -/
def unzig (n : Nat) : Int := if n % 2 = 0 then ((n / 2 : Nat) : Int) else -((n / 2 : Nat) : Int) - 1
theorem unzig_zigzag (x : Int) : unzig (Lib.zigzag x) = x := by unfold unzig Lib.zigzag; split <;> split <;> omega
theorem zigzag_unzig (n : Nat) : Lib.zigzag (unzig n) = n := by unfold unzig Lib.zigzag; split <;> split <;> omega
theorem unzig_bounds {n : Nat} (h : n < 18446744073709551616) : -9223372036854775808 ≤ unzig n ∧ unzig n ≤ 9223372036854775807 := by unfold unzig; split <;> omega

end Go.Proofs.Ytkohlhnkaklnpaa.Dec
