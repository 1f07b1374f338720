/-
  Records as lists of bytes: what Put makes, what Get tells. No program in this text.
-/
import Derived.Test.YtkohlhnkaklnpaaDec
import Derived.Test.YtkohlhnkaklnpaaCrc
namespace Go.Proofs.Ytkohlhnkaklnpaa

namespace Rc
/-- The mark and the number. -/
def head (n : Nat) : List UInt8 := 130 :: Lib.uvarint n
/-- A number's four bytes, the lowest first. -/
def four (c : Nat) : List UInt8 := (List.range 4).map fun i => UInt8.ofNat (c / 2 ^ (8 * i))
def sum4 (l : List UInt8) : List UInt8 := four (Crc.crc l)
def made (d : List UInt8) : List UInt8 := head d.length ++ (sum4 (head d.length ++ d) ++ d)
def fits (d : List UInt8) : Prop := d ≠ [] ∧ d.length ≤ 100000
/-- The number that stands behind the first byte; how many bytes it has. -/
def num (b : List UInt8) : Nat := (Dec.getN (b.drop 1)).1
def siz (b : List UInt8) : Nat := (Dec.getN (b.drop 1)).2
/-- All parts of a record stand there, whatever the sum. -/
def whole (b : List UInt8) : Prop := b[0]? = some 130 ∧ num b ≠ 0 ∧ num b ≤ 100000 ∧ 1 + siz b + 4 + num b ≤ b.length
def wholeB (b : List UInt8) : Bool := b[0]? == some 130 && (num b != 0 && (decide (num b ≤ 100000) && decide (1 + siz b + 4 + num b ≤ b.length)))
theorem wholeB_iff (b : List UInt8) : wholeB b = true ↔ whole b := by simp [wholeB, whole]
def data (b : List UInt8) : List UInt8 := (b.drop (1 + siz b + 4)).take (num b)
/-- Get: the data, and how many bytes; 0: there is none. -/
def get (b : List UInt8) : List UInt8 × Nat :=
  if wholeB b = true ∧ sum4 (b.take (1 + siz b) ++ data b) = (b.drop (1 + siz b)).take 4 then (data b, 1 + siz b + 4 + num b) else ([], 0)
theorem get_pos {b : List UInt8} (h : whole b) (hs : sum4 (b.take (1 + siz b) ++ data b) = (b.drop (1 + siz b)).take 4) : get b = (data b, 1 + siz b + 4 + num b) := by
  unfold get
  rw [if_pos ⟨(wholeB_iff b).2 h, hs⟩]
theorem get_neg {b : List UInt8} (h : ¬ (whole b ∧ sum4 (b.take (1 + siz b) ++ data b) = (b.drop (1 + siz b)).take 4)) : get b = ([], 0) := by
  unfold get
  rw [if_neg (fun e => h ⟨(wholeB_iff b).1 e.1, e.2⟩)]
theorem num_lt (b : List UInt8) : num b < 18446744073709551616 := Dec.getN_lt _
theorem siz_ten (b : List UInt8) : siz b ≤ 10 := Dec.getN_ten _
theorem siz_pos {b : List UInt8} (h : num b ≠ 0) : siz b ≠ 0 := fun e => h (Dec.getN_none e)
theorem data_length {b : List UInt8} (h : whole b) : (data b).length = num b := by
  have := h.2.2.2
  simp [data]
  omega
theorem four_length (c : Nat) : (four c).length = 4 := by simp [four]
theorem sum4_length (l : List UInt8) : (sum4 l).length = 4 := four_length _
theorem head_length (n : Nat) : (head n).length = 1 + (Lib.uvarint n).length := by simp [head]; omega
theorem made_length (d : List UInt8) : (made d).length = 1 + (Lib.uvarint d.length).length + 4 + d.length := by
  simp only [made, List.length_append, head_length, sum4_length]
  omega
end Rc
end Go.Proofs.Ytkohlhnkaklnpaa
