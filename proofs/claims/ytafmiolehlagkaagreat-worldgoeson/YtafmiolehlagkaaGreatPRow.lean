/-
  A4, AS PLAIN MATHEMATICS: the three forms of a row of numbers, and the one that is taken. No program in this text.
-/
import Derived.Lib.Zigzag
import Derived.RowKit
namespace Go.Proofs.YtafmiolehlagkaaGreat.Pak.Rw
open Go.RowKit
set_option maxRecDepth 100000

def ivar (z : Int) : List UInt8 := Lib.uvarint (Lib.zigzag z)
/-- What the forms 0 and 1 write for the number at place i. -/
def entry (l : List Int) (i form : Nat) : Int := if form = 1 ∧ 0 < i then wrap64 (l.getD i 0 - l.getD (i - 1) 0) else l.getD i 0
def bodyTo (l : List Int) (form : Nat) : Nat → List UInt8
  | 0 => []
  | k + 1 => bodyTo l form k ++ ivar (entry l k form)
/-- Is the number at place i the last of its run? -/
def ends (l : List Int) (i : Nat) : Bool := i + 1 == l.length || l.getD i 0 != l.getD (i + 1) 0
structure RunsAt where
  bytes : List UInt8
  count : Nat
  len : Nat
def runsTo (l : List Int) : Nat → RunsAt
  | 0 => ⟨[], 0, 0⟩
  | k + 1 => if ends l k then ⟨(runsTo l k).bytes ++ (Lib.uvarint ((runsTo l k).len + 1) ++ ivar (l.getD k 0)), (runsTo l k).count + 1, 0⟩ else ⟨(runsTo l k).bytes, (runsTo l k).count, (runsTo l k).len + 1⟩
def runsB (l : List Int) : List UInt8 := Lib.uvarint (runsTo l l.length).count ++ (runsTo l l.length).bytes
def formB (l : List Int) (form : Nat) : List UInt8 := if form = 2 then runsB l else bodyTo l form l.length
def best (l : List Int) : Nat :=
  if (formB l 1).length < (formB l 0).length then (if (formB l 2).length < (formB l 1).length then 2 else 1)
  else (if (formB l 2).length < (formB l 0).length then 2 else 0)
/-- The row, as PutRow writes it. -/
def rowB (l : List Int) : List UInt8 := if l.length = 0 then [0] else Lib.uvarint l.length ++ (UInt8.ofNat (best l) :: formB l (best l))

/-- It fits an int64. -/
def Fits (z : Int) : Prop := -9223372036854775808 ≤ z ∧ z ≤ 9223372036854775807
theorem wrap64_fits (n : Int) : Fits (wrap64 n) := by unfold Fits wrap64; omega
def AllFit (l : List Int) : Prop := ∀ z ∈ l, Fits z
theorem getD_fits {l : List Int} (h : AllFit l) (i : Nat) : Fits (l.getD i 0) := by
  by_cases hi : i < l.length
  · rw [List.getD_eq_getElem?_getD, List.getElem?_eq_getElem hi]; exact h _ (List.getElem_mem hi)
  · rw [List.getD_eq_getElem?_getD, List.getElem?_eq_none (by omega)]; unfold Fits; simp
theorem entry_fits {l : List Int} (h : AllFit l) (i form : Nat) : Fits (entry l i form) := by
  unfold entry
  split
  · exact wrap64_fits _
  · exact getD_fits h i
theorem ivar_length {z : Int} (h : Fits z) : (ivar z).length ≤ 10 := Lib.uvarint_length64 (Lib.zigzag_lt h.1 h.2)
theorem bodyTo_length {l : List Int} (h : AllFit l) (form : Nat) : ∀ k, (bodyTo l form k).length ≤ 10 * k
  | 0 => by simp [bodyTo]
  | k + 1 => by
    have h1 := bodyTo_length h form k
    have h2 := ivar_length (entry_fits h k form)
    simp only [bodyTo, List.length_append]
    omega
theorem runsTo_count (l : List Int) : ∀ k, (runsTo l k).count ≤ k ∧ (runsTo l k).len ≤ k
  | 0 => by simp [runsTo]
  | k + 1 => by
    have h := runsTo_count l k
    unfold runsTo
    split <;> simp <;> omega
theorem runsTo_length {l : List Int} (h : AllFit l) : ∀ k, k < 18446744073709551616 → (runsTo l k).bytes.length ≤ 20 * k
  | 0, _ => by simp [runsTo]
  | k + 1, hk => by
    have h1 := runsTo_length h k (by omega)
    have h2 := ivar_length (getD_fits h k)
    have h3 := Lib.uvarint_length64 (x := (runsTo l k).len + 1) (by have := (runsTo_count l k).2; omega)
    unfold runsTo
    split
    · simp only [List.length_append]; omega
    · simp only; omega
theorem formB_length {l : List Int} (h : AllFit l) (hl : l.length ≤ 1048576) (form : Nat) : (formB l form).length ≤ 20 * l.length + 10 := by
  unfold formB runsB
  split
  · have h1 := runsTo_length h l.length (by omega)
    have h2 := Lib.uvarint_length64 (x := (runsTo l l.length).count) (by have := (runsTo_count l l.length).1; omega)
    simp only [List.length_append]
    omega
  · have := bodyTo_length h form l.length
    omega
theorem best_le (l : List Int) : best l ≤ 2 := by unfold best; split <;> split <;> omega

end Go.Proofs.YtafmiolehlagkaaGreat.Pak.Rw
