/-
  The table of instructions, and programs, as plain values.
-/
import Derived.Test.YtpolajoephjdhaaGreatDoorCoA
namespace Go.Proofs.YtpolajoephjdhaaGreatDoor
open Go.RowKit
set_option maxRecDepth 100000
def words : List (List UInt8) := [[], [112, 117, 115, 104], [108, 111, 97, 100], [115, 116, 111, 114, 101], [102, 105, 101, 108, 100], [112, 117, 116], [97, 100, 100], [115, 117, 98], [109, 117, 108], [100, 105, 118], [114, 101, 109], [110, 101, 103], [101, 113], [110, 101], [108, 116], [108, 101], [103, 116], [103, 101], [110, 111, 116], [106, 117, 109, 112], [122, 101, 114, 111], [99, 97, 108, 108], [114, 101, 116], [115, 116, 111, 112], [115, 116, 101, 112], [101, 109, 105, 116], [112, 97, 114, 116], [115, 112, 97, 119, 110], [103, 105, 118, 101], [116, 97, 107, 101], [100, 105, 101], [114, 97, 110, 100], [116, 105, 99, 107], [109, 101], [105, 110, 112, 117, 116], [104, 97, 115], [109, 105, 110], [109, 97, 120], [97, 98, 115], [100, 114, 111, 112]]
def nums : List Bool := [false, true, true, true, true, true, false, false, false, false, false, false, false, false, false, false, false, false, false, true, true, true, false, false, false, false, true, false, true, true, false, false, false, false, false, true, false, false, false, false]
def taks : List Nat := [0, 0, 0, 1, 0, 1, 2, 2, 2, 2, 2, 1, 2, 2, 2, 2, 2, 2, 1, 0, 1, 0, 1, 0, 0, 2, 0, 0, 0, 0, 0, 1, 0, 0, 2, 0, 2, 2, 1, 1]
def putl : List Nat := [0, 1, 1, 0, 1, 0, 1, 1, 1, 1, 1, 1, 1, 1, 1, 1, 1, 1, 1, 0, 0, 1, 0, 0, 0, 0, 0, 0, 0, 0, 0, 1, 1, 1, 1, 1, 1, 1, 1, 0]
def wdL (k : Nat) : List UInt8 := words.getD k []
def wd (k : Nat) : ByteArray := ⟨(wdL k).toArray⟩
def numb (k : Nat) : Bool := nums.getD k false
def tak (k : Nat) : Nat := taks.getD k 0
def pts (k : Nat) : Nat := putl.getD k 0
/-- The row of an op; 0, if it is none. -/
def opk (op : Int) : Nat := if 1 ≤ op ∧ op ≤ 39 then op.toNat else 0
theorem opk_lt (op : Int) : opk op < 40 := by unfold opk; split <;> omega
theorem opk_in {op : Int} (h : 1 ≤ op ∧ op ≤ 39) : opk op = op.toNat := by unfold opk; rw [if_pos h]
theorem opk_out {op : Int} (h : ¬ (1 ≤ op ∧ op ≤ 39)) : opk op = 0 := by unfold opk; rw [if_neg h]
/-- An instruction, a routine, a system, a program. -/
structure Ins where
  op : Int
  a : Int
structure Rt where
  name : ByteArray
  pa : Int
  lo : Int
  code : List Ins
structure Sy where
  wi : List Int
  wo : List Int
  re : List Int
  wr : List Int
  run : Rt
structure Pg where
  sys : List Sy
  fns : List Rt
def isIns (i : Ins) : Bool := decide (1 ≤ i.op ∧ i.op ≤ 39) && (i.a == 0 || numb (opk i.op))
def rtOk (r : Rt) : Bool := decide (1 ≤ r.name.size ∧ r.name.size ≤ 16) && decide (0 ≤ r.pa ∧ r.pa ≤ 4) && decide (r.pa ≤ r.lo ∧ r.lo ≤ 32) && decide (r.code.length ≤ 2000) && r.code.all isIns
def seen (b : UInt8) : Bool := decide (33 ≤ b.toNat ∧ b.toNat ≤ 126)
def lstOk (r : Rt) : Bool := rtOk r && r.name.data.toList.all seen
/-- A set of kinds, behind a last one. -/
def setFrom : Int → List Int → Bool
  | _, [] => true
  | last, k :: l => decide (last < k ∧ k ≤ 12) && setFrom k l
def setOk (l : List Int) : Bool := setFrom 0 l
def sysOk (s : Sy) : Bool := setOk s.wi && setOk s.wo && setOk s.re && setOk s.wr && rtOk s.run
def sizeOf (p : Pg) : Nat := (p.sys.map fun s => s.run.code.length).sum + (p.fns.map fun r => r.code.length).sum
def mayOk (p : Pg) : Bool := decide (p.sys.length ≤ 16 ∧ p.fns.length ≤ 16) && p.sys.all sysOk && p.fns.all rtOk && decide (sizeOf p ≤ 2000)
end Go.Proofs.YtpolajoephjdhaaGreatDoor
