/-
  Rows of numbers and of entities in memory; sets of blocks: what all texts of this seat share.
-/
import Derived.Test.YtiolaenkfhcajaaGreatTSet
import Derived.Test.YtiolaenkfhcajaaGreatProg
import Derived.WalkKit
import Derived.WalkSpells
import Derived.WalkLawsBesides
import Derived.Laws.CopyOwn
import Derived.Laws.AppendOwnNone
import Derived.Maps.AppendAt
import Derived.Laws.OwnMore
import Derived.Below
import Derived.RowKit
import Derived.Deep.DeepCutAuto
import Derived.Deep.RegionWith
import Derived.Deep.RegionLaw
import Derived.Deep.RegionHeld3
import Derived.Deep.QuietTactic
import Derived.Deep.CutBlock
import Derived.Deep.AppendLies
import Derived.BigQuiet
import Derived.BigRegion
import Derived.OrdersHeld
namespace Go.Proofs.YtiolaenkfhcajaaGreat
open Go.RowKit
set_option maxRecDepth 100000
theorem info3 : (Tryz.prog.info? 3).map (fun i => (i.zero, i.size, i.bytes)) = some (some (.int .i64 0), 1, 8) := by kernel_rfl
theorem info41 : (Tryz.prog.info? 36).map (fun i => (i.zero, i.size, i.bytes)) = some (some (.agg #[.int .i64 0, .int .i64 0]), 2, 16) := by kernel_rfl

/-! ### What changes -/
section
variable {w w' w2 : World} {S S' : Nat → Prop}
end
/-! ### Rows of numbers, rows of entities -/
def ic (l : List Nat) : List Value := l.map fun n : Nat => .int .i64 (n : Int)
def ec : List (Nat × Nat) → List Value
  | [] => []
  | p :: t => .int .i64 (p.1 : Int) :: .int .i64 (p.2 : Int) :: ec t
theorem ic_len (l : List Nat) : (ic l).length = l.length := by simp [ic]
theorem ic_append (a b : List Nat) : ic (a ++ b) = ic a ++ ic b := by simp [ic]
theorem ic_set (l : List Nat) (i x : Nat) : (ic l).set i (.int .i64 (x : Int)) = ic (l.set i x) := by simp [ic, List.map_set]
theorem ic_at (l : List Nat) (i : Nat) (h : i < l.length) : (ic l)[i]? = some (.int .i64 (l[i] : Int)) := by simp [ic, h]
theorem ec_len : ∀ l : List (Nat × Nat), (ec l).length = l.length * 2
  | [] => rfl
  | p :: t => by simp [ec, ec_len t]; omega
theorem ec_append : ∀ a b : List (Nat × Nat), ec (a ++ b) = ec a ++ ec b
  | [], _ => rfl
  | h :: t, b => by simp [ec, ec_append t b]
theorem ec_at : ∀ (l : List (Nat × Nat)) (i : Nat) (h : i < l.length), (ec l)[i * 2]? = some (.int .i64 (l[i].1 : Int)) ∧ (ec l)[i * 2 + 1]? = some (.int .i64 (l[i].2 : Int))
  | p :: t, 0, _ => ⟨rfl, rfl⟩
  | p :: t, i + 1, h => by
    have := ec_at t i (by simpa using h)
    rw [show (i + 1) * 2 = i * 2 + 1 + 1 by omega]
    simpa [ec] using this
theorem ec_set : ∀ (l : List (Nat × Nat)) (i a b : Nat), i < l.length → ((ec l).set (i * 2) (.int .i64 (a : Int))).set (i * 2 + 1) (.int .i64 (b : Int)) = ec (l.set i (a, b))
  | p :: t, 0, a, b, _ => rfl
  | p :: t, i + 1, a, b, h => by
    have := ec_set t i a b (by simpa using h)
    rw [show (i + 1) * 2 = i * 2 + 1 + 1 by omega]
    simpa [ec] using this
theorem ic_one (l : List Nat) : ∀ u ∈ ic l, u.oneCell' = true := by
  intro u hu
  simp only [ic, List.mem_map] at hu
  obtain ⟨b, _, rfl⟩ := hu
  rfl
theorem ec_one : ∀ (l : List (Nat × Nat)), ∀ u ∈ ec l, u.oneCell' = true
  | p :: t, u, hu => by
    simp only [ec, List.mem_cons] at hu
    rcases hu with rfl | rfl | hu
    · rfl
    · rfl
    · exact ec_one t u hu
/-- Numbers that are owned, one of them. -/
theorem own_int {w : World} {B g n c : Nat} {l : List Nat} (h : w.ownsRow B 3 1 (.slice (some ⟨g, 0, none⟩) n c) n (ic l)) (i : Nat) (hi : i < l.length) : w.cell? ⟨g, i, none⟩ = some (.int .i64 (l[i] : Int)) := by
  have hl := h.1
  rw [ic_len] at hl
  rw [h.cellAt i (by omega), ic_at l i hi]
theorem i_own_ent {w : World} {B g n c : Nat} {l : List (Nat × Nat)} (h : w.ownsRow B 36 2 (.slice (some ⟨g, 0, none⟩) n c) n (ec l)) (i : Nat) (hi : i < l.length) :
    w.cell? ⟨g, i * 2, none⟩ = some (.int .i64 (l[i].1 : Int)) ∧ w.cell? ⟨g, i * 2 + 1, none⟩ = some (.int .i64 (l[i].2 : Int)) := by
  have hl := h.1
  rw [ec_len] at hl
  rw [h.cellAt (i * 2) (by omega), h.cellAt (i * 2 + 1) (by omega)]
  exact ec_at l i hi
theorem own_int_set {w : World} {B g n c : Nat} {l : List Nat} (h : w.ownsRow B 3 1 (.slice (some ⟨g, 0, none⟩) n c) n (ic l)) (i x : Nat) : (w.setCell ⟨g, i, none⟩ (.int .i64 (x : Int))).ownsRow B 3 1 (.slice (some ⟨g, 0, none⟩) n c) n (ic (l.set i x)) := by
  rw [← ic_set]
  exact (h.stored i _).1
theorem own_ent_set {w : World} {B g n c : Nat} {l : List (Nat × Nat)} (h : w.ownsRow B 36 2 (.slice (some ⟨g, 0, none⟩) n c) n (ec l)) (i a b : Nat) (hi : i < l.length) : ((w.setCell ⟨g, i * 2, none⟩ (.int .i64 (a : Int))).setCell ⟨g, i * 2 + 1, none⟩ (.int .i64 (b : Int))).ownsRow B 36 2 (.slice (some ⟨g, 0, none⟩) n c) n (ec (l.set i (a, b))) := by
  rw [← ec_set l i a b hi]
  exact ((h.stored (i * 2) _).1.stored (i * 2 + 1) _).1
end Go.Proofs.YtiolaenkfhcajaaGreat
