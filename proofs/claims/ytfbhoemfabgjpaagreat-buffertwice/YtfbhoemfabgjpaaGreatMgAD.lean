import Derived.Test.YtfbhoemfabgjpaaGreatMgAC
import Derived.Test.YtfbhoemfabgjpaaGreatProg
import Derived.WalkKit
import Derived.WalkSpells
import Derived.WalkLawsBesides
import Derived.Laws.CopyOwn
import Derived.Laws.AppendOwnNone
import Derived.Maps.AppendAt
import Derived.Laws.OwnMore
import Derived.Below
import Derived.RowKit
import Derived.Deep.DeepCutAuto
import Derived.Deep.RegionWith
import Derived.Deep.RegionLaw
import Derived.Deep.RegionHeld3
import Derived.Deep.QuietTactic
import Derived.Deep.CutBlock
import Derived.Deep.AppendLies
import Derived.BigQuiet
import Derived.BigRegion
import Derived.OrdersHeld
import Derived.Laws.ResultCell
import Derived.Lib.SliceRun
/-
  Rows of numbers and of entities in memory; sets of blocks: what all texts of this seat share.
-/
namespace Go.Proofs.YtfbhoemfabgjpaaGreat
open Go.RowKit
set_option maxRecDepth 100000
theorem info3 : (Tryz.prog.info? 3).map (fun i => (i.zero, i.size, i.bytes)) = some (some (.int .i64 0), 1, 8) := by kernel_rfl
theorem info41 : (Tryz.prog.info? 34).map (fun i => (i.zero, i.size, i.bytes)) = some (some (.agg #[.int .i64 0, .int .i64 0]), 2, 16) := by kernel_rfl

/-! ### What changes -/
section
variable {w w' w2 : World} {S S' : Nat → Prop}
end
/-! ### Rows of numbers, rows of entities -/
def ic (l : List Nat) : List Value := l.map fun n : Nat => .int .i64 (n : Int)
def ec : List (Nat × Nat) → List Value
  | [] => []
  | p :: t => .int .i64 (p.1 : Int) :: .int .i64 (p.2 : Int) :: ec t
theorem ic_len (l : List Nat) : (ic l).length = l.length := by simp [ic]
theorem ic_append (a b : List Nat) : ic (a ++ b) = ic a ++ ic b := by simp [ic]
theorem ic_set (l : List Nat) (i x : Nat) : (ic l).set i (.int .i64 (x : Int)) = ic (l.set i x) := by simp [ic, List.map_set]
theorem ic_at (l : List Nat) (i : Nat) (h : i < l.length) : (ic l)[i]? = some (.int .i64 (l[i] : Int)) := by simp [ic, h]
theorem ec_len : ∀ l : List (Nat × Nat), (ec l).length = l.length * 2
  | [] => rfl
  | p :: t => by simp [ec, ec_len t]; omega
theorem ec_append : ∀ a b : List (Nat × Nat), ec (a ++ b) = ec a ++ ec b
  | [], _ => rfl
  | h :: t, b => by simp [ec, ec_append t b]
theorem ec_at : ∀ (l : List (Nat × Nat)) (i : Nat) (h : i < l.length), (ec l)[i * 2]? = some (.int .i64 (l[i].1 : Int)) ∧ (ec l)[i * 2 + 1]? = some (.int .i64 (l[i].2 : Int))
  | p :: t, 0, _ => ⟨rfl, rfl⟩
  | p :: t, i + 1, h => by
    have := ec_at t i (by simpa using h)
    rw [show (i + 1) * 2 = i * 2 + 1 + 1 by omega]
    simpa [ec] using this
theorem ec_set : ∀ (l : List (Nat × Nat)) (i a b : Nat), i < l.length → ((ec l).set (i * 2) (.int .i64 (a : Int))).set (i * 2 + 1) (.int .i64 (b : Int)) = ec (l.set i (a, b))
  | p :: t, 0, a, b, _ => rfl
  | p :: t, i + 1, a, b, h => by
    have := ec_set t i a b (by simpa using h)
    rw [show (i + 1) * 2 = i * 2 + 1 + 1 by omega]
    simpa [ec] using this
theorem ic_one (l : List Nat) : ∀ u ∈ ic l, u.oneCell' = true := by
  intro u hu
  simp only [ic, List.mem_map] at hu
  obtain ⟨b, _, rfl⟩ := hu
  rfl
theorem ec_one : ∀ (l : List (Nat × Nat)), ∀ u ∈ ec l, u.oneCell' = true
  | p :: t, u, hu => by
    simp only [ec, List.mem_cons] at hu
    rcases hu with rfl | rfl | hu
    · rfl
    · rfl
    · exact ec_one t u hu
/-- Numbers that are owned, one of them. -/
theorem own_int {w : World} {B g n c : Nat} {l : List Nat} (h : w.ownsRow B 3 1 (.slice (some ⟨g, 0, none⟩) n c) n (ic l)) (i : Nat) (hi : i < l.length) : w.cell? ⟨g, i, none⟩ = some (.int .i64 (l[i] : Int)) := by
  have hl := h.1
  rw [ic_len] at hl
  rw [h.cellAt i (by omega), ic_at l i hi]
theorem i_own_ent {w : World} {B g n c : Nat} {l : List (Nat × Nat)} (h : w.ownsRow B 34 2 (.slice (some ⟨g, 0, none⟩) n c) n (ec l)) (i : Nat) (hi : i < l.length) :
    w.cell? ⟨g, i * 2, none⟩ = some (.int .i64 (l[i].1 : Int)) ∧ w.cell? ⟨g, i * 2 + 1, none⟩ = some (.int .i64 (l[i].2 : Int)) := by
  have hl := h.1
  rw [ec_len] at hl
  rw [h.cellAt (i * 2) (by omega), h.cellAt (i * 2 + 1) (by omega)]
  exact ec_at l i hi
theorem own_int_set {w : World} {B g n c : Nat} {l : List Nat} (h : w.ownsRow B 3 1 (.slice (some ⟨g, 0, none⟩) n c) n (ic l)) (i x : Nat) : (w.setCell ⟨g, i, none⟩ (.int .i64 (x : Int))).ownsRow B 3 1 (.slice (some ⟨g, 0, none⟩) n c) n (ic (l.set i x)) := by
  rw [← ic_set]
  exact (h.stored i _).1
theorem own_ent_set {w : World} {B g n c : Nat} {l : List (Nat × Nat)} (h : w.ownsRow B 34 2 (.slice (some ⟨g, 0, none⟩) n c) n (ec l)) (i a b : Nat) (hi : i < l.length) : ((w.setCell ⟨g, i * 2, none⟩ (.int .i64 (a : Int))).setCell ⟨g, i * 2 + 1, none⟩ (.int .i64 (b : Int))).ownsRow B 34 2 (.slice (some ⟨g, 0, none⟩) n c) n (ec (l.set i (a, b))) := by
  rw [← ec_set l i a b hi]
  exact ((h.stored (i * 2) _).1.stored (i * 2 + 1) _).1
end Go.Proofs.YtfbhoemfabgjpaaGreat

/-
  A pool in memory: its rows, and the calls that only read.
-/
namespace Go.Proofs.YtfbhoemfabgjpaaGreat
open Go.RowKit
set_option maxRecDepth 100000
/-- A pool: its block; its three rows: generations, who lives, the free row. -/
def Pm (w : World) (g n : Nat) (vg vl vf : Value) (gs fr : List Nat) (lv : List (Nat × Nat)) : Prop :=
  w.heap[g]? = some (.cells #[.int .i64 (n : Int), vg, vl, vf] 91 (0, 0)) ∧ w.ownsRow 0 3 1 vg gs.length (ic gs) ∧ w.ownsRow 0 34 2 vl lv.length (ec lv) ∧ w.ownsRow 0 3 1 vf fr.length (ic fr) ∧
  (vg.ownBlock ≠ some g ∧ vl.ownBlock ≠ some g ∧ vf.ownBlock ≠ some g) ∧ Ap vg vl ∧ Ap vg vf ∧ Ap vl vf
section
variable {w w' : World} {g n : Nat} {vg vl vf : Value} {gs fr : List Nat} {lv : List (Nat × Nat)}
theorem Pm.lt (h : Pm w g n vg vl vf gs fr lv) : g < w.heap.size := lt_of_block h.1
theorem Pm.cell (h : Pm w g n vg vl vf gs fr lv) : w.cell? ⟨g, 0, none⟩ = some (.int .i64 (n : Int)) ∧ w.cell? ⟨g, 1, none⟩ = some vg ∧ w.cell? ⟨g, 2, none⟩ = some vl ∧ w.cell? ⟨g, 3, none⟩ = some vf := by
  refine ⟨?_, ?_, ?_, ?_⟩ <;> rw [cell_of_row w g _ _ 91 (0, 0) h.1] <;> rfl
theorem Pm.frozen (h : Pm w g n vg vl vf gs fr lv) (k : Nat) : w.frozen? ⟨g, k, none⟩ = false := frozen_of_row w g k _ 91 h.1
theorem Pm.later (h : Pm w g n vg vl vf gs fr lv) (hb : Below w.heap.size w w') : Pm w' g n vg vl vf gs fr lv := by
  obtain ⟨h1, h2, h3, h4, h5⟩ := h
  exact ⟨(hb.block g (lt_of_block h1)).trans h1, own_later h2 hb, own_later h3 hb, own_later h4 hb, h5⟩
theorem Pm.frame {T : Nat → Prop} (h : Pm w g n vg vl vf gs fr lv) (hm : Mv w w' T) (h0 : ¬ T g) (h1 : ∀ k, vg.ownBlock = some k → ¬ T k) (h2 : ∀ k, vl.ownBlock = some k → ¬ T k) (h3 : ∀ k, vf.ownBlock = some k → ¬ T k) : Pm w' g n vg vl vf gs fr lv := by
  obtain ⟨a1, a2, a3, a4, a5⟩ := h
  exact ⟨hm.at a1 h0, hm.own a2 h1, hm.own a3 h2, hm.own a4 h3, a5⟩
/-- A number of its generations is written. -/
theorem Pm.set_gen {gg c : Nat} (h : Pm w g n (.slice (some ⟨gg, 0, none⟩) gs.length c) vl vf gs fr lv) (i x : Nat) : Pm (w.setCell ⟨gg, i, none⟩ (.int .i64 (x : Int))) g n (.slice (some ⟨gg, 0, none⟩) gs.length c) vl vf (gs.set i x) fr lv := by
  obtain ⟨a1, a2, a3, a4, a5, a6, a7, a8⟩ := h
  refine ⟨(heap_setCell_other w ⟨gg, i, none⟩ g _ (fun e => a5.1 (by rw [e]; rfl))).trans a1, ?_, own_set a3 (fun e => a6 gg rfl e), own_set a4 (fun e => a7 gg rfl e), a5, a6, a7, a8⟩
  rw [List.length_set]
  exact own_int_set a2 i x
/-- Who lives under a number is written. -/
theorem Pm.set_live {gl c : Nat} (h : Pm w g n vg (.slice (some ⟨gl, 0, none⟩) lv.length c) vf gs fr lv) (i a b : Nat) (hi : i < lv.length) : Pm ((w.setCell ⟨gl, i * 2, none⟩ (.int .i64 (a : Int))).setCell ⟨gl, i * 2 + 1, none⟩ (.int .i64 (b : Int))) g n vg (.slice (some ⟨gl, 0, none⟩) lv.length c) vf gs fr (lv.set i (a, b)) := by
  obtain ⟨a1, a2, a3, a4, a5, a6, a7, a8⟩ := h
  refine ⟨?_, own_set (own_set a2 (fun e => a6 gl e rfl)) (fun e => a6 gl e rfl), ?_, own_set (own_set a4 (fun e => a8 gl rfl e)) (fun e => a8 gl rfl e), a5, a6, a7, a8⟩
  · have hne : gl ≠ g := fun e => a5.2.1 (by rw [← e]; rfl)
    rw [heap_setCell_other _ ⟨gl, i * 2 + 1, none⟩ g _ (Ne.symm hne), heap_setCell_other w ⟨gl, i * 2, none⟩ g _ (Ne.symm hne)]
    exact a1
  · rw [List.length_set]
    exact own_ent_set a3 i a b hi
end
/-- A pool within a set of blocks. -/
def Pk (w : World) (S : Nat → Prop) (g n : Nat) (gs fr : List Nat) (lv : List (Nat × Nat)) : Prop := ∃ vg vl vf, Pm w g n vg vl vf gs fr lv ∧ S g ∧ In S vg ∧ In S vl ∧ In S vf
section
variable {w w' w2 : World} {S T : Nat → Prop} {g n : Nat} {gs fr : List Nat} {lv : List (Nat × Nat)}
theorem Pk.mono (h : Pk w S g n gs fr lv) (hs : ∀ k, S k → T k) : Pk w T g n gs fr lv := by
  obtain ⟨vg, vl, vf, h1, h2, h3, h4, h5⟩ := h
  exact ⟨vg, vl, vf, h1, hs g h2, h3.mono hs, h4.mono hs, h5.mono hs⟩
theorem Pk.frame (h : Pk w S g n gs fr lv) (hm : Mv w w' T) (hs : ∀ k, S k → ¬ T k) : Pk w' S g n gs fr lv := by
  obtain ⟨vg, vl, vf, h1, h2, h3, h4, h5⟩ := h
  exact ⟨vg, vl, vf, h1.frame hm (hs g h2) (fun k e => hs k (h3 k e)) (fun k e => hs k (h4 k e)) (fun k e => hs k (h5 k e)), h2, h3, h4, h5⟩
theorem Pk.later (h : Pk w S g n gs fr lv) (hb : Below w.heap.size w w') : Pk w' S g n gs fr lv := h.frame (Mv.of_below hb (fun _ => False)) (fun _ _ e => e)
theorem Pk.twice (hsz : w.heap.size ≤ w'.heap.size) (h : Pk w2 (Nw w' (Nw w S)) g n gs fr lv) : Pk w2 (Nw w S) g n gs fr lv := h.mono (Nw.twice hsz)
end

/-! ### What it tells -/
/-- Who lives, of what State tells. -/
def on (gs fr : List Nat) (i : Nat) : Bool := decide (gs.getD i 0 ≤ 1000000) && !fr.contains i
def lvOf (gs fr : List Nat) : List (Nat × Nat) := (List.range gs.length).map fun i => if on gs fr i then (i, gs.getD i 0) else (0, 0)
theorem lvOf_len (gs fr : List Nat) : (lvOf gs fr).length = gs.length := by simp [lvOf]
theorem lvOf_at (gs fr : List Nat) (i : Nat) (h : i < gs.length) : (lvOf gs fr)[i]'(by rw [lvOf_len]; exact h) = if on gs fr i then (i, gs.getD i 0) else (0, 0) := by simp [lvOf]
/-- What may be told. -/
def Ok (n : Nat) (gs fr : List Nat) : Prop := 1 ≤ n ∧ n ≤ 200 ∧ gs.length ≤ n ∧ (∀ x ∈ gs, 1 ≤ x ∧ x ≤ 1000001) ∧ fr.Nodup ∧ ∀ i ∈ fr, i < gs.length ∧ gs.getD i 0 ≤ 999999
theorem Ok.gen {n : Nat} {gs fr : List Nat} (h : Ok n gs fr) (i : Nat) (hi : i < gs.length) : 1 ≤ gs.getD i 0 ∧ gs.getD i 0 ≤ 1000001 := by
  have := h.2.2.2.1 gs[i] (List.getElem_mem hi)
  simpa [hi] using this
/-- A pool that is whole. -/
def Pl (w : World) (S : Nat → Prop) (g n : Nat) (gs fr : List Nat) : Prop := Pk w S g n gs fr (lvOf gs fr) ∧ Ok n gs fr
section
variable {w w' : World} {S T : Nat → Prop} {g n : Nat} {gs fr : List Nat}
theorem Pl.mono (h : Pl w S g n gs fr) (hs : ∀ k, S k → T k) : Pl w T g n gs fr := ⟨h.1.mono hs, h.2⟩
theorem Pl.frame (h : Pl w S g n gs fr) (hm : Mv w w' T) (hs : ∀ k, S k → ¬ T k) : Pl w' S g n gs fr := ⟨h.1.frame hm hs, h.2⟩
theorem Pl.later (h : Pl w S g n gs fr) (hb : Below w.heap.size w w') : Pl w' S g n gs fr := ⟨h.1.later hb, h.2⟩
end
/-- An entity's value, and whether it lives under this number. -/
def ev (p : Nat × Nat) : Value := .agg #[.int .i64 (p.1 : Int), .int .i64 (p.2 : Int)]

/-! ### Calls that read -/
set_option maxHeartbeats 1000000 in
theorem i_new_bad (x : Int) (w : World) (h : x < 1 ∨ x > 200) : Calls Tryz.prog 15 #[.int .i64 x] w fun e w' => e = .returned (.tuple #[.pointer none, .int .i64 1]) ∧ w' = w := by
  by_cases h1 : x < 1
  · go_enter Tryz.func15, Tryz.ntmps15
    go_wp2_with fail
    go_ret2
    exact ⟨rfl, rfl⟩
  · have h2 : x > 200 := by omega
    clear h
    go_enter Tryz.func15, Tryz.ntmps15
    go_wp2_with fail
    go_ret2
    exact ⟨rfl, rfl⟩
set_option maxHeartbeats 1000000 in
theorem i_new_any (n : Nat) (w : World) (h1 : 1 ≤ n) (h2 : n ≤ 200) : Calls Tryz.prog 15 #[.int .i64 (n : Int)] w fun e w' => e = .returned (.tuple #[.pointer (some ⟨w.heap.size, 0, none⟩), .int .i64 0]) ∧ Pl w' (fun k => k = w.heap.size) w.heap.size n [] [] ∧ Below w.heap.size w w' := by
  have t1 : ¬ (n : Int) < 1 := by omega
  have t2 : ¬ (n : Int) > 200 := by omega
  go_enter Tryz.func15, Tryz.ntmps15
  go_wp2_with fail
  go_ret2
  refine ⟨rfl, ⟨⟨.slice none 0 0, .slice none 0 0, .slice none 0 0, ⟨heap_alloc_new w _, World.ownsRow_nil _ _ _ _, World.ownsRow_nil _ _ _ _, World.ownsRow_nil _ _ _ _, ?_, ?_, ?_, ?_⟩, rfl, In.nil _, In.nil _, In.nil _⟩, h1, h2, by simp, by simp, by simp, by simp⟩, below_alloc w _⟩
  · simp [Value.ownBlock]
  all_goals
    intro k e
    simp [Value.ownBlock] at e
end Go.Proofs.YtfbhoemfabgjpaaGreat

/-
  At and Lives.
-/
namespace Go.Proofs.YtfbhoemfabgjpaaGreat
open Go.RowKit
set_option maxRecDepth 100000
set_option maxHeartbeats 1000000 in
theorem at_neg (x : Int) (g n : Nat) (vg vl vf : Value) (gs fr : List Nat) (lv : List (Nat × Nat)) (w : World) (_h : Pm w g n vg vl vf gs fr lv) (hx : x < 0) :
    Calls Tryz.prog 58 #[.pointer (some ⟨g, 0, none⟩), .int .i64 x] w fun e w' => e = .returned (.tuple #[ev (0, 0), .int .i64 41]) ∧ Below w.heap.size w w' := by
  go_enter Tryz.func58, Tryz.ntmps58
  go_wp2_with fail
  (try simp only [Exit.inBlock, Exit.then])
  refine bodyPost_ret (v := .tuple #[ev (0, 0), .int .i64 41]) ?_ rfl ⟨rfl, below_alloc w _⟩
  rw [results_cell_tmp rfl]
  go_simp
  rfl
set_option maxHeartbeats 1000000 in
theorem at_far (x : Int) (g n : Nat) (vg vl vf : Value) (gs fr : List Nat) (lv : List (Nat × Nat)) (w : World) (h : Pm w g n vg vl vf gs fr lv) (hx : 0 ≤ x) (hx2 : (lv.length : Int) ≤ x) :
    Calls Tryz.prog 58 #[.pointer (some ⟨g, 0, none⟩), .int .i64 x] w fun e w' => e = .returned (.tuple #[ev (0, 0), .int .i64 41]) ∧ Below w.heap.size w w' := by
  have c2 : ∀ o, (w.alloc o).cell? ⟨g, 2, none⟩ = some vl := fun o => (h.later (below_alloc w o)).cell.2.2.1
  obtain ⟨ao, c, rfl⟩ := own_len h.2.2.1
  clear h
  have t1 : ¬ x < 0 := by omega
  go_enter Tryz.func58, Tryz.ntmps58
  go_wp2_with fail
  (try simp only [Exit.inBlock, Exit.then])
  refine bodyPost_ret (v := .tuple #[ev (0, 0), .int .i64 41]) ?_ rfl ⟨rfl, below_alloc w _⟩
  rw [results_cell_tmp rfl]
  go_simp
  rfl
set_option maxHeartbeats 1000000 in
theorem at_in (x g n : Nat) (vg vl vf : Value) (gs fr : List Nat) (lv : List (Nat × Nat)) (w : World) (h : Pm w g n vg vl vf gs fr lv) (hx : x < lv.length) :
    Calls Tryz.prog 58 #[.pointer (some ⟨g, 0, none⟩), .int .i64 (x : Int)] w fun e w' => e = .returned (.tuple #[ev (lv[x]), .int .i64 (if lv[x] = (0, 0) then 41 else 0)]) ∧ Below w.heap.size w w' := by
  have c2 : ∀ o, (w.alloc o).cell? ⟨g, 2, none⟩ = some vl := fun o => (h.later (below_alloc w o)).cell.2.2.1
  obtain ⟨gl, c, rfl, hc1, hc2⟩ := own_form h.2.2.1 (by omega)
  have e1 : ∀ o, (w.alloc o).cell? ⟨gl, x * 2, none⟩ = some (.int .i64 (lv[x].1 : Int)) := fun o => (i_own_ent (h.later (below_alloc w o)).2.2.1 x hx).1
  have e2 : ∀ o, (w.alloc o).cell? ⟨gl, x * 2 + 1, none⟩ = some (.int .i64 (lv[x].2 : Int)) := fun o => (i_own_ent (h.later (below_alloc w o)).2.2.1 x hx).2
  generalize lv[x] = p at *
  obtain ⟨a, b⟩ := p
  clear h
  have t1 : ¬ (x : Int) < 0 := by omega
  have t2 : (x : Int) < (lv.length : Int) := by omega
  have t3 : ¬ (lv.length : Int) ≤ (x : Int) := by omega
  go_enter Tryz.func58, Tryz.ntmps58
  go_wp2_with fail
  all_goals
    (try simp only [Exit.inBlock, Exit.then])
    refine bodyPost_ret (v := .tuple #[ev (_, _), .int .i64 _]) ?_ rfl ⟨rfl, below_alloc w _⟩
    rw [results_cell_tmp rfl]
    go_simp
    rfl
/-- Who lives under a number. -/
def isOn (gs fr : List Nat) (x : Int) : Bool := decide (0 ≤ x) && decide (x.toNat < gs.length) && on gs fr x.toNat
def atOf (gs fr : List Nat) (x : Int) : Nat × Nat := if isOn gs fr x then (x.toNat, gs.getD x.toNat 0) else (0, 0)
theorem at_any {w : World} {S : Nat → Prop} {g n : Nat} {gs fr : List Nat} (x : Int) (h : Pl w S g n gs fr) :
    Calls Tryz.prog 58 #[.pointer (some ⟨g, 0, none⟩), .int .i64 x] w fun e w' => e = .returned (.tuple #[ev (atOf gs fr x), .int .i64 (if isOn gs fr x then 0 else 41)]) ∧ Below w.heap.size w w' := by
  obtain ⟨⟨vg, vl, vf, hp, _⟩, ho⟩ := h
  by_cases h0 : 0 ≤ x
  · by_cases h1 : x.toNat < gs.length
    · obtain ⟨i, rfl⟩ : ∃ i : Nat, x = (i : Int) := ⟨x.toNat, by omega⟩
      have hi : i < gs.length := by omega
      refine (at_in i g n vg vl vf gs fr _ w hp (by rw [lvOf_len]; exact hi)).mono ?_
      rw [lvOf_at gs fr i hi]
      have hg := ho.gen i hi
      cases hon : on gs fr i with
      | true =>
        have e : isOn gs fr (i : Int) = true := by simp [isOn, hon, hi]
        simp only [atOf, e]
        have hne : ¬ (i, gs.getD i 0) = (0, 0) := fun hh => by
          have := congrArg Prod.snd hh
          simp only at this
          omega
        simp only [if_true, hne, if_false, Int.toNat_natCast]
        exact fun _ _ hh => hh
      | false =>
        have e : isOn gs fr (i : Int) = false := by simp [isOn, hon]
        simp only [atOf, e]
        exact fun _ _ hh => hh
    · have e : isOn gs fr x = false := by simp [isOn, h1]
      simp only [atOf, e]
      exact at_far x g n vg vl vf gs fr _ w hp h0 (by rw [lvOf_len]; omega)
  · have e : isOn gs fr x = false := by simp [isOn, h0]
    simp only [atOf, e]
    exact at_neg x g n vg vl vf gs fr _ w hp (by omega)
def livesOf (gs fr : List Nat) (a b : Int) : Bool := isOn gs fr a && decide (((gs.getD a.toNat 0 : Nat) : Int) = b)
set_option maxHeartbeats 1000000 in
theorem lives_any {w : World} {S : Nat → Prop} {g n : Nat} {gs fr : List Nat} (a b : Int) (h : Pl w S g n gs fr) :
    Calls Tryz.prog 29 #[.pointer (some ⟨g, 0, none⟩), .agg #[.int .i64 a, .int .i64 b]] w fun e w' => e = .returned (.bool (livesOf gs fr a b)) ∧ Below w.heap.size w w' := by
  have HA := hide (at_any a (h.later (below_alloc w (.cells #[.int .i64 a, .int .i64 b] 34))))
  clear h
  obtain ⟨p, hp⟩ : ∃ p, p = atOf gs fr a := ⟨_, rfl⟩
  rw [← hp] at HA
  cases hon : isOn gs fr a with
  | false =>
    rw [hon] at HA
    have HR : Hid (livesOf gs fr a b = false) := by simp [Hid, livesOf, hon]
    clear hp hon
    go_enter Tryz.func29, Tryz.ntmps29
    go_wp2_with fail
    refine HA.out.mono ?_
    rintro e w1 ⟨rfl, hb⟩
    have HB := hide (below_on (below_alloc w _) hb)
    clear hb HA
    unfold ev
    go_wp2_with fail
    go_ret
    rw [HR.out]
    exact ⟨rfl, below_on HB.out (below_alloc w1 _)⟩
  | true =>
    rw [hon] at HA
    have hx : p = (a.toNat, gs.getD a.toNat 0) := by rw [hp, atOf, hon]; rfl
    have h0 : 0 ≤ a := by
      have := hon
      simp [isOn] at this
      exact this.1.1
    have HR : Hid (livesOf gs fr a b = decide ((p.2 : Int) = b)) := by simp [Hid, livesOf, hon, hx]
    have h1 : (p.1 : Int) = a := by rw [hx]; simp; omega
    obtain ⟨p1, p2⟩ := p
    simp only at h1 HR
    subst h1
    clear hp hx hon
    go_enter Tryz.func29, Tryz.ntmps29
    go_wp2_with fail
    refine HA.out.mono ?_
    rintro e w1 ⟨rfl, hb⟩
    have c0 : ∀ o, (w1.alloc o).cell? ⟨w.heap.size, 0, none⟩ = some (.int .i64 (p1 : Int)) := fun o => by
      rw [(below_on hb (below_alloc w1 o)).cell (p := ⟨w.heap.size, 0, none⟩) (by simp)]
      simp
    have c1 : ∀ o, (w1.alloc o).cell? ⟨w.heap.size, 1, none⟩ = some (.int .i64 b) := fun o => by
      rw [(below_on hb (below_alloc w1 o)).cell (p := ⟨w.heap.size, 1, none⟩) (by simp)]
      simp
    have HB := hide (below_on (below_alloc w _) hb)
    clear hb HA
    unfold ev
    go_wp2_with fail
    all_goals
      go_ret
      rw [HR.out]
      refine ⟨?_, below_on HB.out (below_alloc w1 _)⟩
      simp [*]
end Go.Proofs.YtfbhoemfabgjpaaGreat

/-
  slices.Clone, slices.Delete, State.
-/
namespace Go.Proofs.YtfbhoemfabgjpaaGreat
open Go.RowKit
set_option maxRecDepth 100000
theorem step_append_fits {P : Program} (w : World) {ops : Array Oper} {o : Oper} {a : Act} {K : Act → World → Prop} {Q : Exit → Act → World → Prop} {E : Prop} (hgd : o.guard = none) (s x : Operand) (t : TypeId)
    (ho : o.op = .call { callee := .builtin .append, args := #[s, x], argTypes := #[t, t] })
    (base : Nat) (e : TypeId) (i : TypeInfo) (size : Nat) (ht : P.underlying t = some (.slice e)) (hi : P.info? e = some i) (hsize : i.size = size)
    (g n cap : Nat) (xs : List Value) (hs : a.eval s = .slice (some ⟨g, 0, none⟩) n cap) (hown : w.ownsRow base e size (.slice (some ⟨g, 0, none⟩) n cap) n xs)
    (ad : Addr) (m c : Nat) (news : List Value) (hx : a.eval x = .slice (some ad) m c) (hl : news.length = m * size) (hnews : ∀ j u, news[j]? = some u → w.cell? (ad.add j) = some u) (h1 : ∀ u ∈ news, u.oneCell' = true)
    (hroom : n + m ≤ cap)
    (h : ∀ w', w'.ownsRow base e size (.slice (some ⟨g, 0, none⟩) (n + m) cap) (n + m) (xs ++ news) → w.grownBy w' (some g) → K (a.put o.dst (.slice (some ⟨g, 0, none⟩) (n + m) cap)) w') :
    if Region.wanted o (yielded ops a.tmps) = true then Oper.wp P o a w K Q else E := by
  have hw : Region.wanted o (yielded ops a.tmps) = true := by simp [Region.wanted, hgd]
  rw [if_pos hw]
  obtain ⟨w', hr, h2, h3⟩ := run_append_fits (P := P) w base t o.type e i size ht hi hsize g n cap xs hown ad m c news hl hnews h1 hroom
  unfold Oper.wp execOp
  simp only [ho, resolve, invoke, builtin, Sem.run_bind, Sem.run_pure, Result.andThen_ok, List.map_toArray, List.map_cons, List.map_nil, hs, hx, hr]
  exact h w' h2 h3
theorem own_cut {w : World} {B g c m k e : Nat} {xs : List Value} (h : w.ownsRow B e 1 (.slice (some ⟨g, 0, none⟩) m c) m xs) (hk : k ≤ m) : w.ownsRow B e 1 (.slice (some ⟨g, 0, none⟩) k c) k (xs.take k) := by
  have hlen := h.1
  rcases h.2 with ⟨h', _⟩ | ⟨gv', c', cur, h', hb, hg, h1, h2, h3, h4⟩
  · simp at h'
  · simp only [Value.slice.injEq, Option.some.injEq, Addr.mk.injEq, and_true, true_and] at h'
    obtain ⟨rfl, rfl⟩ := h'
    refine ⟨by rw [List.length_take]; omega, .inr ⟨g, c, cur, rfl, hb, hg, by omega, h2, h3, ?_⟩⟩
    rw [← h4, List.take_take]
    congr 1
    omega
/-- What lies behind the length. -/
theorem own_spare {w : World} {B g c m j e : Nat} {xs : List Value} (h : w.ownsRow B e 1 (.slice (some ⟨g, 0, none⟩) m c) m xs) (hj : j < c) : (∃ u, w.cell? ⟨g, j, none⟩ = some u) ∧ w.frozen? ⟨g, j, none⟩ = false := by
  rcases h.2 with ⟨h', _⟩ | ⟨gv', c', cur, h', hb, hg, h1, h2, h3, h4⟩
  · simp at h'
  · simp only [Value.slice.injEq, Option.some.injEq, Addr.mk.injEq, and_true, true_and] at h'
    obtain ⟨rfl, rfl⟩ := h'
    refine ⟨⟨cur[j]'(by omega), ?_⟩, frozen_of_row w g j _ e hg⟩
    rw [cell_of_row w g j cur e (0, 0) hg, Array.getElem?_eq_getElem]
theorem own_beyond {w : World} {B g c m j e : Nat} {xs : List Value} {u : Value} (h : w.ownsRow B e 1 (.slice (some ⟨g, 0, none⟩) m c) m xs) (hj : m ≤ j) : (w.setCell ⟨g, j, none⟩ u).ownsRow B e 1 (.slice (some ⟨g, 0, none⟩) m c) m xs := by
  have := (h.stored j u).1
  rwa [List.set_eq_of_length_le (by have := h.1; omega)] at this
set_option maxHeartbeats 1000000 in
theorem delete_first (g c x : Nat) (l : List Nat) (w : World) (h : w.ownsRow 0 3 1 (.slice (some ⟨g, 0, none⟩) (l.length + 1) c) (l.length + 1) (ic (x :: l))) (hn : l.length ≤ 1000000) :
    Calls Tryz.prog 115 #[.slice (some ⟨g, 0, none⟩) (l.length + 1) c, .int .i64 0, .int .i64 1] w fun e w' => e = .returned (.slice (some ⟨g, 0, none⟩) l.length c) ∧ w'.ownsRow 0 3 1 (.slice (some ⟨g, 0, none⟩) l.length c) l.length (ic l) ∧ Mv w w' (fun k => k = g) := by
  obtain ⟨i0, hi, hz0, hz1, hz2⟩ := info_parts info3
  obtain ⟨hc1, hc2⟩ := own_cap h
  have t1 : (1 : Int) ≤ (l.length : Int) + 1 := by omega
  have t2 : (l.length : Int) + 1 ≤ (c : Int) := by omega
  have HC : Hid (w.drew.ownsRow 0 3 1 (.slice (some ⟨g, 0, none⟩) 0 c) 0 []) := own_cut (k := 0) h (by omega)
  have HN : Hid (∀ j u, (ic l)[j]? = some u → w.drew.cell? ((⟨g, 1, none⟩ : Addr).add j) = some u) := fun j u hj => by
    have hjl : j < l.length := by rw [← ic_len]; exact (List.getElem?_eq_some_iff.1 hj).1
    have := h.cellAt (j + 1) (by omega)
    rw [WideShapes.add_plain, Nat.add_comm]
    refine this.trans ?_
    rw [← hj]
    simp [ic]
  have K : Hid (∀ w9 : World, w9.ownsRow 0 3 1 (.slice (some ⟨g, 0, none⟩) (0 + l.length) c) (0 + l.length) ([] ++ ic l) → w.drew.grownBy w9 (some g) → (w9.ownsRow 0 3 1 (.slice (some ⟨g, 0, none⟩) l.length c) l.length (ic l) ∧ Mv w w9 (fun k => k = g)) ∧ (∃ u, w9.cell? ⟨g, l.length, none⟩ = some u) ∧ w9.frozen? ⟨g, l.length, none⟩ = false) := fun w9 h1 h2 => by
    rw [Nat.zero_add, List.nil_append] at h1
    have := own_spare (j := l.length) h1 (by omega)
    exact ⟨⟨h1, (Mv.of_below (below_drew w) _).grown h2 (fun k _ e => by cases e; rfl)⟩, this⟩
  have CL : Hid (∀ w9 : World, (∃ u, w9.cell? ⟨g, l.length, none⟩ = some u) → w9.frozen? ⟨g, l.length, none⟩ = false → ∀ ty k, (Builtin.clear_ #[79] ty #[.slice (some ⟨g, l.length, none⟩) 1 k]).run Tryz.prog w9 = .ok (.tuple #[]) (w9.setCell ⟨g, l.length, none⟩ (.int .i64 0))) := fun w9 h1 h2 ty k => by
    refine Lib.run_clear_slice w9 79 3 ty (.int .i64 0) Tryz.underlying79 (fun W => ?_) rfl rfl g l.length 1 k (by omega) (fun j hj => ?_) (fun j hj => ?_)
    · simp [zeroValue, typeInfo, hi, hz0]
    · obtain rfl : j = 0 := by omega
      obtain ⟨u, hu⟩ := h1
      simp [hu]
    · obtain rfl : j = 0 := by omega
      simpa using h2
  have u1 : ¬ c = l.length := by omega
  have u2 : l.length ≤ c := by omega
  have u3 : (l.length : Int) ≤ (l.length : Int) + 1 := by omega
  have u4 : l.length + 1 - l.length = 1 := by omega
  clear h
  by_cases hc : c = 1
  · have hl0 : l.length = 0 := by omega
    obtain rfl : l = [] := List.eq_nil_of_length_eq_zero hl0
    subst hc
    clear u1 u2 u3 u4 hl0
    go_enter Tryz.func115, Tryz.ntmps115
    go_wp2_with fail
    go_region_law (refine step_append_fits _ rfl (.tmp 22) (.tmp 25) 79 rfl 0 3 i0 1 Tryz.underlying79 hi hz1 g 0 1 [] (by simp [Act.eval, Act.put]) HC.out ⟨g, 0, none⟩ 0 0 [] (by simp [Act.eval, Act.put]) rfl (fun j u hj => by simp at hj) (fun u hu => by simp at hu) (by omega) ?_; intro w9 ho9 hg9; obtain ⟨hk9, hu, hf9⟩ := K.out w9 ho9 hg9; have HK9 := hide hk9; have hcl := CL.out w9 hu hf9; clear ho9 hg9 hk9)
    all_goals
      simp only [List.length_nil] at hcl hu hf9
      go_wp2_with fail
      go_ret
      refine ⟨rfl, own_beyond HK9.out.1 (Nat.le_refl _), HK9.out.2.set rfl _ _⟩
  · go_enter Tryz.func115, Tryz.ntmps115
    go_wp2_with fail
    go_region_law (refine step_append_fits _ rfl (.tmp 22) (.tmp 25) 79 rfl 0 3 i0 1 Tryz.underlying79 hi hz1 g 0 c [] (by simp [Act.eval, Act.put]) HC.out ⟨g, 1, none⟩ l.length (c - 1) (ic l) (by simp [Act.eval, Act.put]) (by rw [ic_len]; omega) HN.out (ic_one l) (by omega) ?_; intro w9 ho9 hg9; obtain ⟨hk9, hu, hf9⟩ := K.out w9 ho9 hg9; have HK9 := hide hk9; have hcl := CL.out w9 hu hf9; clear ho9 hg9 hk9)
    all_goals
      go_wp2_with fail
      go_ret
      refine ⟨rfl, own_beyond HK9.out.1 (Nat.le_refl _), HK9.out.2.set rfl _ _⟩
end Go.Proofs.YtfbhoemfabgjpaaGreat
