/-
  A pool in memory: its rows, and the calls that only read.
-/
import Derived.Test.YtfjfimmbdnfeiaaIBase
namespace Go.Proofs.Ytfjfimmbdnfeiaa
open Go.RowKit
set_option maxRecDepth 100000
/-- A pool: its block; its three rows: generations, who lives, the free row. -/
def Pm (w : World) (g n : Nat) (vg vl vf : Value) (gs fr : List Nat) (lv : List (Nat × Nat)) : Prop :=
  w.heap[g]? = some (.cells #[.int .i64 (n : Int), vg, vl, vf] 84 (0, 0)) ∧ w.ownsRow 0 3 1 vg gs.length (ic gs) ∧ w.ownsRow 0 33 2 vl lv.length (ec lv) ∧ w.ownsRow 0 3 1 vf fr.length (ic fr) ∧
  (vg.ownBlock ≠ some g ∧ vl.ownBlock ≠ some g ∧ vf.ownBlock ≠ some g) ∧ Ap vg vl ∧ Ap vg vf ∧ Ap vl vf
section
variable {w w' : World} {g n : Nat} {vg vl vf : Value} {gs fr : List Nat} {lv : List (Nat × Nat)}
theorem Pm.lt (h : Pm w g n vg vl vf gs fr lv) : g < w.heap.size := lt_of_block h.1
theorem Pm.cell (h : Pm w g n vg vl vf gs fr lv) : w.cell? ⟨g, 0, none⟩ = some (.int .i64 (n : Int)) ∧ w.cell? ⟨g, 1, none⟩ = some vg ∧ w.cell? ⟨g, 2, none⟩ = some vl ∧ w.cell? ⟨g, 3, none⟩ = some vf := by
  refine ⟨?_, ?_, ?_, ?_⟩ <;> rw [cell_of_row w g _ _ 84 (0, 0) h.1] <;> rfl
theorem Pm.frozen (h : Pm w g n vg vl vf gs fr lv) (k : Nat) : w.frozen? ⟨g, k, none⟩ = false := frozen_of_row w g k _ 84 h.1
theorem Pm.later (h : Pm w g n vg vl vf gs fr lv) (hb : Below w.heap.size w w') : Pm w' g n vg vl vf gs fr lv := by
  obtain ⟨h1, h2, h3, h4, h5⟩ := h
  exact ⟨(hb.block g (lt_of_block h1)).trans h1, own_later h2 hb, own_later h3 hb, own_later h4 hb, h5⟩
theorem Pm.frame {T : Nat → Prop} (h : Pm w g n vg vl vf gs fr lv) (hm : Mv w w' T) (h0 : ¬ T g) (h1 : ∀ k, vg.ownBlock = some k → ¬ T k) (h2 : ∀ k, vl.ownBlock = some k → ¬ T k) (h3 : ∀ k, vf.ownBlock = some k → ¬ T k) : Pm w' g n vg vl vf gs fr lv := by
  obtain ⟨a1, a2, a3, a4, a5⟩ := h
  exact ⟨hm.at a1 h0, hm.own a2 h1, hm.own a3 h2, hm.own a4 h3, a5⟩
/-- A number of its generations is written. -/
theorem Pm.set_gen {gg c : Nat} (h : Pm w g n (.slice (some ⟨gg, 0, none⟩) gs.length c) vl vf gs fr lv) (i x : Nat) : Pm (w.setCell ⟨gg, i, none⟩ (.int .i64 (x : Int))) g n (.slice (some ⟨gg, 0, none⟩) gs.length c) vl vf (gs.set i x) fr lv := by
  obtain ⟨a1, a2, a3, a4, a5, a6, a7, a8⟩ := h
  refine ⟨(heap_setCell_other w ⟨gg, i, none⟩ g _ (fun e => a5.1 (by rw [e]; rfl))).trans a1, ?_, own_set a3 (fun e => a6 gg rfl e), own_set a4 (fun e => a7 gg rfl e), a5, a6, a7, a8⟩
  rw [List.length_set]
  exact own_int_set a2 i x
/-- Who lives under a number is written. -/
theorem Pm.set_live {gl c : Nat} (h : Pm w g n vg (.slice (some ⟨gl, 0, none⟩) lv.length c) vf gs fr lv) (i a b : Nat) (hi : i < lv.length) : Pm ((w.setCell ⟨gl, i * 2, none⟩ (.int .i64 (a : Int))).setCell ⟨gl, i * 2 + 1, none⟩ (.int .i64 (b : Int))) g n vg (.slice (some ⟨gl, 0, none⟩) lv.length c) vf gs fr (lv.set i (a, b)) := by
  obtain ⟨a1, a2, a3, a4, a5, a6, a7, a8⟩ := h
  refine ⟨?_, own_set (own_set a2 (fun e => a6 gl e rfl)) (fun e => a6 gl e rfl), ?_, own_set (own_set a4 (fun e => a8 gl rfl e)) (fun e => a8 gl rfl e), a5, a6, a7, a8⟩
  · have hne : gl ≠ g := fun e => a5.2.1 (by rw [← e]; rfl)
    rw [heap_setCell_other _ ⟨gl, i * 2 + 1, none⟩ g _ (Ne.symm hne), heap_setCell_other w ⟨gl, i * 2, none⟩ g _ (Ne.symm hne)]
    exact a1
  · rw [List.length_set]
    exact own_ent_set a3 i a b hi
end
/-- A pool within a set of blocks. -/
def Pk (w : World) (S : Nat → Prop) (g n : Nat) (gs fr : List Nat) (lv : List (Nat × Nat)) : Prop := ∃ vg vl vf, Pm w g n vg vl vf gs fr lv ∧ S g ∧ In S vg ∧ In S vl ∧ In S vf
section
variable {w w' w2 : World} {S T : Nat → Prop} {g n : Nat} {gs fr : List Nat} {lv : List (Nat × Nat)}
theorem Pk.mono (h : Pk w S g n gs fr lv) (hs : ∀ k, S k → T k) : Pk w T g n gs fr lv := by
  obtain ⟨vg, vl, vf, h1, h2, h3, h4, h5⟩ := h
  exact ⟨vg, vl, vf, h1, hs g h2, h3.mono hs, h4.mono hs, h5.mono hs⟩
theorem Pk.frame (h : Pk w S g n gs fr lv) (hm : Mv w w' T) (hs : ∀ k, S k → ¬ T k) : Pk w' S g n gs fr lv := by
  obtain ⟨vg, vl, vf, h1, h2, h3, h4, h5⟩ := h
  exact ⟨vg, vl, vf, h1.frame hm (hs g h2) (fun k e => hs k (h3 k e)) (fun k e => hs k (h4 k e)) (fun k e => hs k (h5 k e)), h2, h3, h4, h5⟩
theorem Pk.later (h : Pk w S g n gs fr lv) (hb : Below w.heap.size w w') : Pk w' S g n gs fr lv := h.frame (Mv.of_below hb (fun _ => False)) (fun _ _ e => e)
theorem Pk.twice (hsz : w.heap.size ≤ w'.heap.size) (h : Pk w2 (Nw w' (Nw w S)) g n gs fr lv) : Pk w2 (Nw w S) g n gs fr lv := h.mono (Nw.twice hsz)
end

/-! ### What it tells -/
/-- Who lives, of what State tells. -/
def on (gs fr : List Nat) (i : Nat) : Bool := decide (gs.getD i 0 ≤ 1000000) && !fr.contains i
def lvOf (gs fr : List Nat) : List (Nat × Nat) := (List.range gs.length).map fun i => if on gs fr i then (i, gs.getD i 0) else (0, 0)
theorem lvOf_len (gs fr : List Nat) : (lvOf gs fr).length = gs.length := by simp [lvOf]
theorem lvOf_at (gs fr : List Nat) (i : Nat) (h : i < gs.length) : (lvOf gs fr)[i]'(by rw [lvOf_len]; exact h) = if on gs fr i then (i, gs.getD i 0) else (0, 0) := by simp [lvOf]
/-- What may be told. -/
def Ok (n : Nat) (gs fr : List Nat) : Prop := 1 ≤ n ∧ n ≤ 200 ∧ gs.length ≤ n ∧ (∀ x ∈ gs, 1 ≤ x ∧ x ≤ 1000001) ∧ fr.Nodup ∧ ∀ i ∈ fr, i < gs.length ∧ gs.getD i 0 ≤ 999999
theorem Ok.gen {n : Nat} {gs fr : List Nat} (h : Ok n gs fr) (i : Nat) (hi : i < gs.length) : 1 ≤ gs.getD i 0 ∧ gs.getD i 0 ≤ 1000001 := by
  have := h.2.2.2.1 gs[i] (List.getElem_mem hi)
  simpa [hi] using this
/-- A pool that is whole. -/
def Pl (w : World) (S : Nat → Prop) (g n : Nat) (gs fr : List Nat) : Prop := Pk w S g n gs fr (lvOf gs fr) ∧ Ok n gs fr
section
variable {w w' : World} {S T : Nat → Prop} {g n : Nat} {gs fr : List Nat}
theorem Pl.mono (h : Pl w S g n gs fr) (hs : ∀ k, S k → T k) : Pl w T g n gs fr := ⟨h.1.mono hs, h.2⟩
theorem Pl.frame (h : Pl w S g n gs fr) (hm : Mv w w' T) (hs : ∀ k, S k → ¬ T k) : Pl w' S g n gs fr := ⟨h.1.frame hm hs, h.2⟩
theorem Pl.later (h : Pl w S g n gs fr) (hb : Below w.heap.size w w') : Pl w' S g n gs fr := ⟨h.1.later hb, h.2⟩
end
/-- An entity's value, and whether it lives under this number. -/
def ev (p : Nat × Nat) : Value := .agg #[.int .i64 (p.1 : Int), .int .i64 (p.2 : Int)]

/-! ### Calls that read -/
set_option maxHeartbeats 1000000 in
theorem i_new_bad (x : Int) (w : World) (h : x < 1 ∨ x > 200) : Calls Try.prog 17 #[.int .i64 x] w fun e w' => e = .returned (.tuple #[.pointer none, .int .i64 1]) ∧ w' = w := by
  by_cases h1 : x < 1
  · go_enter Try.func17, Try.ntmps17
    go_wp2_with fail
    go_ret2
    exact ⟨rfl, rfl⟩
  · have h2 : x > 200 := by omega
    clear h
    go_enter Try.func17, Try.ntmps17
    go_wp2_with fail
    go_ret2
    exact ⟨rfl, rfl⟩
set_option maxHeartbeats 1000000 in
theorem i_new_any (n : Nat) (w : World) (h1 : 1 ≤ n) (h2 : n ≤ 200) : Calls Try.prog 17 #[.int .i64 (n : Int)] w fun e w' => e = .returned (.tuple #[.pointer (some ⟨w.heap.size, 0, none⟩), .int .i64 0]) ∧ Pl w' (fun k => k = w.heap.size) w.heap.size n [] [] ∧ Below w.heap.size w w' := by
  have t1 : ¬ (n : Int) < 1 := by omega
  have t2 : ¬ (n : Int) > 200 := by omega
  go_enter Try.func17, Try.ntmps17
  go_wp2_with fail
  go_ret2
  refine ⟨rfl, ⟨⟨.slice none 0 0, .slice none 0 0, .slice none 0 0, ⟨heap_alloc_new w _, World.ownsRow_nil _ _ _ _, World.ownsRow_nil _ _ _ _, World.ownsRow_nil _ _ _ _, ?_, ?_, ?_, ?_⟩, rfl, In.nil _, In.nil _, In.nil _⟩, h1, h2, by simp, by simp, by simp, by simp⟩, below_alloc w _⟩
  · simp [Value.ownBlock]
  all_goals
    intro k e
    simp [Value.ownBlock] at e
end Go.Proofs.Ytfjfimmbdnfeiaa
