/-
  World: slices.Clone of numbers that are read; what parts a row has.
-/
import Derived.Test.YtiolaenkfhcajaaGreatWSpawn
namespace Go.Proofs.YtiolaenkfhcajaaGreat
open Go.RowKit
set_option maxRecDepth 100000
set_option maxHeartbeats 1000000 in
theorem clone_nums (v : Value) (l : List Int) (w : World) (h : Iz w v l) (hn : l.length ≤ 1000000) :
    Calls Tryz.prog 29 #[v] w fun e w' => ∃ v', e = .returned v' ∧ w'.ownsRow w.heap.size 2 1 v' l.length (zc l) ∧ Below w.heap.size w w' := by
  obtain ⟨i0, hi, hz0, hz1, hz2⟩ := info_parts info2
  have q27 : ∀ (w : World) (a : Option Addr) (n c n' c' : Nat), (binOp .eql 37 (.slice a n c) (.slice none n' c')).run Tryz.prog w = .ok (.bool a.isNone) w := fun w a n c n' c' => Lib.run_eql_slice_nil w _ _ a n c n' c' Tryz.underlying37
  obtain ⟨ao, c, rfl, h1, h2, h3⟩ := h
  cases ao with
  | none =>
    obtain rfl : l = [] := by
      cases l with
      | nil => rfl
      | cons x t =>
        obtain ⟨g, o, e, -⟩ := h3 0 (by simp)
        cases e
    clear h3
    go_enter Tryz.func29, Tryz.ntmps29
    go_wp2_with fail
    go_ret
    exact ⟨_, rfl, World.ownsRow_nil _ _ _ _, Below.refl _ _⟩
  | some ad =>
    have H : Hid (∀ j u, (zc l)[j]? = some u → (w.alloc (.cells #[] 2)).cell? (ad.add j) = some u) := fun j u hj => by
      have hj2 : j < l.length := by
        have := (List.getElem?_eq_some_iff.1 hj).1
        rwa [zc_len] at this
      rw [zc_at l j hj2] at hj
      obtain ⟨g', o', e3, z4⟩ := h3 j hj2
      obtain rfl := Option.some.inj e3
      rw [add_at, ← Option.some.inj hj]
      exact ((below_alloc w _).cell (p := ⟨g', o' + j, none⟩) (World.block_lt_of_cell? w _ z4)).trans z4
    clear h3
    go_enter Tryz.func29, Tryz.ntmps29
    go_wp2_with (at_builtin; refine wpList_append_own_at _ rfl _ _ 37 rfl w.heap.size 2 i0 (.int .i64 0) 1 8 Tryz.underlying37 hi hz0 hz1 hz2 rfl (by decide) _ 0 [] rfl (World.ownsRow_lit w #[] 0 (Nat.le_refl _) (Nat.zero_le _) rfl) ad l.length c (zc l) rfl (by rw [zc_len]; omega) H.out (zc_one l) (by unfold maxLen; omega) (by omega) (by simp) ?_)
    intro v' w' ho hg _ _
    obtain ⟨ao, c, rfl⟩ := own_len ho
    have HO := hide ho
    have HG := hide hg
    clear ho hg
    go_wp2_with fail
    go_ret
    refine ⟨_, rfl, ?_, (below_alloc w _).grown HG.out (by simp) (fun k e => ?_)⟩
    · have := HO.out
      simpa using this
    · simp [Value.ownBlock] at e
      omega
/-! ### The parts of a row -/
/-- The parts of a row, by rising kinds. -/
def partsL : List Kind → Nat → Nat → List Int → List (Nat × List Int)
  | [], _, _, _ => []
  | kd :: t, s, k, vals => if s.testBit k then (k, vals.take kd.2.length) :: partsL t s (k + 1) (vals.drop kd.2.length) else partsL t s (k + 1) vals
/-- How many fields a set has. -/
def fsum : List Kind → Nat → Nat → Nat
  | [], _, _ => 0
  | kd :: t, s, k => (if s.testBit k then kd.2.length else 0) + fsum t s (k + 1)
/-- Parts in memory: their kinds, and values of their own. -/
def Pv (B : Nat) (w : World) (L : List Pt) (R : List (Nat × List Int)) : Prop :=
  L.length = R.length ∧ ∀ i (h : i < L.length) (h' : i < R.length), L[i].1 = (R[i].1 : Int) ∧ w.ownsRow B 2 1 (ptV L[i]) R[i].2.length (zc R[i].2)
theorem Pv.nil (B : Nat) (w : World) : Pv B w [] [] := ⟨rfl, fun i h => absurd h (by simp)⟩
theorem Pv.later {B : Nat} {w w' : World} {L : List Pt} {R : List (Nat × List Int)} (h : Pv B w L R) (hb : Below w.heap.size w w') : Pv B w' L R := ⟨h.1, fun i h1 h2 => ⟨(h.2 i h1 h2).1, own_later (h.2 i h1 h2).2 hb⟩⟩
theorem Pv.push {B : Nat} {w : World} {L : List Pt} {R : List (Nat × List Int)} (h : Pv B w L R) (p : Pt) (k : Nat) (l : List Int) (hp : p.1 = (k : Int)) (ho : w.ownsRow B 2 1 (ptV p) l.length (zc l)) : Pv B w (L ++ [p]) (R ++ [(k, l)]) := by
  refine ⟨by simp [h.1], fun i h1 h2 => ?_⟩
  by_cases hi : i < L.length
  · have hr : i < R.length := by rw [← h.1]; exact hi
    rw [List.getElem_append_left hi, List.getElem_append_left hr]
    exact h.2 i hi hr
  · have e1 : i = L.length := by simp at h1; omega
    have e2 : i = R.length := by rw [← h.1]; exact e1
    rw [List.getElem_append_right (by omega), List.getElem_append_right (by omega)]
    simpa using ⟨hp, ho⟩
end Go.Proofs.YtiolaenkfhcajaaGreat
