/-
  Buffer: New.
-/
import Derived.Test.YtiolaenkfhcajaaGreatBAll
namespace Go.Proofs.YtiolaenkfhcajaaGreat
open Go.RowKit
set_option maxRecDepth 100000
theorem bnew_any (w : World) : Calls Tryz.prog 5 #[] w fun e w' => ∃ gb gm, e = .returned (.pointer (some ⟨gb, 0, none⟩)) ∧ Bg w' (fun k => k = gb ∨ k = gm) (fun _ => False) gb gm 0 (fun _ => none) (fun _ => []) 0 ∧ (w.heap.size ≤ gb ∧ w.heap.size ≤ gm) ∧ Below w.heap.size w w' := by
  have hmm := @run_makeMap Tryz.prog
  obtain ⟨w1, hw1⟩ : ∃ X, X = w.alloc (.map #[] 0) := ⟨_, rfl⟩
  have hM : Mt w1 w.heap.size 0 (fun _ => none) := hw1 ▸ Mt.made w
  have b1 : Below w.heap.size w w1 := hw1 ▸ below_alloc w _
  have hs : w1.heap.size = w.heap.size + 1 := by rw [hw1]; simp
  obtain ⟨w2, hw2⟩ : ∃ X, X = w1.alloc (.cells #[.map (some w.heap.size), .int .i64 0] 54) := ⟨_, rfl⟩
  have b2 : Below w1.heap.size w1 w2 := hw2 ▸ below_alloc w1 _
  have hr : w2.heap[w1.heap.size]? = some (.cells #[.map (some w.heap.size), .int .i64 0] 54 (0, 0)) := hw2 ▸ heap_alloc_new w1 _
  have hs2 : w2.heap.size = w.heap.size + 2 := by rw [hw2]; simp [hs]
  have RES : Hid (Bg w2 (fun k => k = w1.heap.size ∨ k = w.heap.size) (fun _ => False) w1.heap.size w.heap.size 0 (fun _ => none) (fun _ => []) 0 ∧ (w.heap.size ≤ w1.heap.size ∧ w.heap.size ≤ w.heap.size) ∧ Below w.heap.size w w2) := by
    refine ⟨{
      row := hr
      mp := hM.same (b2.block _ (by omega))
      nn := Nat.le_refl _
      sb := .inl rfl
      sm := .inr rfl
      bs := fun k hk => by omega
      bu := fun k hk => hk.elim
      su := fun k hk => hk.elim
      no := fun _ _ => rfl
      yes := fun _ _ h => by cases h
      ap := fun _ _ _ _ _ h => by cases h
      cs := fun _ _ h => by cases h
      ib := fun _ h => absurd rfl h
      tot := fun ss _ => by
        have : ss.flatMap (fun _ : Int × Int => ([] : List Cm)) = [] := List.flatMap_eq_nil_iff.2 (fun _ _ => rfl)
        rw [this]
        exact Nat.le_refl _ }, ⟨by omega, Nat.le_refl _⟩, below_on b1 b2⟩
  clear hM b1 b2 hr hs2
  have HS := hide hs
  clear hs
  go_enter Tryz.func5, Tryz.ntmps5
  go_wp2_with fail
  go_ret
  have e := RES.out
  rw [hw2, hw1] at e
  exact ⟨_, _, by simp [], e⟩
end Go.Proofs.YtiolaenkfhcajaaGreat
