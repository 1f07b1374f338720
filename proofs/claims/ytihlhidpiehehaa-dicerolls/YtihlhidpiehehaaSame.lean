/-
  DiceRolls: orders that came out, and their book; same.
-/
import Derived.Test.YtihlhidpiehehaaBdM
namespace Go.Proofs.Ytihlhidpiehehaa
open Go.RowKit
set_option maxRecDepth 100000
/-- An order as it comes out: nil, or a row without room behind it. -/
def Tr (w : World) (v : Value) (R : List Int) : Prop := (v = .slice none 0 0 ∧ R = []) ∨ ∃ g, v = .slice (some ⟨g, 0, none⟩) R.length R.length ∧ 0 < R.length ∧ Ir w g R
section
variable {w w' : World} {v : Value} {R : List Int}
theorem Tr.frame {S : Nat → Prop} (h : Tr w v R) (hm : Mv w w' S) (hs : ∀ k, v.ownBlock = some k → ¬ S k) : Tr w' v R := by
  rcases h with h | ⟨g, rfl, h1, h2⟩
  · exact .inl h
  · exact .inr ⟨g, rfl, h1, h2.frame hm (hs g rfl)⟩
theorem Tr.later (h : Tr w v R) (hb : Below w.heap.size w w') : Tr w' v R := h.frame (Mv.of_below hb (fun _ => False)) (fun _ _ e => e)
theorem Tr.lt (h : Tr w v R) : ∀ k, v.ownBlock = some k → k < w.heap.size := by
  intro k e
  rcases h with ⟨rfl, -⟩ | ⟨g, rfl, -, h2⟩
  · simp [Value.ownBlock] at e
  · simp only [Value.ownBlock, Option.some.injEq] at e
    exact e ▸ h2.lt
theorem Tr.form (h : Tr w v R) : ∃ ao, v = .slice ao R.length R.length ∧ ∀ i (_hi : i < R.length), ∃ g, ao = some ⟨g, 0, none⟩ ∧ Ir w g R := by
  rcases h with ⟨rfl, rfl⟩ | ⟨g, rfl, h1, h2⟩
  · exact ⟨none, rfl, fun i hi => absurd hi (by simp)⟩
  · exact ⟨_, rfl, fun i hi => ⟨g, rfl, h2⟩⟩
theorem Ir.owns {g B : Nat} {R : List Int} (h : Ir w g R) (hB : B ≤ g) (hn : R.length ≤ 1000000) : w.ownsRow B 3 1 (.slice (some ⟨g, 0, none⟩) R.length R.length) R.length (zc R) := by
  refine ⟨by simp [zc], .inr ⟨g, R.length, _, rfl, hB, h, Nat.le_refl _, by unfold maxLen; omega, by simp [zc], by rw [Nat.mul_one, ← zc_len R]; exact List.take_length⟩⟩
end
set_option maxHeartbeats 1000000 in
theorem same_any {w : World} {va vb : Value} {R : List Int} (ha : Tr w va R) (hb : Tr w vb R) (hR : R.length ≤ 1000) : Calls Try.prog 23 #[va, vb] w fun e w' => e = .returned (.bool true) ∧ Below w.heap.size w w' := by
  obtain ⟨ao, rfl, hao⟩ := ha.form
  obtain ⟨bo, rfl, hbo⟩ := hb.form
  have HA := hide hao
  have HB := hide hbo
  clear ha hb hao hbo
  obtain ⟨n, hn⟩ : ∃ n, n = R.length := ⟨_, rfl⟩
  rw [← hn] at hR ⊢
  have HN := hide hn
  clear hn
  go_enter Try.func23, Try.ntmps23
  go_wp2_with fail
  go_loopg [5] n (fun k v5 wr => ∃ i : Nat, k = n - i ∧ i ≤ n ∧ v5 = .int .i64 (i : Int) ∧ Hid (Below w.heap.size w wr))
  case atStart => exact ⟨0, rfl, by omega, rfl, Below.refl _ _⟩
  case round =>
    obtain ⟨i, hk, hi, rfl, HW⟩ := hrel
    by_cases hlt : i < n
    · have hlt' : (i : Int) < (n : Int) := by omega
      obtain ⟨g, rfl, hg⟩ := HA.out i (by have := HN.out; omega)
      obtain ⟨g2, rfl, hg2⟩ := HB.out i (by have := HN.out; omega)
      have c0 := (hg.later HW.out).cellD i (by have := HN.out; omega)
      have c1 := (hg2.later HW.out).cellD i (by have := HN.out; omega)
      clear hg hg2
      generalize R.getD i 0 = x at *
      go_upto_region 6 with fail
      go_region_held3 (fun W => W.cell? ⟨g, i, none⟩ = some (.int .i64 x) ∧ W.cell? ⟨g2, i, none⟩ = some (.int .i64 x)) (go_keep) (fail)
      go_wp2_with fail
      go_roundg (n - (i + 1))
      case measure => omega
      case rel => exact ⟨i + 1, rfl, hlt, by simp, HW.out.drew⟩
    · obtain rfl : n = i := by omega
      go_wp2_with fail
      go_ret
      exact ⟨rfl, HW.out⟩
end Go.Proofs.Ytihlhidpiehehaa
