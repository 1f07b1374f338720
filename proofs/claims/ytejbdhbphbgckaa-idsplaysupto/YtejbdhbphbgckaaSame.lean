/-
  The law's same.
-/
import Derived.Test.YtejbdhbphbgckaaFrom
namespace Go.Proofs.Ytejbdhbphbgckaa
open Go.RowKit
set_option maxHeartbeats 1000000 in
theorem same_is (va vb : Value) (l : List Int) (w : World) (ha : Is w va l) (hb : Is w vb l) :
    Calls Try.prog 27 #[va, vb] w fun e w' => e = .returned (.bool true) ∧ Below w.heap.size w w' := by
  have HA := hide ha
  have HB := hide hb
  obtain ⟨ao, c, rfl, h1, h2, -⟩ := ha
  obtain ⟨ao', c', rfl, h1', h2', -⟩ := hb
  have hm : l.length ≤ maxLen := by omega
  unfold maxLen at hm
  go_enter Try.func27, Try.ntmps27
  go_wp2_with fail
  go_loopw [5] (fun v5 wr => ∃ i : Nat, i ≤ l.length ∧ v5 = .int .i64 (i : Int) ∧ Hid (Below w.heap.size w wr)) (fun v5 _ => l.length - (intOf v5).toNat)
  case atStart => exact ⟨0, Nat.zero_le _, rfl, Below.refl _ _⟩
  case round =>
    obtain ⟨i, hil, rfl, HW⟩ := hrel
    by_cases hlt : i < l.length
    · have t1 : (i : Int) < (l.length : Int) := by omega
      obtain ⟨_, _, e, -, -, h3⟩ := HA.out.on HW.out
      simp only [Value.slice.injEq] at e
      obtain ⟨rfl, -, rfl⟩ := e
      obtain ⟨g, o, rfl, c1⟩ := h3 i hlt
      obtain ⟨_, _, e, -, -, h4⟩ := HB.out.on HW.out
      simp only [Value.slice.injEq] at e
      obtain ⟨rfl, -, rfl⟩ := e
      obtain ⟨g', o', rfl, c2⟩ := h4 i hlt
      generalize l[i] = x at *
      clear h3 h4
      go_upto_region 6 with fail
      go_region_held3 (fun W => W.cell? ⟨g, o + i, none⟩ = some (.int .i64 x) ∧ W.cell? ⟨g', o' + i, none⟩ = some (.int .i64 x)) (go_keep) (fail)
      go_wp2_with fail
      go_roundw
      case rel => exact ⟨i + 1, by omega, by go_num, below_on HW.out (below_drew _)⟩
      case measure => simp [intOf]; omega
    · have t1 : ¬ (i : Int) < (l.length : Int) := by omega
      go_wp2_with fail
      go_ret
      exact ⟨rfl, HW.out⟩
end Go.Proofs.Ytejbdhbphbgckaa
