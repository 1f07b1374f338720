/-
  World: kinds that are the same (the document's SameKinds).
-/
import Derived.Test.YtafmiolehlagkaaGreatWNew
import Derived.Deep.RegionHeld3
import Derived.BigQuiet
namespace Go.Proofs.YtafmiolehlagkaaGreat
open Go.RowKit
set_option maxRecDepth 100000
theorem bdN (w : World) (n : Nat) : Below w.heap.size w (w.drewN n) := by
  induction n with
  | zero => exact Below.refl _ _
  | succ n ih => exact below_on ih (below_drew _)
theorem text_ne (x : ByteArray) : (x.toList != x.toList) = false := by simp
set_option maxHeartbeats 8000000 in
theorem same_kinds {w : World} {va vb : Value} {ks : List Kind} (h : Kr w va ks) (h' : Kr w vb ks) : Calls Tryz.prog 59 #[va, vb] w fun e w' => e = .returned (.bool true) ∧ Below w.heap.size w w' := by
  have HA := hide h
  have HB := hide h'
  obtain ⟨ao, c, rfl, h1, h2, -⟩ := h
  obtain ⟨ao', c', rfl, h1', h2', -⟩ := h'
  have hm : ks.length ≤ maxLen := by omega
  unfold maxLen at hm
  go_enter Tryz.func59, Tryz.ntmps59
  go_wp2_with fail
  go_loopw [5] (fun v5 wr => ∃ i : Nat, i ≤ ks.length ∧ v5 = .int .i64 (i : Int) ∧ Hid (Below w.heap.size w wr)) (fun v5 _ => ks.length - (intOf v5).toNat)
  case atStart => exact ⟨0, Nat.zero_le _, rfl, Below.refl _ _⟩
  case round =>
    obtain ⟨i, hil, rfl, HW⟩ := hrel
    by_cases hlt : i < ks.length
    · have t1 : (i : Int) < (ks.length : Int) := by omega
      obtain ⟨_, _, e, -, -, h3⟩ := HA.out.later HW.out
      simp only [Value.slice.injEq] at e
      obtain ⟨rfl, -, rfl⟩ := e
      obtain ⟨g, o, vf, rfl, c1, c2, s1⟩ := h3 i hlt
      obtain ⟨_, _, e, -, -, h4⟩ := HB.out.later HW.out
      simp only [Value.slice.injEq] at e
      obtain ⟨rfl, -, rfl⟩ := e
      obtain ⟨g', o', vf', rfl, d1, d2, s2⟩ := h4 i hlt
      clear h3 h4
      generalize ks[i] = kd at *
      obtain ⟨nm, fs⟩ := kd
      dsimp only at c1 c2 d1 d2 s1 s2
      have S1 := hide s1
      have S2 := hide s2
      obtain ⟨af, cf, rfl, f1, f2, -⟩ := s1
      obtain ⟨af', cf', rfl, f1', f2', -⟩ := s2
      have hfm : fs.length ≤ maxLen := by omega
      unfold maxLen at hfm
      have C2 : Hid (wr.cell? ⟨g, o + i * 2 + 1, none⟩ = some (.slice af fs.length cf)) := c2
      have D2 : Hid (wr.cell? ⟨g', o' + i * 2 + 1, none⟩ = some (.slice af' fs.length cf')) := d2
      go_upto_region 6 with fail
      have tn := text_ne nm
      go_quiet (fail)
      go_wp2_with fail
      clear c1 c2 d1 d2 tn
      go_loopw [6] (fun v6 W => ∃ j : Nat, j ≤ fs.length ∧ v6 = .int .i64 (j : Int) ∧ Hid (Below w.heap.size w W) ∧ Hid (Below wr.heap.size wr W)) (fun v6 _ => fs.length - (intOf v6).toNat)
      case atStart => exact ⟨0, Nat.zero_le _, rfl, below_on HW.out (bdN _ _), bdN _ _⟩
      case round =>
        obtain ⟨j, hjl, rfl, HW2, HW3⟩ := hrel
        have c2 := (HW3.out.cell (p := ⟨g, o + i * 2 + 1, none⟩) (World.block_lt_of_cell? _ _ C2.out)).trans C2.out
        have d2 := (HW3.out.cell (p := ⟨g', o' + i * 2 + 1, none⟩) (World.block_lt_of_cell? _ _ D2.out)).trans D2.out
        by_cases hjt : j < fs.length
        · have t2 : (j : Int) < (fs.length : Int) := by omega
          obtain ⟨_, _, e, -, -, h3⟩ := S1.out
          simp only [Value.slice.injEq] at e
          obtain ⟨rfl, -, rfl⟩ := e
          obtain ⟨gf, of, rfl, c3⟩ := h3 j hjt
          obtain ⟨_, _, e, -, -, h4⟩ := S2.out
          simp only [Value.slice.injEq] at e
          obtain ⟨rfl, -, rfl⟩ := e
          obtain ⟨gf', of', rfl, d3⟩ := h4 j hjt
          replace c3 := (HW3.out.cell (p := ⟨gf, of + j, none⟩) (World.block_lt_of_cell? _ _ c3)).trans c3
          replace d3 := (HW3.out.cell (p := ⟨gf', of' + j, none⟩) (World.block_lt_of_cell? _ _ d3)).trans d3
          clear h3 h4
          generalize fs[j] = x at *
          have tn := text_ne x
          go_upto_region 11 with fail
          go_quiet (fail)
          go_wp2_with fail
          go_roundw
          case rel => exact ⟨j + 1, by omega, by go_num, below_on HW2.out (bdN _ _), below_on HW3.out (bdN _ _)⟩
          case measure => simp [intOf]; omega
        · have t2 : ¬ (j : Int) < (fs.length : Int) := by omega
          go_wp2_with fail
          go_roundw
          case rel => exact ⟨i + 1, by omega, by go_num, HW2.out⟩
          case measure => simp [intOf]; omega
    · have t1 : ¬ (i : Int) < (ks.length : Int) := by omega
      go_wp2_with fail
      go_ret
      exact ⟨rfl, HW.out⟩
end Go.Proofs.YtafmiolehlagkaaGreat
