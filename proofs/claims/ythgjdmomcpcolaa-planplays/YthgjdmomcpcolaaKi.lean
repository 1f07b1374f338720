/-
  Plan's law: same, sames.
-/
import Derived.Test.YthgjdmomcpcolaaLi
namespace Go.Proofs.Ythgjdmomcpcolaa
open Go.RowKit
set_option maxRecDepth 100000
set_option maxHeartbeats 4000000 in
theorem same_any {w : World} {va vb : Value} {l : List Int} (ha : Rl w va l) (hb : Rl w vb l) : Calls Try.prog 29 #[va, vb] w fun e w' => e = .returned (.bool true) ∧ Below w.heap.size w w' := by
  obtain ⟨aa, ca, rfl, ha1, ha2, ha3⟩ := ha
  obtain ⟨ab, cb, rfl, hb1, hb2, hb3⟩ := hb
  have HA3 := hide ha3
  have HB3 := hide hb3
  clear ha3 hb3
  go_enter Try.func29, Try.ntmps29
  go_wp2_with fail
  go_loopw [5] (fun v5 W => ∃ i : Nat, i ≤ l.length ∧ v5 = .int .i64 (i : Int) ∧ Hid (Below w.heap.size w W)) (fun v5 _ => l.length - (intOf v5).toNat)
  case atStart => exact ⟨0, Nat.zero_le _, rfl, Below.refl _ _⟩
  case round =>
    obtain ⟨i, hi, rfl, HB⟩ := hrel
    by_cases hlt : i < l.length
    · have t1 : (i : Int) < (l.length : Int) := by omega
      obtain ⟨g1, o1, rfl, hc1⟩ := HA3.out (by omega)
      obtain ⟨g2, o2, rfl, hc2⟩ := HB3.out (by omega)
      have e1 : wr.cell? ⟨g1, o1 + i, none⟩ = some (.int .i64 l[i]) := (World.cell?_of_block (HB.out.block g1 (World.block_lt_of_cell? w _ (hc1 i hlt)))).trans (hc1 i hlt)
      have e2 : wr.cell? ⟨g2, o2 + i, none⟩ = some (.int .i64 l[i]) := (World.cell?_of_block (HB.out.block g2 (World.block_lt_of_cell? w _ (hc2 i hlt)))).trans (hc2 i hlt)
      clear hc1 hc2
      generalize l[i] = x at *
      go_wp2_with fail
      go_quiet (fail)
      go_wp2_with fail
      exact ⟨⟨i + 1, by omega, rfl, below_on HB.out (below_drawn wr _)⟩, by simp only [intOf]; omega⟩
    · have t1 : ¬ (i : Int) < (l.length : Int) := by omega
      go_wp2_with fail
      go_ret
      exact ⟨rfl, HB.out⟩
set_option maxHeartbeats 8000000 in
theorem sames_any {w : World} {Ba Bb : Nat} {va vb : Value} {ra rb : List Value} {sts : List (List Nat)} (ha : Ss w Ba va ra sts) (hb : Ss w Bb vb rb sts) (hn : sts.length ≤ 100000) : Calls Try.prog 28 #[va, vb] w fun e w' => e = .returned (.bool true) ∧ Below w.heap.size w w' := by
  obtain ⟨aa, ca, rfl⟩ := own_len ha.1
  obtain ⟨ab, cb, rfl⟩ := own_len hb.1
  obtain ⟨n, hn'⟩ : ∃ n, n = sts.length := ⟨_, rfl⟩
  have hla : ra.length = n := by rw [hn']; exact ha.2.1
  have hlb : rb.length = n := by rw [hn']; exact hb.2.1
  have hnb : (n : Int) ≤ 9223372036854775806 := by omega
  have HA := hide ha
  have HB := hide hb
  rw [hla] at HA
  rw [hlb] at HB
  have HLA := hide (And.intro hla (And.intro hlb hn'))
  obtain ⟨hca1, hca2⟩ := own_cap ha.1
  obtain ⟨hcb1, hcb2⟩ := own_cap hb.1
  rw [hla] at hca1 ⊢
  rw [hlb] at hcb1 ⊢
  clear ha hb hla hlb hn hn'
  go_enter Try.func28, Try.ntmps28
  go_wp2_with fail
  go_loopw [5] (fun v5 W => ∃ i : Nat, i ≤ n ∧ v5 = .int .i64 (i : Int) ∧ Hid (Below w.heap.size w W)) (fun v5 _ => n - (intOf v5).toNat)
  case atStart => exact ⟨0, Nat.zero_le _, rfl, Below.refl _ _⟩
  case round =>
    obtain ⟨i, hi, rfl, HR⟩ := hrel
    by_cases hlt : i < n
    · have t1 : (i : Int) < (n : Int) := by omega
      obtain ⟨l1, l2, l3⟩ := HLA.out
      have hA := HA.out.later HR.out
      have hB := HB.out.later HR.out
      have hA1 := hA.1
      have hB1 := hB.1
      rw [l1] at hA1
      rw [l2] at hB1
      obtain ⟨g1, c1, e1, -, -⟩ := own_form hA1 (by omega)
      obtain ⟨g2, c2, e2, -, -⟩ := own_form hB1 (by omega)
      simp only [Value.slice.injEq, true_and] at e1 e2
      obtain ⟨rfl, rfl⟩ := e1
      obtain ⟨rfl, rfl⟩ := e2
      have hia : i < ra.length := by omega
      have hib : i < rb.length := by omega
      have his : i < sts.length := by omega
      have d1 : wr.cell? ⟨g1, i, none⟩ = some ra[i] := by rw [hA1.cellAt i (by omega), List.getElem?_eq_getElem hia]
      have d2 : wr.cell? ⟨g2, i, none⟩ = some rb[i] := by rw [hB1.cellAt i (by omega), List.getElem?_eq_getElem hib]
      have j1 := Rl.of (hA.2.2.1 i hia his)
      have j2 := Rl.of (hB.2.2.1 i hib his)
      generalize ra[i] = x1 at d1 j1
      generalize rb[i] = x2 at d2 j2
      have JC : Hid (∀ V, Below wr.heap.size wr V → Calls Try.prog 29 #[x1, x2] V fun e w' => e = .returned (.bool true) ∧ Below V.heap.size V w') := fun V hV => same_any (j1.later hV) (j2.later hV)
      have HC : Hid (∀ V, Below wr.heap.size wr V → V.cell? ⟨g1, i, none⟩ = some x1 ∧ V.cell? ⟨g2, i, none⟩ = some x2) := fun V hV => ⟨(Mv.of_below hV (fun _ => False)).cell d1 id, (Mv.of_below hV (fun _ => False)).cell d2 id⟩
      have SS := hide (HC.out _ (below_drew wr))
      clear hA hB hA1 hB1 j1 j2 l1 l2 l3
      go_wp2_with fail
      go_region_held3 (fun V => V.cell? ⟨g1, i, none⟩ = some x1 ∧ V.cell? ⟨g2, i, none⟩ = some x2) (first | exact SS.out | exact S6) ((go_at_call 29; refine (JC.out _ (below_drew wr)).mono ?_; rintro e w6 ⟨rfl, b6⟩; have B6 := hide (below_on (below_drew wr) b6); have S6 := HC.out w6 B6.out; clear b6))
      clear S6 d1 d2
      go_wp2_with fail
      go_roundw
      case rel => exact ⟨i + 1, by omega, rfl, below_on HR.out B6.out⟩
      case measure => simp only [intOf]; omega
    · have t1 : ¬ (i : Int) < (n : Int) := by omega
      go_wp2_with fail
      go_ret
      exact ⟨rfl, HR.out⟩
end Go.Proofs.Ythgjdmomcpcolaa
