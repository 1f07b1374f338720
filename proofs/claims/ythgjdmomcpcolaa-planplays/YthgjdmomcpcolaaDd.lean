/-
  The document's plan: Legal.
-/
import Derived.Test.YthgjdmomcpcolaaDb
namespace Go.Proofs.Ythgjdmomcpcolaa
open Go.RowKit
set_option maxRecDepth 100000
set_option maxHeartbeats 8000000 in
theorem dlegal_any {w : World} {B g : Nat} {L : List Sy} {vo : Value} {os : List Int} (h : Dp w B g L) (ho : Rl w vo os) : Calls Try.prog 14 #[.pointer (some ⟨g, 0, none⟩), vo] w fun e w' => LgOut w L os e w' := by
  have H := hide h
  obtain ⟨vr, vw, rs, ws, h1, h2, h3, h4, h5, h6, h7, h8⟩ := h
  obtain ⟨aw, cw, rfl⟩ := own_len h3
  obtain ⟨hw1, hw2⟩ := own_cap h3
  rw [h5] at h1 hw1
  have e1 : w.cell? ⟨g, 1, none⟩ = some (.slice aw L.length cw) := by rw [cell_of_row _ _ _ _ 58 (0, 0) h1]; rfl
  have HL := hide h7
  clear h1 h2 h3 h4 h5 h6 h7 h8
  obtain ⟨ap, cp, rfl, hp1, hp2, hp3⟩ := ho
  have HP3 := hide hp3
  clear hp3
  by_cases hn : os.length = L.length
  · have HN0 := hide hn
    rw [hn] at hp1 ⊢
    clear hn
    go_enter Try.func14, Try.ntmps14
    go_wp2_with fail
    go_loopw [6] (fun v6 W => ∃ i : Nat, i ≤ L.length ∧ v6 = .int .i64 (i : Int) ∧ Hid (LgP L (os.take i) ∧ Below w.heap.size w W)) (fun v6 _ => L.length - (intOf v6).toNat)
    case atStart => exact ⟨0, Nat.zero_le _, rfl, by rw [List.take_zero]; exact LgP.nil L, Below.refl _ _⟩
    case round =>
      obtain ⟨i, hi, rfl, HI⟩ := hrel
      clear e1
      by_cases hlt : i < L.length
      · have t1 : (i : Int) < (L.length : Int) := by omega
        have hio : i < os.length := by have := HN0.out; omega
        obtain ⟨gp, op, rfl, hpc⟩ := HP3.out (by omega)
        obtain ⟨z, hz⟩ : ∃ z, z = os[i] := ⟨_, rfl⟩
        have HOC : Hid (∀ W, Below w.heap.size w W → W.cell? ⟨gp, op + i, none⟩ = some (.int .i64 z) ∧ ∀ k (h : k < os.length), W.cell? ⟨gp, op + k, none⟩ = some (.int .i64 os[k])) := fun W hW => by
          have hh : ∀ k (h : k < os.length), W.cell? ⟨gp, op + k, none⟩ = some (.int .i64 os[k]) := fun k h => (World.cell?_of_block (hW.block gp (World.block_lt_of_cell? w _ (hpc k h)))).trans (hpc k h)
          refine ⟨?_, hh⟩
          rw [hz]
          exact hh i hio
        have HZ := hide hz
        have f1 := (HOC.out wr HI.out.2).1
        clear hpc hz
        by_cases q1 : z < 0
        · have HBD : Hid (¬ Lg L os) := fun hg => by
            have := hg.2.1 os[i] (List.getElem_mem _)
            rw [← HZ.out] at this
            omega
          go_wp2_with fail
          go_ret
          exact LgOut.no HBD.out HI.out.2
        by_cases q2 : z ≥ (L.length : Int)
        · have HBD : Hid (¬ Lg L os) := fun hg => by
            have := hg.2.1 os[i] (List.getElem_mem _)
            rw [← HZ.out] at this
            omega
          go_wp2_with fail
          go_ret
          exact LgOut.no HBD.out HI.out.2
        have Q0 : Hid ((∀ j (hj : j < os.length), j < 0 → Ah L os[j] z) ∧ Below w.heap.size w wr) := ⟨fun j hj h => absurd h (by omega), HI.out.2⟩
        have HI1 := hide HI.out.1
        clear HI
        go_wp2_with fail
        clear f1
        go_loopw [7] (fun v7 W => ∃ k : Nat, k ≤ i ∧ v7 = .int .i64 (k : Int) ∧ Hid ((∀ j (hj : j < os.length), j < k → Ah L os[j] z) ∧ Below w.heap.size w W)) (fun v7 _ => i - (intOf v7).toNat)
        case atStart => exact ⟨0, Nat.zero_le _, rfl, Q0.out⟩
        case round =>
          obtain ⟨k, hk, rfl, HK⟩ := hrel
          clear Q0
          by_cases hki : k < i
          · have t2 : (k : Int) < (i : Int) := by omega
            have tkL : (k : Int) < (L.length : Int) := by omega
            have hko : k < os.length := by omega
            have hyb : 0 ≤ os[k] ∧ os[k] < (L.length : Int) := HI1.out.1 os[k] (List.mem_take_iff_getElem.2 ⟨k, by omega, rfl⟩)
            obtain ⟨y, hy⟩ : ∃ y, y = os[k] := ⟨_, rfl⟩
            have HC : Hid (∀ W, Below w.heap.size w W → W.cell? ⟨gp, op + k, none⟩ = some (.int .i64 y) ∧ W.cell? ⟨gp, op + i, none⟩ = some (.int .i64 z)) := fun W hW => ⟨by rw [hy]; exact (HOC.out W hW).2 k hko, (HOC.out W hW).1⟩
            rw [← hy] at hyb
            have HY := hide hy
            have HCZ : Hid (y ≠ z → cz L y z = cn L y.toNat z.toNat) := fun hne => by
              unfold cz
              rw [decide_eq_true ⟨hne, hyb, by omega, by omega⟩, Bool.true_and]
            have JC : Hid (∀ W, Below w.heap.size w W → Calls Try.prog 16 #[.pointer (some ⟨g, 0, none⟩), .int .i64 y, .int .i64 z] W fun e w' => e = .returned (.bool (cz L y z)) ∧ Below W.heap.size W w') := fun W hW => dconflict_any (H.out.later hW) y z
            obtain ⟨c, hcd⟩ : ∃ c, c = cz L y z := ⟨_, rfl⟩
            rw [← hcd] at JC HCZ
            have SS : Hid (wr.cell? ⟨gp, op + k, none⟩ = some (.int .i64 y) ∧ wr.cell? ⟨gp, op + i, none⟩ = some (.int .i64 z)) := HC.out wr HK.out.2
            obtain ⟨f1, f2⟩ := SS.out
            clear hy hcd hyb
            go_wp2_with fail
            have hs3 := SS.out
            go_region_held3 (fun X => X.cell? ⟨gp, op + k, none⟩ = some (.int .i64 y) ∧ X.cell? ⟨gp, op + i, none⟩ = some (.int .i64 z)) (first | exact SS.out | exact S6) ((go_at_call 16; refine (JC.out _ (below_on HK.out.2 (below_drew wr))).mono ?_; rintro e w6 ⟨rfl, b6⟩; have B6 := hide (below_on (below_drew wr) b6); have S6 := HC.out w6 (below_on HK.out.2 B6.out); clear b6))
            obtain ⟨f3, f4⟩ := S6
            clear f1 f2 hs3
            by_cases hyz : y = z
            · have HAH : Hid (¬ Ah L y z) := fun h => h.1 hyz
              have u1 : decide (y = z) = true := decide_eq_true hyz
              have u2 : (y == z) = true := beq_iff_eq.2 hyz
              have HBD : Hid (¬ Lg L os) := fun hg => HAH.out (by
                have := List.pairwise_iff_getElem.1 hg.2.2 k i hko hio hki
                rw [← HY.out, ← HZ.out] at this
                exact this)
              go_wp2_with fail
              go_quiet (fail)
              go_wp2_with fail
              go_ret
              exact LgOut.no HBD.out (below_on HK.out.2 (below_on B6.out (below_drawn w6 _)))
            · have hcc := HCZ.out hyz
              have u1 : decide (y = z) = false := decide_eq_false hyz
              have u2 : (y == z) = false := beq_eq_false_iff_ne.2 hyz
              cases c with
              | true =>
                by_cases hgt : y > z
                · have HAH : Hid (¬ Ah L y z) := fun h => by
                    have := h.2 hcc.symm
                    omega
                  have u3 : decide (y > z) = true := decide_eq_true hgt
                  have u4 : decide (z < y) = true := decide_eq_true hgt
                  clear hcc
                  have HBD : Hid (¬ Lg L os) := fun hg => HAH.out (by
                    have := List.pairwise_iff_getElem.1 hg.2.2 k i hko hio hki
                    rw [← HY.out, ← HZ.out] at this
                    exact this)
                  go_wp2_with fail
                  go_quiet (fail)
                  go_wp2_with fail
                  go_ret
                  exact LgOut.no HBD.out (below_on HK.out.2 (below_on B6.out (below_drawn w6 _)))
                · have HAH : Hid (Ah L y z) := ⟨hyz, fun _ => by omega⟩
                  have u3 : decide (y > z) = false := decide_eq_false hgt
                  have u4 : decide (z < y) = false := decide_eq_false hgt
                  clear hcc
                  have HN : Hid ((∀ j (hj : j < os.length), j < k + 1 → Ah L os[j] z) ∧ Below w.heap.size w w6) := by
                    refine ⟨fun j hj hjk => ?_, below_on HK.out.2 B6.out⟩
                    by_cases e : j = k
                    · subst e
                      rw [← HY.out]
                      exact HAH.out
                    · exact HK.out.1 j hj (by omega)
                  go_wp2_with fail
                  go_quiet (fail)
                  go_wp2_with fail
                  exact ⟨⟨k + 1, by omega, rfl, HN.out.1, below_on HN.out.2 (below_drawn w6 _)⟩, by simp only [intOf]; omega⟩
              | false =>
                have HAH : Hid (Ah L y z) := ⟨hyz, fun h => by rw [← hcc] at h; cases h⟩
                clear hcc
                have HN : Hid ((∀ j (hj : j < os.length), j < k + 1 → Ah L os[j] z) ∧ Below w.heap.size w w6) := by
                  refine ⟨fun j hj hjk => ?_, below_on HK.out.2 B6.out⟩
                  by_cases e : j = k
                  · subst e
                    rw [← HY.out]
                    exact HAH.out
                  · exact HK.out.1 j hj (by omega)
                go_wp2_with fail
                go_quiet (fail)
                go_wp2_with fail
                exact ⟨⟨k + 1, by omega, rfl, HN.out.1, below_on HN.out.2 (below_drawn w6 _)⟩, by simp only [intOf]; omega⟩
          · have t2 : ¬ (k : Int) < (i : Int) := by omega
            obtain rfl : k = i := by omega
            have HN : Hid (LgP L (os.take (k + 1)) ∧ Below w.heap.size w wr) := by
              refine ⟨?_, HK.out.2⟩
              rw [List.take_succ_eq_append_getElem hio, LgP.add, ← HZ.out]
              refine ⟨HI1.out, ⟨by omega, by omega⟩, fun y hy => ?_⟩
              obtain ⟨j, hj, rfl⟩ := List.mem_take_iff_getElem.1 hy
              exact HK.out.1 j (by omega) (by omega)
            clear HK
            go_wp2_with fail
            go_roundw
            case rel => exact ⟨k + 1, by omega, rfl, HN.out⟩
            case measure => simp only [intOf]; omega
      · have t1 : ¬ (i : Int) < (L.length : Int) := by omega
        obtain rfl : i = L.length := by omega
        have HF : Hid (Lg L os ∧ Below w.heap.size w wr) := by
          refine ⟨Lg.of HN0.out ?_, HI.out.2⟩
          have := HI.out.1
          rw [← HN0.out, List.take_length] at this
          exact this
        clear HI
        go_wp2_with fail
        go_ret
        exact LgOut.yes HF.out.1 HF.out.2
  · have t1 : ¬ (os.length : Int) = (L.length : Int) := by omega
    have HBD : Hid (¬ Lg L os) := fun hg => hn hg.1
    have HB0 : Hid (Below w.heap.size w w) := Below.refl _ _
    go_enter Try.func14, Try.ntmps14
    go_wp2_with fail
    go_ret
    exact LgOut.no HBD.out HB0.out
end Go.Proofs.Ythgjdmomcpcolaa
