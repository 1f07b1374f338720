/-
  The document's plan: meet, copied.
-/
import Derived.Test.YthgjdmomcpcolaaSw
namespace Go.Proofs.Ythgjdmomcpcolaa
open Go.RowKit
set_option maxRecDepth 100000
theorem meets_no {a b : List Int} (h : ∀ x ∈ a, ∀ y ∈ b, x ≠ y) : meets a b = false := by
  cases c : meets a b with
  | false => rfl
  | true =>
    obtain ⟨x, h1, h2⟩ := meets_iff.1 c
    exact absurd rfl (h x h1 x h2)
set_option maxHeartbeats 8000000 in
theorem dmeet_any {w : World} {va vb : Value} {a b : List Int} (ha : Rl w va a) (hb : Rl w vb b) : Calls Try.prog 39 #[va, vb] w fun e w' => e = .returned (.bool (meets a b)) ∧ Below w.heap.size w w' := by
  have HA := hide ha
  have HB := hide hb
  obtain ⟨aa, ca, rfl, ha1, ha2, ha3⟩ := ha
  obtain ⟨ab, cb, rfl, hb1, hb2, hb3⟩ := hb
  have HA3 := hide ha3
  have HB3 := hide hb3
  obtain ⟨r, hr⟩ : ∃ r, r = meets a b := ⟨_, rfl⟩
  rw [← hr]
  have HRE := hide hr
  clear ha3 hb3 hr
  go_enter Try.func39, Try.ntmps39
  go_wp2_with fail
  go_loopw [5] (fun v5 W => ∃ i : Nat, i ≤ a.length ∧ v5 = .int .i64 (i : Int) ∧ Hid ((∀ x ∈ a.take i, ∀ y ∈ b, x ≠ y) ∧ Below w.heap.size w W)) (fun v5 _ => a.length - (intOf v5).toNat)
  case atStart => exact ⟨0, Nat.zero_le _, rfl, fun x hx => by simp at hx, Below.refl _ _⟩
  case round =>
    obtain ⟨i, hi, rfl, HI⟩ := hrel
    by_cases hlt : i < a.length
    · have t1 : (i : Int) < (a.length : Int) := by omega
      have Q0 : Hid ((∀ y ∈ b.take 0, a[i] ≠ y) ∧ Below w.heap.size w wr) := ⟨fun y hy => by simp at hy, HI.out.2⟩
      have HI1 := hide HI.out.1
      clear HI
      go_wp2_with fail
      go_loopw [6] (fun v6 W => ∃ k : Nat, k ≤ b.length ∧ v6 = .int .i64 (k : Int) ∧ Hid ((∀ y ∈ b.take k, a[i] ≠ y) ∧ Below w.heap.size w W)) (fun v6 _ => b.length - (intOf v6).toNat)
      case atStart => exact ⟨0, Nat.zero_le _, rfl, Q0.out⟩
      case round =>
        obtain ⟨k, hk, rfl, HK⟩ := hrel
        clear Q0
        by_cases hkb : k < b.length
        · have t2 : (k : Int) < (b.length : Int) := by omega
          obtain ⟨g1, o1, rfl, hc1⟩ := HA3.out (by omega)
          obtain ⟨g2, o2, rfl, hc2⟩ := HB3.out (by omega)
          have e1 : wr.cell? ⟨g1, o1 + i, none⟩ = some (.int .i64 a[i]) := (World.cell?_of_block (HK.out.2.block g1 (World.block_lt_of_cell? w _ (hc1 i hlt)))).trans (hc1 i hlt)
          have e2 : wr.cell? ⟨g2, o2 + k, none⟩ = some (.int .i64 b[k]) := (World.cell?_of_block (HK.out.2.block g2 (World.block_lt_of_cell? w _ (hc2 k hkb)))).trans (hc2 k hkb)
          clear hc1 hc2
          have HK2 := hide HK.out.2
          by_cases hxy : a[i] = b[k]
          · have HT : Hid (r = true) := by
              unfold Hid
              rw [HRE.out]
              have hm : a[i] ∈ b := by
                rw [hxy]
                exact List.getElem_mem _
              exact meets_iff.2 ⟨a[i], List.getElem_mem _, hm⟩
            rw [hxy] at e1
            clear HK HI1 hxy
            generalize b[k] = y at *
            go_wp2_with fail
            go_quiet (fail)
            go_wp2_with fail
            go_ret
            refine ⟨?_, below_on HK2.out (below_drawn wr _)⟩
            rw [HT.out]
            rfl
          · have HN : Hid (∀ y ∈ b.take (k + 1), a[i] ≠ y) := fun y hy => by
              rw [List.take_succ_eq_append_getElem hkb, List.mem_append] at hy
              rcases hy with hy | hy
              · exact HK.out.1 y hy
              · rw [List.mem_singleton.1 hy]
                exact hxy
            obtain ⟨x, hx⟩ : ∃ x, x = a[i] := ⟨_, rfl⟩
            obtain ⟨y, hy⟩ : ∃ y, y = b[k] := ⟨_, rfl⟩
            rw [← hx] at e1 hxy
            rw [← hy] at e2 hxy
            have f1 : decide (x = y) = false := decide_eq_false hxy
            have f2 : (x == y) = false := beq_eq_false_iff_ne.2 hxy
            clear HK hx hy
            go_wp2_with fail
            go_quiet (fail)
            go_wp2_with fail
            exact ⟨⟨k + 1, by omega, rfl, HN.out, below_on HK2.out (below_drawn wr _)⟩, by simp only [intOf]; omega⟩
        · have t2 : ¬ (k : Int) < (b.length : Int) := by omega
          obtain rfl : k = b.length := by omega
          have HN : Hid ((∀ x ∈ a.take (i + 1), ∀ y ∈ b, x ≠ y) ∧ Below w.heap.size w wr) := by
            refine ⟨fun x hx => ?_, HK.out.2⟩
            rw [List.take_succ_eq_append_getElem hlt, List.mem_append] at hx
            rcases hx with hx | hx
            · exact HI1.out x hx
            · rw [List.mem_singleton.1 hx]
              have := HK.out.1
              rw [List.take_length] at this
              exact this
          clear HK HI1
          go_wp2_with fail
          go_roundw
          case rel => exact ⟨i + 1, by omega, rfl, HN.out⟩
          case measure => simp only [intOf]; omega
    · have t1 : ¬ (i : Int) < (a.length : Int) := by omega
      obtain rfl : i = a.length := by omega
      have HF : Hid (r = false ∧ Below w.heap.size w wr) := by
        refine ⟨?_, HI.out.2⟩
        rw [HRE.out]
        have := HI.out.1
        rw [List.take_length] at this
        exact meets_no this
      clear HI
      go_wp2_with fail
      go_ret
      refine ⟨?_, HF.out.2⟩
      rw [HF.out.1]
      rfl
theorem dcopied_any {w : World} {v : Value} {l : List Int} (h : Rl w v l) (hl : l.length * 8 ≤ 140737488355328) : Calls Try.prog 25 #[v] w fun e w' => ∃ v', e = .returned v' ∧ Rw w' w.heap.size v' l ∧ Below w.heap.size w w' := by
  have H := hide h
  obtain ⟨a, c, rfl, h1, h2, -⟩ := h
  go_enter Try.func25, Try.ntmps25
  go_wp2_with (at_builtin; refine wpList_append_nums rfl _ _ rfl w.heap.size (.slice none 0 0) 0 [] rfl ⟨rfl, .inl ⟨rfl, rfl⟩⟩ (.slice a l.length c) l rfl H.out ?pA1 ?pA2 ?_)
  case pA1 => simpa using hl
  case pA2 => exact Nat.le_refl _
  intro v8 w8 h8 hg8 _
  have h8' : Rw w8 w.heap.size v8 l := by simpa using h8
  have b8 : Below w.heap.size w w8 := (Below.refl _ w).grown hg8 (Nat.le_refl _) (fun k e => by simp [Value.ownBlock] at e)
  obtain ⟨a8, c8, rfl⟩ := own_len h8'
  have H8 := hide h8'
  have B8 := hide b8
  clear h8 h8' hg8 b8
  go_wp2_with fail
  go_ret
  exact ⟨_, rfl, H8.out, B8.out⟩
end Go.Proofs.Ythgjdmomcpcolaa
