/-
  Verify: stepless: the walk.
-/
import Derived.Test.YtklamaibinjcmaaDoorVfG
namespace Go.Proofs.YtklamaibinjcmaaDoor
open Go.RowKit
set_option maxRecDepth 100000
set_option maxHeartbeats 8000000 in
theorem stepless_any {Q : Nat → Prop} {w : World} {vc vf : Value} {c : List Ins} (h : Il Q w vc c) (hf : ∃ a n c, vf = .slice a n c) (hn : c.length ≤ 2000) : Calls Tryd.prog 58 #[.agg #[vc, vf]] w fun e w' => ∃ gs rs, e = .returned (.slice (some ⟨gs, 0, none⟩) c.length c.length) ∧ Sx w' w.heap.size gs c.length (stl c c.length) rs ∧ Below w.heap.size w w' := by
  have JO : Hid (∀ W p, Below w.heap.size w W → p < c.length → Calls Tryd.prog 63 #[.agg #[vc, vf], .int .i64 (p : Int)] W fun e w' => ∃ v, e = .returned v ∧ w'.ownsRow W.heap.size 3 1 v (onwI c p).length (nz (onwI c p)) ∧ Below W.heap.size W w') := fun W p hW hp => onward_any (h.later hW) hf p hp
  have HI := hide h
  obtain ⟨ao, co, rfl, h1, h2⟩ := h.at
  obtain ⟨af, nf, cf, rfl⟩ := hf
  obtain ⟨i0, hi0, hz0, hz1, hz2⟩ := info_parts infoL
  have HS0 : Hid (List.replicate c.length (Value.slice none 0 0) = List.replicate c.length (Value.slice none 0 0)) := rfl
  obtain ⟨n, hnn⟩ : ∃ n, n = c.length := ⟨_, rfl⟩
  have HN := hide hnn
  have HN2 : Hid (n ≤ 2000) := by unfold Hid; omega
  have hnb : (n : Int) ≤ 2000 := by omega
  obtain ⟨w0, hw0⟩ : ∃ X, X = w.alloc (.cells #[.slice ao c.length co, .slice af nf cf] 67) := ⟨_, rfl⟩
  have B0 : Hid (Below w.heap.size w w0) := by unfold Hid; rw [hw0]; exact below_alloc w _
  have HB0 : Hid (w0.heap[w.heap.size]? = some (.cells #[.slice ao n co, .slice af nf cf] 67 (0, 0))) := by unfold Hid; rw [hw0, hnn]; exact heap_alloc_new w _
  have HC : Hid (∀ (W : World), W.heap[w.heap.size]? = some (.cells #[.slice ao n co, .slice af nf cf] 67 (0, 0)) → W.cell? ⟨w.heap.size, 0, none⟩ = some (.slice ao n co) ∧ W.cell? ⟨w.heap.size, 1, none⟩ = some (.slice af nf cf)) := fun W hb2 => ⟨by rw [cell_of_row _ _ _ _ 67 (0, 0) hb2]; rfl, by rw [cell_of_row _ _ _ _ 67 (0, 0) hb2]; rfl⟩
  obtain ⟨gw, hgw⟩ : ∃ g, g = w.heap.size := ⟨_, rfl⟩
  have HGW := hide hgw
  rw [← hnn] at JO HI h1 hw0 ⊢
  clear h hn hnn
  go_enter Tryd.func58, Tryd.ntmps58
  go_upto_region 1 with fail
  rw [← hw0, ← hgw]
  rw [← hgw] at HC HB0
  obtain ⟨d0, d1⟩ := HC.out w0 HB0.out
  clear hw0 hgw
  go_wp2_with (at_make; refine wpList_make_full _ rfl _ _ 44 rfl w.heap.size 32 i0 (.slice none 0 0) 1 Tryd.underlying44 hi0 hz0 hz1 .i64 .i64 _ _ n rfl rfl ?c1 ?c2 ?c3 ?c4 ?c5 ?_)
  case c1 => rfl
  case c2 => rfl
  case c3 => have := HN2.out; omega
  case c4 => have := HN2.out; unfold maxLen; omega
  case c5 => exact B0.out.size
  intro w1 hown hgrow
  rw [toList_madeCells_one] at hown
  have B1 : Hid (Below w.heap.size w w1) := B0.out.grown hgrow B0.out.size (fun k e => by cases e)
  have HB1 : Hid (w1.heap[gw]? = some (.cells #[.slice ao n co, .slice af nf cf] 67 (0, 0))) := (hgrow.block gw (lt_of_block HB0.out) (by simp)).trans HB0.out
  have hgs : gw < w0.heap.size := lt_of_block HB0.out
  obtain ⟨gs, hgs'⟩ : ∃ g, g = w0.heap.size := ⟨_, rfl⟩
  rw [← hgs'] at hown hgs ⊢
  have Q0 : Hid (Sx w1 w.heap.size gs n (stl c 0) (List.replicate n (.slice none 0 0)) ∧ w1.heap[gw]? = some (.cells #[.slice ao n co, .slice af nf cf] 67 (0, 0)) ∧ Below w.heap.size w w1) := by
    refine ⟨⟨hown, by rw [HN.out]; simp [stl], fun i a b => ?_⟩, HB1.out, B1.out⟩
    simp [stl, nz]
    exact World.ownsRow_nil _ _ _ _
  obtain ⟨d2, d3⟩ := HC.out w1 HB1.out
  clear hown hgrow d0 d1 hgs' HS0
  go_wp2_with fail
  clear d2 d3
  go_loopw [13] (fun v13 W => ∃ i : Nat, i ≤ n ∧ v13 = .int .i64 (i : Int) ∧ ∃ rs, Hid (Sx W w.heap.size gs n (stl c i) rs ∧ W.heap[gw]? = some (.cells #[.slice ao n co, .slice af nf cf] 67 (0, 0)) ∧ Below w.heap.size w W)) (fun v13 _ => n - (intOf v13).toNat)
  case atStart => exact ⟨0, Nat.zero_le _, rfl, _, Q0.out⟩
  case round =>
    obtain ⟨i, hi, rfl, rs, HR⟩ := hrel
    clear Q0
    by_cases hlt : i < n
    · have t1 : (i : Int) < (n : Int) := by omega
      obtain ⟨g, o, rfl, hq, e1, e2, -, -⟩ := (HI.out.later HR.out.2.2).nth (k := i) (by have := HN.out; omega)
      obtain ⟨d0, d1⟩ := HC.out wr HR.out.2.1
      have hil : i < c.length := by have := HN.out; omega
      have HSI : Hid (stlI c i = if c[i].op ≠ 24 ∧ c[i].op ≠ 21 then onwI c i else []) := by
        unfold Hid stlI
        rw [iat_eq hil]
      obtain ⟨op, hop⟩ : ∃ x, x = c[i].op := ⟨_, rfl⟩
      obtain ⟨av, hav⟩ : ∃ x, x = c[i].a := ⟨_, rfl⟩
      rw [← hop] at e1 HSI
      rw [← hav] at e2
      clear hop hav
      go_upto_region 5 with fail
      obtain ⟨w5, hw5⟩ : ∃ X, X = wr.alloc (.cells #[.int .i64 op, .int .i64 av] 47) := ⟨_, rfl⟩
      have b5 : Below wr.heap.size wr w5 := by rw [hw5]; exact below_alloc _ _
      have hb5 : w5.heap[wr.heap.size]? = some (.cells #[.int .i64 op, .int .i64 av] 47 (0, 0)) := by rw [hw5]; exact heap_alloc_new wr _
      obtain ⟨gi, hgi⟩ : ∃ x, x = wr.heap.size := ⟨_, rfl⟩
      rw [← hw5, ← hgi]
      have k1 : w5.cell? ⟨gi, 0, none⟩ = some (.int .i64 op) := by rw [hgi, cell_of_row _ _ _ _ 47 (0, 0) hb5]; rfl
      have R5 : Hid (Sx w5 w.heap.size gs n (stl c i) rs ∧ w5.heap[gw]? = some (.cells #[.slice (some ⟨g, o, none⟩) n co, .slice af nf cf] 67 (0, 0)) ∧ Below w.heap.size w w5) := ⟨HR.out.1.later b5, (b5.block _ (lt_of_block HR.out.2.1)).trans HR.out.2.1, below_on HR.out.2.2 b5⟩
      clear HR e1 e2 d0 d1 hw5 b5 hb5 hgi
      obtain ⟨d0, d1⟩ := HC.out w5 R5.out.2.1
      by_cases c24 : op = 24
      · subst c24
        have HE : Hid (stl c (i + 1) = stl c i) := stl_skip (by rw [HSI.out]; simp)
        go_wp2_with fail
        go_roundw
        case rel => exact ⟨i + 1, by omega, rfl, rs, by rw [HE.out]; exact R5.out⟩
        case measure => simp only [intOf]; omega
      · have f24 : (op == 24) = false := beq_eq_false_iff_ne.2 c24
        by_cases c21 : op = 21
        · subst c21
          have HE : Hid (stl c (i + 1) = stl c i) := stl_skip (by rw [HSI.out]; simp)
          go_wp2_with fail
          go_roundw
          case rel => exact ⟨i + 1, by omega, rfl, rs, by rw [HE.out]; exact R5.out⟩
          case measure => simp only [intOf]; omega
        · have f21 : (op == 21) = false := beq_eq_false_iff_ne.2 c21
          have g21 : (op != 21) = true := by simp [c21]
          have g24 : (op != 24) = true := by simp [c24]
          have HE : Hid (stlI c i = onwI c i) := HSI.out.trans (if_pos ⟨c24, c21⟩)
          have J := hide (JO.out w5 i R5.out.2.2 (by have := HN.out; omega))
          go_wp2_with fail
          refine J.out.mono ?_
          rintro e w6 ⟨v6, rfl, r6, b6⟩
          have S6 := hide (R5.out.1.later b6)
          have hb6 : w6.heap[gw]? = some (.cells #[.slice (some ⟨g, o, none⟩) n co, .slice af nf cf] 67 (0, 0)) := (b6.block _ (lt_of_block R5.out.2.1)).trans R5.out.2.1
          have B6 := hide (below_on R5.out.2.2 b6)
          have k6 : ∃ u, w6.cell? ⟨gs, i, none⟩ = some u := by
            rw [S6.out.row.cellAt i (by omega)]
            exact ⟨_, List.getElem?_eq_getElem (by have := S6.out.rl; omega)⟩
          obtain ⟨u6, k6⟩ := k6
          have f6 := S6.out.row.frozenAt i
          have R7 : Hid (Sx (w6.setCell ⟨gs, i, none⟩ v6) w.heap.size gs n (stl c (i + 1)) (rs.set i v6) ∧ (w6.setCell ⟨gs, i, none⟩ v6).heap[gw]? = some (.cells #[.slice (some ⟨g, o, none⟩) n co, .slice af nf cf] 67 (0, 0)) ∧ Below w.heap.size w (w6.setCell ⟨gs, i, none⟩ v6)) := by
            refine ⟨?_, (heap_setCell_other w6 ⟨gs, i, none⟩ gw v6 (by show gw ≠ gs; omega)).trans hb6, B6.out.setCell (by show w.heap.size ≤ gs; have := HGW.out; omega) v6⟩
            rw [← stl_set, HE.out]
            exact S6.out.put (own_lower r6 R5.out.2.2.size)
          obtain ⟨a6, c6, rfl⟩ := own_len r6
          clear r6 b6 hb6 d0 d1 k1
          go_wp2_with fail
          go_roundw
          case rel => exact ⟨i + 1, by omega, rfl, _, R7.out⟩
          case measure => simp only [intOf]; omega
    · have hin : i = n := by omega
      subst hin
      go_wp2_with fail
      go_ret
      exact ⟨gs, rs, rfl, HN.out ▸ HR.out.1, HR.out.2.2⟩
end Go.Proofs.YtklamaibinjcmaaDoor
