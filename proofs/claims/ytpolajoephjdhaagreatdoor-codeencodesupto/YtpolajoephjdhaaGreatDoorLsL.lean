/-
  The law's lent.
-/
import Derived.Test.YtpolajoephjdhaaGreatDoorLpA
namespace Go.Proofs.YtpolajoephjdhaaGreatDoor
open Go.RowKit
set_option maxRecDepth 100000
set_option maxHeartbeats 4000000 in
theorem lent_at {Q : Nat → Prop} {W : World} {n c : Nat} {ao : Option Addr} (nm : ByteArray) (pa lo : Int) (code : List Ins) (hn : n = code.length) (_hc1 : n ≤ c) (_hc2 : c ≤ 9223372036854775807) (h : Il Q W (.slice ao n c) code) (hz : n ≤ 1048576) : Calls Tryz.prog 12 #[.agg #[.string nm, .int .i64 pa, .int .i64 lo, .slice ao n c]] W fun e w' => ∃ g, e = .returned (.tuple #[.agg #[.string nm, .int .i64 pa, .int .i64 lo, .slice (some ⟨g, 0, none⟩) n (n + 80)], .slice (some ⟨g, 0, none⟩) (n + 80) (n + 80)]) ∧ W.heap.size ≤ g ∧ RwI w' g (code ++ List.replicate 80 mkI) ∧ Below W.heap.size W w' := by
  obtain ⟨w0, hw0⟩ : ∃ X, X = W.alloc (.cells #[.string nm, .int .i64 pa, .int .i64 lo, .slice ao n c] 45) := ⟨_, rfl⟩
  obtain ⟨w1, hw1⟩ : ∃ X, X = w0.alloc (.cells #[.string ⟨#[]⟩, .int .i64 0, .int .i64 0, .slice none 0 0] 45) := ⟨_, rfl⟩
  have B0 : Below W.heap.size W w0 := hw0 ▸ below_alloc W _
  have B1 : Below w0.heap.size w0 w1 := hw1 ▸ below_alloc w0 _
  obtain ⟨B, hB⟩ : ∃ B, B = W.heap.size := ⟨_, rfl⟩
  obtain ⟨C, hC⟩ : ∃ C, C = w0.heap.size := ⟨_, rfl⟩
  have e0 : w0.heap.size = W.heap.size + 1 := by rw [hw0]; exact Array.size_push ..
  have n0 : w0.heap[B]? = some (.cells #[.string nm, .int .i64 pa, .int .i64 lo, .slice ao n c] 45 (0, 0)) := by rw [hw0, hB]; exact heap_alloc_new W _
  have n1 : w1.heap[C]? = some (.cells #[.string ⟨#[]⟩, .int .i64 0, .int .i64 0, .slice none 0 0] 45 (0, 0)) := by rw [hw1, hC]; exact heap_alloc_new w0 _
  have n2 := (B1.block B (lt_of_block n0)).trans n0
  have N1 := hide n1
  have N2 := hide n2
  have HCB : Hid (C = B + 1 ∧ W.heap.size = B) := ⟨by omega, hB.symm⟩
  have Y1 := hide (below_on B0 B1)
  have H1 := hide ((h.later B0).later B1)
  have HN := hide hn
  obtain ⟨c0, c1, c2, c3⟩ := row4 n2
  obtain ⟨ic, hi, hz0, hz1, hz2⟩ := info_parts infoI
  clear n0 n1 n2 B0 B1 h hn
  go_enter Tryz.func12, Tryz.ntmps12
  go_upto_region 1 with fail
  rw [← e0, ← hB, ← hC, ← hw0, ← hw1]
  clear hw0 hw1 e0 hB hC
  go_wp2_with (at_make; refine wpList_make_full _ rfl _ _ 43 rfl w1.heap.size 56 ic (.agg #[.int .i64 0, .int .i64 0]) 2 Tryz.underlying43 hi hz0 hz1 .i64 .i64 _ _ (n + 80) rfl rfl ?c1 ?c2 ?c3 ?c4 ?c5 ?_)
  case c1 => omega
  case c2 => omega
  case c3 => rw [hz2]; omega
  case c4 => unfold maxLen; omega
  case c5 => omega
  intro w2 hown hgrow
  rw [made_ins] at hown
  have R2 := hide (own_blockI hown)
  obtain ⟨g, hg⟩ : ∃ g, g = w1.heap.size := ⟨_, rfl⟩
  rw [← hg] at R2 ⊢
  have HG : Hid (C < g ∧ B < g) := by
    have := lt_of_block N1.out
    have := lt_of_block N2.out
    exact ⟨by omega, by omega⟩
  have b2 : Below w1.heap.size w1 w2 := (Below.refl _ _).grown hgrow (Nat.le_refl _) (by intro k hk; cases hk)
  have X2 := hide b2
  have N3 := hide ((b2.block C (lt_of_block N1.out)).trans N1.out)
  have N4 := hide ((b2.block B (lt_of_block N2.out)).trans N2.out)
  have H2 := hide (H1.out.later b2)
  rw [HN.out] at H2
  have HS := hide (H2.out.src (Below.refl _ _))
  have X1s : Hid (g = w1.heap.size) := hg
  clear c0 c1 c2 c3 hown hgrow N1 N2 H1 b2 hg hi hz0 hz1 hz2
  obtain ⟨c0, c1, c2, c3⟩ := row4 N4.out
  go_wp2_with (refine wpList_copy_S rfl _ _ 43 43 rfl 56 2 Tryz.underlying43 sizeI (by omega) _ _ _ _ _ _ rfl rfl g 0 (insC (List.replicate (n + 80) ⟨0, 0⟩)) 56 R2.out (insC code) ?d1 ?d2 ?d3 (insC_one code) ?_)
  case d1 => rw [insC_len, ← HN.out]; show n * 2 = min n (n + 80) * 2; rw [Nat.min_eq_left (by omega)]
  case d2 => intro h0; first | exact ⟨rfl, HS.out h0⟩ | exact HS.out h0
  case d3 => rw [insC_len, insC_len, List.length_replicate, ← HN.out]; omega
  intro w3 hr3 hg3
  have hsp := splice_I code
  rw [← HN.out] at hsp
  rw [hsp] at hr3
  have R3 : Hid (RwI w3 g (filI code 0)) := hr3
  have X3 : Hid (Below w1.heap.size w1 w3) := X2.out.grown hg3 X2.out.size (fun k e => by
    cases e
    have h1 := R2.out.lt
    have h2 := HG.out
    have h3 := HCB.out
    have := X1s.out
    omega)
  have mg : Mv w2 w3 (fun j => j = g) := (Mv.refl w2 (fun j => j = g)).grown hg3 (fun k _ e => by cases e; rfl)
  have N5 := hide (mg.at N3.out (by have := HG.out; omega))
  have N6 := hide (mg.at N4.out (by have := HG.out; omega))
  clear c0 c1 c2 c3 hr3 hg3 mg N3 N4 H2 HS R2 X2 hsp
  obtain ⟨c0, c1, c2, c3⟩ := row4 N6.out
  have HL : Hid (∀ k, k ≤ 80 → (filI code k).length = n + 80) := fun k hk => by rw [filI_len code k hk, HN.out]
  go_wp2_with fail
  go_loopw [5] (fun v wr => ∃ k : Nat, v = .int .i64 ((n + k : Nat) : Int) ∧ k ≤ 80 ∧ Hid (RwI wr g (filI code k)) ∧ Hid (Below w1.heap.size w1 wr) ∧ Hid (Mv w3 wr (fun j => j = g))) (fun v _ => n + 80 - (intOf v).toNat)
  case atStart => exact ⟨0, rfl, by omega, R3.out, X3.out, Mv.refl _ _⟩
  case round =>
    obtain ⟨k, rfl, hk, hr, hb, hm⟩ := hrel
    by_cases hlt : k < 80
    · obtain ⟨y0, y1⟩ := hr.out.cell (k := n + k) (by rw [HL.out k hk]; omega)
      have hf := hr.out.frozen
      have NX : Hid (RwI ((wr.setCell ⟨g, (n + k) * 2, none⟩ (.int .i64 (-7))).setCell ⟨g, (n + k) * 2 + 1, none⟩ (.int .i64 0)) g (filI code (k + 1))) := by
        have := hr.out.set (k := n + k) (by rw [HL.out k hk]; omega) mkI
        rw [HN.out, filI_set code k hlt, ← HN.out] at this
        exact this
      have MX : Hid (Mv w3 ((wr.setCell ⟨g, (n + k) * 2, none⟩ (.int .i64 (-7))).setCell ⟨g, (n + k) * 2 + 1, none⟩ (.int .i64 0)) (fun j => j = g)) := hm.out.trans (setR_mv _ _) (fun _ _ e => e)
      have BX : Hid (Below w1.heap.size w1 ((wr.setCell ⟨g, (n + k) * 2, none⟩ (.int .i64 (-7))).setCell ⟨g, (n + k) * 2 + 1, none⟩ (.int .i64 0))) := by
        have := X1s.out
        exact (hb.out.setCell (p := ⟨g, (n + k) * 2, none⟩) (by show w1.heap.size ≤ g; omega) _).setCell (p := ⟨g, (n + k) * 2 + 1, none⟩) (by show w1.heap.size ≤ g; omega) _
      go_wp2_with fail
      exact ⟨⟨k + 1, by go_num, by omega, NX.out, BX.out, MX.out⟩, by simp [intOf]; omega⟩
    · obtain rfl : k = 80 := by omega
      have hgC := HG.out
      have hcb := HCB.out
      have N7 := hide (hm.out.at N6.out (by omega))
      have N8 := hide (hm.out.at N5.out (by omega))
      clear c0 c1 c2 c3
      obtain ⟨c0, c1, c2, c3⟩ := row4 N7.out
      obtain ⟨d0, d1, d2, d3⟩ := row4 N8.out
      have zB : ∀ q, wr.frozen? ⟨B, q, none⟩ = false := fun q => frozen_of_row wr B q _ 45 N7.out
      have zC : ∀ q, wr.frozen? ⟨C, q, none⟩ = false := fun q => frozen_of_row wr C q _ 45 N8.out
      have hBC : B ≠ C := by omega
      have hCB : C ≠ B := by omega
      have HW := hide hcb.2
      have HCC := hide hcb.1
      clear hgC hcb
      go_wp2_with fail
      have m1 := (Mv.refl wr (fun j => j = B)).set (g := B) rfl 3 (.slice (some ⟨g, 0, none⟩) n (n + 80))
      have m2 := w4s_mv (wr.setCell ⟨B, 3, none⟩ (.slice (some ⟨g, 0, none⟩) n (n + 80))) C (.string nm) (.int .i64 pa) (.int .i64 lo) (.slice (some ⟨g, 0, none⟩) n (n + 80))
      have rC := m1.at N8.out hCB
      have hr' := hr.out
      rw [filI_end] at hr'
      refine bodyPost_ret (res_rt rfl rfl rfl (w4s_row _ _ _ _ rC)) rfl ⟨g, rfl, ?_, ?_, ?_⟩
      · have := HG.out; have := HW.out; omega
      · exact (hr'.mv m1 (by have := HG.out; omega)).mv m2 (by have := HG.out; omega)
      · exact w4s_below _ _ _ _ ((below_on Y1.out hb.out).setCell (p := ⟨B, 3, none⟩) (by show W.heap.size ≤ B; have := HW.out; omega) _) (by have := HW.out; have := HCC.out; omega)
theorem lent_any {Q : Nat → Prop} {W : World} {vc : Value} (r : Rt) (h : Il Q W vc r.code) (hz : r.code.length ≤ 1048576) : Calls Tryz.prog 12 #[rtV r vc] W fun e w' => ∃ g, e = .returned (.tuple #[.agg #[.string r.name, .int .i64 r.pa, .int .i64 r.lo, .slice (some ⟨g, 0, none⟩) r.code.length (r.code.length + 80)], .slice (some ⟨g, 0, none⟩) (r.code.length + 80) (r.code.length + 80)]) ∧ W.heap.size ≤ g ∧ RwI w' g (r.code ++ List.replicate 80 mkI) ∧ Below W.heap.size W w' := by
  obtain ⟨ao, c, rfl, hc1, hc2⟩ := h.at
  exact lent_at r.name r.pa r.lo r.code rfl hc1 hc2 h hz
end Go.Proofs.YtpolajoephjdhaaGreatDoor
