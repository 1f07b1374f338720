/-
  CodeLists.
-/
import Derived.Test.YtpolajoephjdhaaGreatDoorLmE
namespace Go.Proofs.YtpolajoephjdhaaGreatDoor
open Go.RowKit
set_option maxRecDepth 1000000
theorem own_row_ne {w : World} {B e s n P T : Nat} {v : Value} {xs : List Value} {cs : Array Value} {f : Nat × Nat} (h : w.ownsRow B e s v n xs) (hp : w.heap[P]? = some (.cells cs T f)) (hne : e ≠ T) : ¬ v.ownBlock = some P := by
  intro he
  obtain ⟨-, ⟨rfl, -⟩ | ⟨g, cap, cur, rfl, hB, hg, -⟩⟩ := h
  · cases he
  · have : g = P := by simpa [Value.ownBlock] using he
    subst this
    rw [hg] at hp
    simp at hp
    exact hne hp.2.1
set_option maxHeartbeats 8000000 in
theorem lists_at {Q : Nat → Prop} {W : World} {n c : Nat} {ao : Option Addr} (nm : ByteArray) (pa lo : Int) (code : List Ins) (s : ByteArray) (hn : n = code.length) (hc1 : n ≤ c) (hc2 : c ≤ 9223372036854775807) (h : Il Q W (.slice ao n c) code) (hQ : ∀ j, Q j → j < W.heap.size) (i1 : I6 pa) (i2 : I6 lo) (hz : n ≤ 1048576) (hs : s.size ≤ 1048576) (hnm : nm.size ≤ 9223372036854775807) (hk : Kd W) : Calls Tryz.prog 5 #[.agg #[.string nm, .int .i64 pa, .int .i64 lo, .slice ao n c], .string s] W fun e w' => e = .returned (.bool true) ∧ Below W.heap.size W w' := by
  obtain ⟨w0, hw0⟩ : ∃ X, X = W.alloc (.cells #[.string nm, .int .i64 pa, .int .i64 lo, .slice ao n c] 45) := ⟨_, rfl⟩
  have B0 : Below W.heap.size W w0 := hw0 ▸ below_alloc W _
  obtain ⟨B, hB⟩ : ∃ B, B = W.heap.size := ⟨_, rfl⟩
  have n0 : w0.heap[B]? = some (.cells #[.string nm, .int .i64 pa, .int .i64 lo, .slice ao n c] 45 (0, 0)) := by rw [hw0, hB]; exact heap_alloc_new W _
  have e0 : w0.heap.size = W.heap.size + 1 := by rw [hw0]; exact Array.size_push ..
  have AT : Hid (∀ w', Below w0.heap.size w0 w' → w'.cell? ⟨B, 0, none⟩ = some (.string nm) ∧ w'.cell? ⟨B, 1, none⟩ = some (.int .i64 pa) ∧ w'.cell? ⟨B, 2, none⟩ = some (.int .i64 lo) ∧ w'.cell? ⟨B, 3, none⟩ = some (.slice ao n c)) := fun w' hb => row4 ((hb.block B (lt_of_block n0)).trans n0)
  have Y0 := hide B0
  have FA : Hid (∀ w', Below w0.heap.size w0 w' → Il Q w' (.slice ao n c) code ∧ Kd w') := fun w' hb => ⟨h.later (below_on Y0.out hb), hk.later (below_on Y0.out hb)⟩
  have HN := hide hn
  have C6 : Hid (∀ i ∈ code ++ List.replicate 80 mkI, I6 i.op ∧ I6 i.a) := fun i hi => by
    rcases List.mem_append.1 hi with hi | hi
    · obtain ⟨k, hk, rfl⟩ := List.getElem_of_mem hi
      obtain ⟨-, -, -, -, -, -, a, b⟩ := h.nth hk
      exact ⟨a, b⟩
    · rw [List.mem_replicate] at hi
      rw [hi.2]
      exact ⟨⟨by decide, by decide⟩, ⟨by decide, by decide⟩⟩
  have HQ : Hid (∀ j, Q j → j < W.heap.size) := hQ
  have SZ0 := hide e0
  have I1 := hide i1
  have I2 := hide i2
  have SL := hide hs
  have NM := hide hnm
  clear n0 B0 h hk hn hQ i1 i2 hs hnm
  go_enter Tryz.func5, Tryz.ntmps5
  go_upto_region 1 with fail
  rw [← hB, ← hw0]
  clear hw0 hB e0
  have J := hide (shown_any w0 (FA.out w0 (Below.refl _ _)).2)
  go_wp2_with fail
  refine J.out.mono ?_
  rintro e w1 ⟨rfl, b1, -⟩
  have X1 := hide b1
  clear J b1
  obtain ⟨c0, c1, c2, c3⟩ := AT.out w1 X1.out
  have J := hide (lent_at nm pa lo code HN.out hc1 hc2 (FA.out w1 X1.out).1 hz)
  go_wp2_with fail
  refine J.out.mono ?_
  rintro e w2 ⟨g, rfl, hg, hr2, b2⟩
  obtain ⟨w3, hw3⟩ : ∃ X, X = w2.alloc (.cells #[.string nm, .int .i64 pa, .int .i64 lo, .slice (some ⟨g, 0, none⟩) n (n + 80)] 45) := ⟨_, rfl⟩
  have b3 : Below w2.heap.size w2 w3 := hw3 ▸ below_alloc w2 _
  obtain ⟨X, hX⟩ : ∃ X, X = w2.heap.size := ⟨_, rfl⟩
  have n3 : w3.heap[X]? = some (.cells #[.string nm, .int .i64 pa, .int .i64 lo, .slice (some ⟨g, 0, none⟩) n (n + 80)] 45 (0, 0)) := by rw [hw3, hX]; exact heap_alloc_new w2 _
  have R3 := hide (hr2.later b3)
  have X3 := hide (below_on X1.out (below_on b2 b3))
  have N3 := hide n3
  have GX : Hid (g < X ∧ w1.heap.size ≤ g) := ⟨by have := hr2.lt; omega, hg⟩
  have GW : Hid (w0.heap.size ≤ g) := by have := X1.out.size; unfold Hid; omega
  clear c0 c1 c2 c3 J hr2 b2 b3 n3 hg
  go_upto_region 3 with fail
  rw [← hX, ← hw3]
  clear hw3 hX
  obtain ⟨d0, d1, d2, d3⟩ := row4 N3.out
  have IL3 := hide (R3.out.il (n := n) (c := n + 80) (by rw [List.length_append, ← HN.out]; omega) (by omega) (by unfold maxLen; omega) C6.out)
  have TK : Hid ((code ++ List.replicate 80 mkI).take n = code) := by unfold Hid; rw [HN.out]; simp
  rw [TK.out] at IL3
  have J := hide (list_at nm pa lo code HN.out (by omega) (by omega) IL3.out I1.out I2.out (FA.out w3 X3.out).2)
  go_wp2_with fail
  refine J.out.mono ?_
  rintro e w4 ⟨rfl, b4⟩
  have X4 := hide (below_on X3.out b4)
  have R4 := hide (R3.out.later b4)
  have N4 := hide ((b4.block X (lt_of_block N3.out)).trans N3.out)
  clear J d0 d1 d2 d3 b4 R3 N3 IL3
  obtain ⟨c0, c1, c2, c3⟩ := AT.out w4 X4.out
  have J := hide (still_at nm pa lo code HN.out hc1 hc2 (FA.out w4 X4.out).1 R4.out (fun e => by have := HQ.out g e; have := GW.out; have := SZ0.out; omega) hz)
  obtain ⟨te, hte⟩ : ∃ t, t = listB ⟨nm, pa, lo, code⟩ := ⟨_, rfl⟩
  rw [← hte]
  have TE := hide hte
  clear hte
  go_wp2_with fail
  refine J.out.mono ?_
  rintro e w5 ⟨rfl, r5, m5⟩
  have R5 := hide r5
  have X5 : Hid (Below w0.heap.size w0 w5) := X4.out.trans (m5.below X4.out.size (fun j e => by rw [e]; exact GW.out))
  have N5 := hide (m5.at N4.out (by have := GX.out; omega))
  clear J c0 c1 c2 c3 r5 m5 R4 N4
  have L8 : Hid ((List.replicate (n + 80) mk8).length = n + 80) := by unfold Hid; simp
  go_wp2_with fail
  go_loopw [10] (fun v wr => ∃ k : Nat, v = .int .i64 (k : Int) ∧ k ≤ n + 80 ∧ Hid (RwI wr g (stpI (List.replicate (n + 80) mk8) k)) ∧ Hid (Mv w5 wr (fun j => j = g))) (fun v _ => n + 80 - (intOf v).toNat)
  case atStart => exact ⟨0, rfl, by omega, R5.out, Mv.refl _ _⟩
  case round =>
    obtain ⟨k, rfl, hk, hr, hm⟩ := hrel
    by_cases hlt : k < n + 80
    · have hkl : k < (List.replicate (n + 80) mk8).length := by rw [L8.out]; exact hlt
      have hko : k < (stpI (List.replicate (n + 80) mk8) k).length := by rw [stpI_len _ k (by omega)]; exact hkl
      obtain ⟨y0, y1⟩ := hr.out.cell hko
      have hf := hr.out.frozen
      have NX : Hid (RwI ((wr.setCell ⟨g, k * 2, none⟩ (.int .i64 24)).setCell ⟨g, k * 2 + 1, none⟩ (.int .i64 0)) g (stpI (List.replicate (n + 80) mk8) (k + 1))) := by
        have := hr.out.set hko mk24
        rw [stpI_set _ k hkl] at this
        exact this
      have MX : Hid (Mv w5 ((wr.setCell ⟨g, k * 2, none⟩ (.int .i64 24)).setCell ⟨g, k * 2 + 1, none⟩ (.int .i64 0)) (fun j => j = g)) := hm.out.trans (setR_mv _ _) (fun _ _ e => e)
      go_wp2_with fail
      exact ⟨⟨k + 1, by go_num, by omega, NX.out, MX.out⟩, by simp [intOf]; omega⟩
    · obtain rfl : k = n + 80 := by omega
      have R6 : Hid (RwI wr g (List.replicate (n + 80) mk24)) := by
        have h1 := hr.out
        have h2 := stpI_end (List.replicate (n + 80) mk8)
        rw [L8.out] at h2
        rw [h2] at h1
        exact h1
      have X6 : Hid (Below w0.heap.size w0 wr) := X5.out.trans (hm.out.below X5.out.size (fun j e => by rw [e]; exact GW.out))
      have N6 := hide (hm.out.at N5.out (by have := GX.out; omega))
      clear hr hm N5 R5
      obtain ⟨c0, c1, c2, c3⟩ := AT.out wr X6.out
      obtain ⟨w7, hw7⟩ : ∃ X, X = wr.alloc (.cells #[.string nm, .int .i64 pa, .int .i64 lo, .slice ao n c] 45) := ⟨_, rfl⟩
      have b7 : Below wr.heap.size wr w7 := hw7 ▸ below_alloc wr _
      obtain ⟨Y, hY⟩ : ∃ Y, Y = wr.heap.size := ⟨_, rfl⟩
      have n7 : w7.heap[Y]? = some (.cells #[.string nm, .int .i64 pa, .int .i64 lo, .slice ao n c] 45 (0, 0)) := by rw [hw7, hY]; exact heap_alloc_new wr _
      have X7 := hide (below_on X6.out b7)
      have R7 := hide (R6.out.later b7)
      have N7 := hide ((b7.block X (lt_of_block N6.out)).trans N6.out)
      have NY := hide n7
      have XY : Hid (X < Y) := by have := lt_of_block N6.out; unfold Hid; omega
      clear b7 n7 R6 N6 X6
      go_upto_region 10 with fail
      rw [← hY, ← hw7]
      clear hw7 hY c0 c1 c2 c3
      obtain ⟨ic, hi, hz0, hz1, hz2⟩ := info_parts infoI
      obtain ⟨d0, d1, d2, d3⟩ := row4 (((below_alloc w7 (.cells #[] 56)).block X (lt_of_block N7.out)).trans N7.out)
      have IL8 : Hid (Il (fun j => j = g) (w7.alloc (.cells #[] 56)) (.slice (some ⟨g, 0, none⟩) (List.replicate n mk24).length (n + 80)) (List.replicate n mk24)) := by
        have := (R7.out.later (below_alloc w7 (.cells #[] 56))).il (n := n) (c := n + 80) (by simp) (by omega) (by unfold maxLen; omega) (rep24_six _)
        rw [List.take_replicate, Nat.min_eq_left (by omega)] at this
        rw [List.length_replicate]
        exact this
      have SR := hide (IL8.out.src (Below.refl _ _))
      have hn24 : Hid ((insC (List.replicate n mk24)).length = n * 2) := by unfold Hid; rw [insC_len]; simp
      have gx := GX.out
      have xy := XY.out
      have y7 := lt_of_block NY.out
      go_wp2_with (at_builtin; refine wpList_append_own _ rfl _ _ 43 rfl w7.heap.size 56 ic (.agg #[.int .i64 0, .int .i64 0]) 2 16 Tryz.underlying43 hi hz0 hz1 hz2 rfl (by decide) _ _ _ rfl (own_litI w7) ⟨g, 0, none⟩ n (n + 80) (insC (List.replicate n mk24)) rfl hn24.out ?c1 (insC_one _) ?c3 ?c4 ?c5 ?_)
      case c1 =>
        intro j u hj
        obtain ⟨ad, ea, hc⟩ := SR.out (by have := (List.getElem?_eq_some_iff.1 hj).1; omega)
        injection ea with ea
        rw [ea]
        exact hc j u hj
      case c3 => unfold maxLen; omega
      case c4 => omega
      case c5 => simp
      intro v9 w9 ho9 hg9 _
      have m9 := (Mv.of_below (below_alloc w7 (.cells #[] 56)) (fun j => j = w7.heap.size)).grown hg9 (fun j _ e => by simp [Value.ownBlock] at e; exact e.symm)
      have NY9 := hide (m9.at NY.out (by omega))
      have NX9 := hide (m9.at N7.out (by omega))
      have R9 := hide (R7.out.mv m9 (by omega))
      have X9 : Hid (Below w0.heap.size w0 w9) := X7.out.trans (m9.below X7.out.size (fun j e => by have := X7.out.size; omega))
      obtain ⟨a9, c9, rfl⟩ := own_len ho9
      obtain ⟨y0, y1, y2, y3⟩ := row4 NY9.out
      have zY : ∀ q, w9.frozen? ⟨Y, q, none⟩ = false := fun q => frozen_of_row w9 Y q _ 45 NY9.out
      obtain ⟨wa, hwa⟩ : ∃ X, X = w9.setCell ⟨Y, 3, none⟩ (.slice a9 n c9) := ⟨_, rfl⟩
      have ma : Mv w9 wa (fun j => j = Y) := by rw [hwa]; exact (Mv.refl w9 (fun j => j = Y)).set (g := Y) rfl 3 _
      have NYa : Hid (wa.heap[Y]? = some (.cells #[.string nm, .int .i64 pa, .int .i64 lo, .slice a9 n c9] 45 (0, 0))) := by unfold Hid; rw [hwa]; exact heap_setCell_same w9 Y 3 _ 45 _ NY9.out
      have NXa := hide (ma.at NX9.out (by omega))
      have Ra := hide (R9.out.mv ma (by omega))
      have Oa := hide (ma.own ho9 (fun j e1 e2 => by have := (ho9.lt j e1).1; omega))
      have Xa : Hid (Below w0.heap.size w0 wa) := X9.out.trans (ma.below X9.out.size (fun j e => by have := GW.out; omega))
      clear d0 d1 d2 d3 IL8 SR hn24 gx xy y7 ho9 hg9 m9 NY9 NX9 R9 X9 ma NY N7 R7 X7 hi hz0 hz1 hz2
      go_upto_region 11 with fail
      rw [← hwa]
      clear hwa y0 y1 y2 y3 zY
      obtain ⟨d0, d1, d2, d3⟩ := row4 NXa.out
      obtain ⟨y0, y1, y2, y3⟩ := row4 NYa.out
      have ILX : Hid (Il (fun j => j = g) wa (.slice (some ⟨g, 0, none⟩) n (n + 80)) (List.replicate n mk24)) := by
        have := Ra.out.il (n := n) (c := n + 80) (by simp) (by omega) (by unfold maxLen; omega) (rep24_six _)
        rw [List.take_replicate, Nat.min_eq_left (by omega)] at this
        exact this
      have ILY : Hid (Il (fun j => w7.heap.size ≤ j) wa (.slice a9 n c9) (List.replicate n mk24)) := own_il (by rw [List.length_replicate]; exact Oa.out) (rep24_six _)
      have JX : Hid (∀ w', Below wa.heap.size wa w' → Calls Tryz.prog 17 #[.agg #[.string nm, .int .i64 pa, .int .i64 lo, .slice (some ⟨g, 0, none⟩) n (n + 80)]] w' fun e w'' => e = .returned (.string (listB ⟨nm, pa, lo, List.replicate n mk24⟩)) ∧ Below w'.heap.size w' w'') := fun w' hb => list_at nm pa lo (List.replicate n mk24) (by simp) (by omega) (by omega) (ILX.out.later hb) I1.out I2.out (FA.out w' (below_on Xa.out hb)).2
      have JY : Hid (∀ w', Below wa.heap.size wa w' → Calls Tryz.prog 18 #[.agg #[.string nm, .int .i64 pa, .int .i64 lo, .slice a9 n c9]] w' fun e w'' => e = .returned (.string (listB ⟨nm, pa, lo, List.replicate n mk24⟩)) ∧ Below w'.heap.size w' w'') := fun w' hb => by
        obtain ⟨ao', c', e, h1, h2⟩ := ILY.out.at
        rw [List.length_replicate] at e h1
        injection e with e1 e2 e3
        subst e1 e3
        exact dlist_at nm pa lo (List.replicate n mk24) (by simp) h1 h2 (ILY.out.later hb) I1.out I2.out NM.out
      have KL : Hid (∀ w', Below wa.heap.size wa w' → (w'.cell? ⟨X, 0, none⟩ = some (.string nm) ∧ w'.cell? ⟨X, 1, none⟩ = some (.int .i64 pa) ∧ w'.cell? ⟨X, 2, none⟩ = some (.int .i64 lo) ∧ w'.cell? ⟨X, 3, none⟩ = some (.slice (some ⟨g, 0, none⟩) n (n + 80))) ∧ w'.cell? ⟨Y, 0, none⟩ = some (.string nm) ∧ w'.cell? ⟨Y, 1, none⟩ = some (.int .i64 pa) ∧ w'.cell? ⟨Y, 2, none⟩ = some (.int .i64 lo) ∧ w'.cell? ⟨Y, 3, none⟩ = some (.slice a9 n c9)) := fun w' hb => ⟨row4 ((hb.block X (lt_of_block NXa.out)).trans NXa.out), row4 ((hb.block Y (lt_of_block NYa.out)).trans NYa.out)⟩
      generalize listB ⟨nm, pa, lo, List.replicate n mk24⟩ = t24 at *
      go_cut [9] (fun v wx => v = .bool true ∧ Hid (Below wa.heap.size wa wx))
      case first =>
        refine wp_region_noPanic ?_
        refine wp_region_held_drew (S := (fun V => (V.cell? ⟨X, 0, none⟩ = some (.string nm) ∧ V.cell? ⟨X, 1, none⟩ = some (.int .i64 pa) ∧ V.cell? ⟨X, 2, none⟩ = some (.int .i64 lo) ∧ V.cell? ⟨X, 3, none⟩ = some (.slice (some ⟨g, 0, none⟩) n (n + 80))) ∧ V.cell? ⟨Y, 0, none⟩ = some (.string nm) ∧ V.cell? ⟨Y, 1, none⟩ = some (.int .i64 pa) ∧ V.cell? ⟨Y, 2, none⟩ = some (.int .i64 lo) ∧ V.cell? ⟨Y, 3, none⟩ = some (.slice a9 n c9))) (by kernel_rfl) (⟨⟨d0, d1, d2, d3⟩, y0, y1, y2, y3⟩) (fun hHeld => ?_)
        refine' wpAnyH_take (i := 0) (oi := { dst := some 52, op := Go.Op.move (Go.Operand.tmp 9), type := 4, pos := "code.go:372", after := #[], guard := none }) (v := _) rfl (by kernel_rfl) (by kernel_rfl) (by kernel_rfl) (fun _ _ _ h => h) (Or.inl ⟨by rfl, ?hyr6_0⟩) (by assumption) ?rer6_0
        case hyr6_0 => (intro W hSw; (try dsimp only at hSw); go_simp; try with_reducible rfl)
        try simp only [Act.put, List.setIfInBounds_toArray, List.set_cons_zero, List.set_cons_succ]
        refine' wpAnyH_take (i := 1) (oi := { dst := some 53, op := Go.Op.move (Go.Operand.tmp 52), type := 4, pos := "code.go:372", after := #[{ on := 0, ground := Go.Ground.data }], guard := none }) (v := _) rfl (by kernel_rfl) (by kernel_rfl) (by kernel_rfl) (fun _ _ _ h => h) (Or.inl ⟨by rfl, ?hyr6_1⟩) (by assumption) ?rer6_1
        case hyr6_1 => (intro W hSw; (try dsimp only at hSw); go_simp; try with_reducible rfl)
        try simp only [Act.put, List.setIfInBounds_toArray, List.set_cons_zero, List.set_cons_succ]
        refine' wpAnyH_take (i := 2) (oi := { dst := some 54, op := Go.Op.load 45 (Go.Operand.tmp 6), type := 45, pos := "code.go:372", after := #[{ on := 1, ground := Go.Ground.guard }], guard := some (1, true) }) (v := _) rfl (by kernel_rfl) (by kernel_rfl) (by kernel_rfl) (fun _ _ _ h => h) (Or.inl ⟨by rfl, ?hyr6_2⟩) (by assumption) ?rer6_2
        case hyr6_2 => (intro W hSw; (try dsimp only at hSw); go_simp; try with_reducible rfl)
        try simp only [Act.put, List.setIfInBounds_toArray, List.set_cons_zero, List.set_cons_succ]
        refine' wpAnyH_take (i := 4) (oi := { dst := some 56, op := Go.Op.load 45 (Go.Operand.tmp 11), type := 45, pos := "code.go:372", after := #[{ on := 1, ground := Go.Ground.guard }], guard := some (1, true) }) (v := _) rfl (by kernel_rfl) (by kernel_rfl) (by kernel_rfl) (fun _ _ _ h => h) (Or.inl ⟨by rfl, ?hyr6_4⟩) (by assumption) ?rer6_4
        case hyr6_4 => (intro W hSw; (try dsimp only at hSw); go_simp; try with_reducible rfl)
        try simp only [Act.put, List.setIfInBounds_toArray, List.set_cons_zero, List.set_cons_succ]
        refine wpAnyH_ready (rs := [3]) (by kernel_rfl) (by simp) ?_
        refine AllReadyH.cons (o := { dst := some 55, op := Go.Op.call { callee := Go.Callee.value (Go.Operand.func 17), args := #[Go.Operand.tmp 54], argTypes := #[45] }, type := 9, pos := "code.go:372", after := #[{ on := 2, ground := Go.Ground.data }, { on := 1, ground := Go.Ground.chain }, { on := 1, ground := Go.Ground.guard }], guard := some (1, true) }) rfl (fun K hK => ?_) AllReadyH.nil
        clear hHeld
        go_simp
        refine (JX.out _ (below_drew wa)).mono ?_
        rintro e w2 ⟨rfl, b2⟩
        have Z2 := hide (below_on (below_drew wa) b2)
        clear b2
        refine hK.out _ _ (KL.out _ Z2.out) (fun hHeld => ?_)
        clear hK K
        try simp only [Act.put, List.setIfInBounds_toArray, List.set_cons_zero, List.set_cons_succ]
        refine wpAnyH_ready (rs := [5]) (by kernel_rfl) (by simp) ?_
        refine AllReadyH.cons (o := { dst := some 57, op := Go.Op.call { callee := Go.Callee.value (Go.Operand.func 18), args := #[Go.Operand.tmp 56], argTypes := #[45] }, type := 9, pos := "code.go:372", after := #[{ on := 4, ground := Go.Ground.data }, { on := 3, ground := Go.Ground.chain }, { on := 1, ground := Go.Ground.guard }], guard := some (1, true) }) rfl (fun K hK => ?_) AllReadyH.nil
        clear hHeld
        go_simp
        refine (JY.out _ Z2.out).mono ?_
        rintro e w3 ⟨rfl, b3⟩
        have Z3 := hide (below_on Z2.out b3)
        clear b3 Z2
        refine hK.out _ _ (KL.out _ Z3.out) (fun hHeld => ?_)
        clear hK K
        try simp only [Act.put, List.setIfInBounds_toArray, List.set_cons_zero, List.set_cons_succ]
        refine' wpAnyH_take (i := 6) (oi := { dst := some 58, op := Go.Op.binOp Go.BinOp.eql 9 (Go.Operand.tmp 55) (Go.Operand.tmp 57) 9, type := 4, pos := "code.go:372", after := #[{ on := 3, ground := Go.Ground.data }, { on := 5, ground := Go.Ground.data }, { on := 1, ground := Go.Ground.guard }], guard := some (1, true) }) (v := _) rfl (by kernel_rfl) (by kernel_rfl) (by kernel_rfl) (fun _ _ _ h => h) (Or.inl ⟨by rfl, ?hyr6_6⟩) (by assumption) ?rer6_6
        case hyr6_6 => (intro W hSw; (try dsimp only at hSw); go_simp; try with_reducible rfl)
        try simp only [Act.put, List.setIfInBounds_toArray, List.set_cons_zero, List.set_cons_succ]
        refine' wpAnyH_take (i := 7) (oi := { dst := some 59, op := Go.Op.pick (Go.Operand.tmp 53) (Go.Operand.tmp 58) (Go.Operand.const (Go.Value.bool false)), type := 4, pos := "code.go:372", after := #[{ on := 1, ground := Go.Ground.data }, { on := 6, ground := Go.Ground.data }], guard := none }) (v := _) rfl (by kernel_rfl) (by kernel_rfl) (by kernel_rfl) (fun _ _ _ h => h) (Or.inl ⟨by rfl, ?hyr6_7⟩) (by assumption) ?rer6_7
        case hyr6_7 => (intro W hSw; (try dsimp only at hSw); go_simp; try with_reducible rfl)
        try simp only [Act.put, List.setIfInBounds_toArray, List.set_cons_zero, List.set_cons_succ]
        refine' wpAnyH_take (i := 8) (oi := { dst := some 9, op := Go.Op.assign (Go.Operand.tmp 59), type := 4, pos := "code.go:372", after := #[{ on := 7, ground := Go.Ground.data }, { on := 5, ground := Go.Ground.chain }, { on := 0, ground := Go.Ground.phase }, { on := 1, ground := Go.Ground.phase }, { on := 2, ground := Go.Ground.phase }, { on := 3, ground := Go.Ground.phase }, { on := 4, ground := Go.Ground.phase }, { on := 5, ground := Go.Ground.phase }, { on := 6, ground := Go.Ground.phase }, { on := 7, ground := Go.Ground.phase }], guard := none }) (v := _) rfl (by kernel_rfl) (by kernel_rfl) (by kernel_rfl) (fun _ _ _ h => h) (Or.inl ⟨by rfl, ?hyr6_8⟩) (by assumption) ?rer6_8
        case hyr6_8 => (intro W hSw; (try dsimp only at hSw); go_simp; try with_reducible rfl)
        try simp only [Act.put, List.setIfInBounds_toArray, List.set_cons_zero, List.set_cons_succ]
        refine wpAnyH_done (by kernel_rfl) ?_ _
        clear hHeld
        refine NoPanic.normal ?_
        go_wp2_with fail
        go_meet
        exact ⟨rfl, Z3.out⟩
      obtain ⟨rfl, hb9⟩ := hcut
      have Xc := hide (below_on Xa.out hb9.out)
      obtain ⟨x, hx⟩ : ∃ x, x = readF s.data.toList := ⟨_, rfl⟩
      have RK := hide (rtR_ok s.data.toList)
      rw [← hx] at RK
      have JR : Hid (∀ w', Below w0.heap.size w0 w' → Calls Tryz.prog 19 #[.string s] w' fun e w'' => Below w'.heap.size w' w'' ∧ ∃ ao c ev, e = .returned (.tuple #[.agg #[.string (rtR x).name, .int .i64 (rtR x).pa, .int .i64 (rtR x).lo, .slice ao (rtR x).code.length c], ev]) ∧ w''.ownsRow w'.heap.size 56 2 (.slice ao (rtR x).code.length c) (rtR x).code.length (insC (rtR x).code) ∧ ErV w'' x ev) := fun w' hb => (read_any s (by have := SL.out; omega) w' (FA.out w' hb).2).mono fun e w'' ho => rd_all (hx ▸ ho)
      have JD : Hid (∀ w', Calls Tryz.prog 20 #[.string s] w' fun e w'' => Below w'.heap.size w' w'' ∧ ∃ ao c, e = .returned (.tuple #[.agg #[.string (rtR x).name, .int .i64 (rtR x).pa, .int .i64 (rtR x).lo, .slice ao (rtR x).code.length c], .int .i64 (atR x), .int .i64 (erR x)]) ∧ w''.ownsRow w'.heap.size 56 2 (.slice ao (rtR x).code.length c) (rtR x).code.length (insC (rtR x).code)) := fun w' => (dread_any s SL.out w').mono fun e w'' ho => dr_all (hx ▸ ho)
      have FT : Hid (∀ w' ev, ErV w' x ev → Calls Tryz.prog 8 #[ev] w' fun e w'' => e = .returned (.tuple #[.int .i64 (atR x), .int .i64 (erR x), .bool true]) ∧ Below w'.heap.size w' w'') := fun w' ev h => h.fault
      have EN : Hid (∀ w' ev, ErV w' x ev → (okR x = true ∧ ev = .nilIface) ∨ (okR x = false ∧ ∃ N, ev = .iface 74 (.pointer (some ⟨N, 0, none⟩)))) := fun w' ev h => h.nil
      generalize rtR x = RT at *
      generalize atR x = xa at *
      generalize erR x = xe at *
      obtain ⟨m, hm⟩ : ∃ m, m = RT.code.length := ⟨_, rfl⟩
      rw [← hm] at JR JD RK
      have HM := hide hm
      clear hm hx d0 d1 d2 d3 y0 y1 y2 y3 NXa NYa Ra Oa ILX ILY JX JY KL Xa hb9
      go_wp2_with fail
      refine (JR.out wc Xc.out).mono ?_
      rintro e wd ⟨bd, a1, c1, ev, rfl, o1, er1⟩
      obtain ⟨we, hwe⟩ : ∃ X, X = wd.alloc (.cells #[.string RT.name, .int .i64 RT.pa, .int .i64 RT.lo, .slice a1 m c1] 45) := ⟨_, rfl⟩
      have be : Below wd.heap.size wd we := hwe ▸ below_alloc wd _
      obtain ⟨P1, hP1⟩ : ∃ P, P = wd.heap.size := ⟨_, rfl⟩
      have q1 : we.heap[P1]? = some (.cells #[.string RT.name, .int .i64 RT.pa, .int .i64 RT.lo, .slice a1 m c1] 45 (0, 0)) := by rw [hwe, hP1]; exact heap_alloc_new wd _
      have N1 := hide q1
      have O1 := hide (own_later o1 be)
      have E1 := hide (er1.later be)
      have Xe := hide (below_on Xc.out (below_on bd be))
      have S1 : Hid (w0.heap.size ≤ wc.heap.size ∧ wc.heap.size ≤ we.heap.size) := ⟨Xc.out.size, Nat.le_trans bd.size be.size⟩
      clear bd be q1 o1 er1
      go_upto_region 13 with fail
      rw [← hP1, ← hwe]
      clear hP1 hwe
      have J := hide (FT.out we ev E1.out)
      go_wp2_with fail
      refine J.out.mono ?_
      rintro e wf ⟨rfl, bf⟩
      have N1f := hide ((bf.block P1 (lt_of_block N1.out)).trans N1.out)
      have O1f := hide (own_later O1.out bf)
      have E1f := hide (E1.out.later bf)
      have Xf := hide (below_on Xe.out bf)
      have S1f : Hid (w0.heap.size ≤ wc.heap.size ∧ wc.heap.size ≤ wf.heap.size) := ⟨S1.out.1, Nat.le_trans S1.out.2 bf.size⟩
      clear bf J N1 O1 E1 Xe
      go_wp2_with fail
      refine (JD.out wf).mono ?_
      rintro e wg ⟨bg, a2, c2, rfl, o2⟩
      obtain ⟨wh, hwh⟩ : ∃ X, X = wg.alloc (.cells #[.string RT.name, .int .i64 RT.pa, .int .i64 RT.lo, .slice a2 m c2] 45) := ⟨_, rfl⟩
      have bh : Below wg.heap.size wg wh := hwh ▸ below_alloc wg _
      obtain ⟨P2, hP2⟩ : ∃ P, P = wg.heap.size := ⟨_, rfl⟩
      have q2 : wh.heap[P2]? = some (.cells #[.string RT.name, .int .i64 RT.pa, .int .i64 RT.lo, .slice a2 m c2] 45 (0, 0)) := by rw [hwh, hP2]; exact heap_alloc_new wg _
      have bgh := below_on bg bh
      have N2 := hide q2
      have O2 := hide (own_later o2 bh)
      have N1h := hide ((bgh.block P1 (lt_of_block N1f.out)).trans N1f.out)
      have O1h := hide (own_later O1f.out bgh)
      have E1h := hide (E1f.out.later bgh)
      have Xh := hide (below_on Xf.out bgh)
      have LT1 : Hid (∀ j, (Value.slice a1 m c1).ownBlock = some j → wc.heap.size ≤ j ∧ j < wf.heap.size) := fun j e => O1f.out.lt j e
      have Sh : Hid (wf.heap.size ≤ wh.heap.size) := bgh.size
      have LP1 : Hid (P1 < wf.heap.size) := lt_of_block N1f.out
      clear bg bh bgh q2 o2 N1f O1f E1f Xf
      go_upto_region 15 with fail
      rw [← hP2, ← hwh]
      clear hP2 hwh
      go_wp2_with fail
      refine (JR.out wh Xh.out).mono ?_
      rintro e wi ⟨bi, a3, c3, fv, rfl, o3, er3⟩
      obtain ⟨wj, hwj⟩ : ∃ X, X = wi.alloc (.cells #[.string RT.name, .int .i64 RT.pa, .int .i64 RT.lo, .slice a3 m c3] 45) := ⟨_, rfl⟩
      have bj : Below wi.heap.size wi wj := hwj ▸ below_alloc wi _
      obtain ⟨P3, hP3⟩ : ∃ P, P = wi.heap.size := ⟨_, rfl⟩
      have q3 : wj.heap[P3]? = some (.cells #[.string RT.name, .int .i64 RT.pa, .int .i64 RT.lo, .slice a3 m c3] 45 (0, 0)) := by rw [hwj, hP3]; exact heap_alloc_new wi _
      have bij := below_on bi bj
      have N3 := hide q3
      have O3 := hide (own_later o3 bj)
      have N1j := hide ((bij.block P1 (lt_of_block N1h.out)).trans N1h.out)
      have N2j := hide ((bij.block P2 (lt_of_block N2.out)).trans N2.out)
      have O1j := hide (own_later O1h.out bij)
      have O2j := hide (own_later O2.out bij)
      have EE : Hid ((okR x = true ∧ ev = .nilIface ∧ fv = .nilIface) ∨ (okR x = false ∧ ∃ M M', ev = .iface 74 (.pointer (some ⟨M, 0, none⟩)) ∧ fv = .iface 74 (.pointer (some ⟨M', 0, none⟩)))) := by
        rcases EN.out _ _ E1h.out with ⟨h1, h2⟩ | ⟨h1, M, h2⟩
        · rcases EN.out _ _ er3 with ⟨k1, k2⟩ | ⟨k1, -⟩
          · exact .inl ⟨h1, h2, k2⟩
          · rw [h1] at k1; cases k1
        · rcases EN.out _ _ er3 with ⟨k1, k2⟩ | ⟨k1, M', k2⟩
          · rw [h1] at k1; cases k1
          · exact .inr ⟨h1, M, M', h2, k2⟩
      have Xj := hide (below_on Xh.out bij)
      have Sj : Hid (wh.heap.size ≤ wj.heap.size) := bij.size
      clear bi bj bij q3 o3 er3 N1h N2 O1h O2 E1h Xh
      go_upto_region 16 with fail
      rw [← hP3, ← hwj]
      clear hP3 hwj
      obtain ⟨p0, p1, p2, p3⟩ := row4 N1j.out
      obtain ⟨r0, r1, r2, r3⟩ := row4 N2j.out
      have RIL : Hid (∀ w' B' v, w'.ownsRow B' 56 2 v m (insC RT.code) → Il (fun j => B' ≤ j) w' v RT.code) := fun w' B' v h => own_il (by rw [← HM.out]; exact h) RK.out.2
      have J := hide (routines_eq RT (RIL.out _ _ _ O1j.out) (RIL.out _ _ _ O2j.out))
      unfold rtV at J
      go_wp2_with fail
      refine J.out.mono ?_
      rintro e wk ⟨rfl, bk⟩
      have N1k := hide ((bk.block P1 (lt_of_block N1j.out)).trans N1j.out)
      have N2k := hide ((bk.block P2 (lt_of_block N2j.out)).trans N2j.out)
      have N3k := hide ((bk.block P3 (lt_of_block N3.out)).trans N3.out)
      have O1k := hide (own_later O1j.out bk)
      have O2k := hide (own_later O2j.out bk)
      have O3k := hide (own_later O3.out bk)
      have Xk := hide (below_on Xj.out bk)
      have WCK : Hid (wc.heap.size ≤ wk.heap.size ∧ wf.heap.size ≤ wk.heap.size) := by
        have h1 := S1f.out
        have h2 := Sh.out
        have h3 := Sj.out
        have h4 := bk.size
        exact ⟨by omega, by omega⟩
      clear J bk p0 p1 p2 p3 r0 r1 r2 r3 N1j N2j N3 O1j O2j O3 Xj
      obtain ⟨p0, p1, p2, p3⟩ := row4 N1k.out
      obtain ⟨wl, hwl⟩ : ∃ X, X = wk.alloc (.cells #[.slice a1 m c1] 43) := ⟨_, rfl⟩
      have bl : Below wk.heap.size wk wl := hwl ▸ below_alloc wk _
      obtain ⟨q, hq⟩ : ∃ P, P = wk.heap.size := ⟨_, rfl⟩
      have nq : wl.heap[q]? = some (.cells #[.slice a1 m c1] 43 (0, 0)) := by rw [hwl, hq]; exact heap_alloc_new wk _
      have J : Hid (Calls Tryz.prog 22 #[.slice (some ⟨q, 0, none⟩) 1 1] wl fun e w' => e = .returned (.bool true) ∧ Mv wl w' (fun j => j = q ∨ (Value.slice a1 m c1).ownBlock = some j)) := by
        have h1 := own_later O1k.out bl
        rw [HM.out] at nq h1 ⊢
        exact instrs_one nq h1 (Nat.le_trans WCK.out.1 bl.size) (by rw [← HM.out]; exact RK.out.1)
      have HQK := hide hq
      go_wp2_with fail
      rw [← hq, ← hwl]
      refine J.out.mono ?_
      rintro e wm ⟨rfl, mm⟩
      have hq2 := HQK.out
      have wck := WCK.out
      have ne2 : ¬ (P2 = q ∨ (Value.slice a1 m c1).ownBlock = some P2) := by
        have := lt_of_block N2k.out
        rintro (e | e)
        · omega
        · exact own_row_ne O1k.out N2k.out (by decide) e
      have ne3 : ¬ (P3 = q ∨ (Value.slice a1 m c1).ownBlock = some P3) := by
        have := lt_of_block N3k.out
        rintro (e | e)
        · omega
        · exact own_row_ne O1k.out N3k.out (by decide) e
      have N2m := hide (mm.at ((bl.block P2 (lt_of_block N2k.out)).trans N2k.out) ne2)
      have N3m := hide (mm.at ((bl.block P3 (lt_of_block N3k.out)).trans N3k.out) ne3)
      have O2m := hide (mm.own (own_later O2k.out bl) (fun k e1 e2 => by
        have h1 := O2k.out.lt k e1
        rcases e2 with e2 | e2
        · omega
        · have := LT1.out k e2
          omega))
      have O3m := hide (mm.own (own_later O3k.out bl) (fun k e1 e2 => by
        have h1 := O3k.out.lt k e1
        have h2 := Sh.out
        rcases e2 with e2 | e2
        · omega
        · have := LT1.out k e2
          omega))
      have Xm : Hid (Below w0.heap.size w0 wm) := (below_on Xk.out bl).trans (mm.below (Nat.le_trans Xk.out.size bl.size) (fun k e => by
        have h1 := Xk.out.size
        have h2 := S1f.out
        rcases e with e | e
        · omega
        · have := LT1.out k e
          omega))
      clear J p0 p1 p2 p3 hwl hq nq bl mm ne2 ne3 hq2 wck N1k N2k N3k O1k O2k O3k Xk
      obtain ⟨p0, p1, p2, p3⟩ := row4 N3m.out
      obtain ⟨r0, r1, r2, r3⟩ := row4 N2m.out
      have J := hide (routines_eq RT (RIL.out _ _ _ O3m.out) (RIL.out _ _ _ O2m.out))
      unfold rtV at J
      go_wp2_with fail
      refine J.out.mono ?_
      rintro e wo ⟨rfl, bo⟩
      have Xo := hide (below_on Xm.out bo)
      clear J bo p0 p1 p2 p3 r0 r1 r2 r3 N2m N3m O2m O3m Xm
      obtain ⟨b0, b1, b2, b3⟩ := AT.out wo Xo.out
      have JL : Hid (∀ w', Below wo.heap.size wo w' → Calls Tryz.prog 18 #[.agg #[.string nm, .int .i64 pa, .int .i64 lo, .slice ao n c]] w' fun e w'' => e = .returned (.string te) ∧ Below w'.heap.size w' w'') := fun w' hb => by
        have := dlist_at nm pa lo code HN.out hc1 hc2 (FA.out w' (below_on Xo.out hb)).1 I1.out I2.out NM.out
        rw [← TE.out] at this
        exact this
      go_upto_region 19 with fail
      rcases EE.out with ⟨-, rfl, rfl⟩ | ⟨-, M, M', rfl, rfl⟩
      · clear EE
        refine wp_region_noPanic ?_
        refine wp_region_held_drew (S := (fun V => V.cell? ⟨B, 0, none⟩ = some (.string nm) ∧ V.cell? ⟨B, 1, none⟩ = some (.int .i64 pa) ∧ V.cell? ⟨B, 2, none⟩ = some (.int .i64 lo) ∧ V.cell? ⟨B, 3, none⟩ = some (.slice ao n c))) (by kernel_rfl) (⟨b0, b1, b2, b3⟩) (fun hHeld => ?_)
        refine' wpAnyH_take (i := 0) (oi := { dst := some 92, op := Go.Op.move (Go.Operand.tmp 5), type := 4, pos := "code.go:380", after := #[], guard := none }) (v := _) rfl (by kernel_rfl) (by kernel_rfl) (by kernel_rfl) (fun _ _ _ h => h) (Or.inl ⟨by rfl, ?hyr7_0⟩) (by assumption) ?rer7_0
        case hyr7_0 => (intro W hSw; (try dsimp only at hSw); go_simp; try with_reducible rfl)
        try simp only [Act.put, List.setIfInBounds_toArray, List.set_cons_zero, List.set_cons_succ]
        refine' wpAnyH_take (i := 1) (oi := { dst := some 93, op := Go.Op.move (Go.Operand.tmp 92), type := 4, pos := "code.go:380", after := #[{ on := 0, ground := Go.Ground.data }], guard := none }) (v := _) rfl (by kernel_rfl) (by kernel_rfl) (by kernel_rfl) (fun _ _ _ h => h) (Or.inl ⟨by rfl, ?hyr7_1⟩) (by assumption) ?rer7_1
        case hyr7_1 => (intro W hSw; (try dsimp only at hSw); go_simp; try with_reducible rfl)
        try simp only [Act.put, List.setIfInBounds_toArray, List.set_cons_zero, List.set_cons_succ]
        refine' wpAnyH_take (i := 2) (oi := { dst := some 94, op := Go.Op.move (Go.Operand.tmp 9), type := 4, pos := "code.go:380", after := #[{ on := 1, ground := Go.Ground.guard }], guard := some (1, true) }) (v := _) rfl (by kernel_rfl) (by kernel_rfl) (by kernel_rfl) (fun _ _ _ h => h) (Or.inl ⟨by rfl, ?hyr7_2⟩) (by assumption) ?rer7_2
        case hyr7_2 => (intro W hSw; (try dsimp only at hSw); go_simp; try with_reducible rfl)
        try simp only [Act.put, List.setIfInBounds_toArray, List.set_cons_zero, List.set_cons_succ]
        refine' wpAnyH_take (i := 3) (oi := { dst := some 95, op := Go.Op.pick (Go.Operand.tmp 93) (Go.Operand.tmp 94) (Go.Operand.const (Go.Value.bool false)), type := 4, pos := "code.go:380", after := #[{ on := 1, ground := Go.Ground.data }, { on := 2, ground := Go.Ground.data }], guard := none }) (v := _) rfl (by kernel_rfl) (by kernel_rfl) (by kernel_rfl) (fun _ _ _ h => h) (Or.inl ⟨by rfl, ?hyr7_3⟩) (by assumption) ?rer7_3
        case hyr7_3 => (intro W hSw; (try dsimp only at hSw); go_simp; try with_reducible rfl)
        try simp only [Act.put, List.setIfInBounds_toArray, List.set_cons_zero, List.set_cons_succ]
        refine' wpAnyH_take (i := 4) (oi := { dst := some 96, op := Go.Op.move (Go.Operand.tmp 95), type := 4, pos := "code.go:380", after := #[{ on := 3, ground := Go.Ground.data }, { on := 1, ground := Go.Ground.chain }], guard := none }) (v := _) rfl (by kernel_rfl) (by kernel_rfl) (by kernel_rfl) (fun _ _ _ h => h) (Or.inl ⟨by rfl, ?hyr7_4⟩) (by assumption) ?rer7_4
        case hyr7_4 => (intro W hSw; (try dsimp only at hSw); go_simp; try with_reducible rfl)
        try simp only [Act.put, List.setIfInBounds_toArray, List.set_cons_zero, List.set_cons_succ]
        refine' wpAnyH_take (i := 5) (oi := { dst := some 97, op := Go.Op.move (Go.Operand.tmp 23), type := 4, pos := "code.go:380", after := #[{ on := 4, ground := Go.Ground.guard }], guard := some (4, true) }) (v := _) rfl (by kernel_rfl) (by kernel_rfl) (by kernel_rfl) (fun _ _ _ h => h) (Or.inl ⟨by rfl, ?hyr7_5⟩) (by assumption) ?rer7_5
        case hyr7_5 => (intro W hSw; (try dsimp only at hSw); go_simp; try with_reducible rfl)
        try simp only [Act.put, List.setIfInBounds_toArray, List.set_cons_zero, List.set_cons_succ]
        refine' wpAnyH_take (i := 6) (oi := { dst := some 98, op := Go.Op.pick (Go.Operand.tmp 96) (Go.Operand.tmp 97) (Go.Operand.const (Go.Value.bool false)), type := 4, pos := "code.go:380", after := #[{ on := 4, ground := Go.Ground.data }, { on := 5, ground := Go.Ground.data }], guard := none }) (v := _) rfl (by kernel_rfl) (by kernel_rfl) (by kernel_rfl) (fun _ _ _ h => h) (Or.inl ⟨by rfl, ?hyr7_6⟩) (by assumption) ?rer7_6
        case hyr7_6 => (intro W hSw; (try dsimp only at hSw); go_simp; try with_reducible rfl)
        try simp only [Act.put, List.setIfInBounds_toArray, List.set_cons_zero, List.set_cons_succ]
        refine' wpAnyH_take (i := 7) (oi := { dst := some 99, op := Go.Op.move (Go.Operand.tmp 98), type := 4, pos := "code.go:380", after := #[{ on := 6, ground := Go.Ground.data }, { on := 4, ground := Go.Ground.chain }], guard := none }) (v := _) rfl (by kernel_rfl) (by kernel_rfl) (by kernel_rfl) (fun _ _ _ h => h) (Or.inl ⟨by rfl, ?hyr7_7⟩) (by assumption) ?rer7_7
        case hyr7_7 => (intro W hSw; (try dsimp only at hSw); go_simp; try with_reducible rfl)
        try simp only [Act.put, List.setIfInBounds_toArray, List.set_cons_zero, List.set_cons_succ]
        refine' wpAnyH_take (i := 8) (oi := { dst := some 100, op := Go.Op.move (Go.Operand.tmp 8), type := 9, pos := "code.go:380", after := #[{ on := 7, ground := Go.Ground.guard }], guard := some (7, true) }) (v := _) rfl (by kernel_rfl) (by kernel_rfl) (by kernel_rfl) (fun _ _ _ h => h) (Or.inl ⟨by rfl, ?hyr7_8⟩) (by assumption) ?rer7_8
        case hyr7_8 => (intro W hSw; (try dsimp only at hSw); go_simp; try with_reducible rfl)
        try simp only [Act.put, List.setIfInBounds_toArray, List.set_cons_zero, List.set_cons_succ]
        refine' wpAnyH_take (i := 9) (oi := { dst := some 101, op := Go.Op.load 45 (Go.Operand.tmp 2), type := 45, pos := "code.go:380", after := #[{ on := 7, ground := Go.Ground.guard }], guard := some (7, true) }) (v := _) rfl (by kernel_rfl) (by kernel_rfl) (by kernel_rfl) (fun _ _ _ h => h) (Or.inl ⟨by rfl, ?hyr7_9⟩) (by assumption) ?rer7_9
        case hyr7_9 => (intro W hSw; (try dsimp only at hSw); go_simp; try with_reducible rfl)
        try simp only [Act.put, List.setIfInBounds_toArray, List.set_cons_zero, List.set_cons_succ]
        refine wpAnyH_ready (rs := [10]) (by kernel_rfl) (by simp) ?_
        refine AllReadyH.cons (o := { dst := some 102, op := Go.Op.call { callee := Go.Callee.value (Go.Operand.func 18), args := #[Go.Operand.tmp 101], argTypes := #[45] }, type := 9, pos := "code.go:380", after := #[{ on := 9, ground := Go.Ground.data }, { on := 7, ground := Go.Ground.chain }, { on := 7, ground := Go.Ground.guard }], guard := some (7, true) }) rfl (fun K hK => ?_) AllReadyH.nil
        clear hHeld
        go_simp
        refine (JL.out _ (below_drew wo)).mono ?_
        rintro e wp ⟨rfl, bp⟩
        have Zp := hide (below_on (below_drew wo) bp)
        clear bp
        refine hK.out _ _ (AT.out _ (below_on Xo.out Zp.out)) (fun hHeld => ?_)
        clear hK K
        try simp only [Act.put, List.setIfInBounds_toArray, List.set_cons_zero, List.set_cons_succ]
        refine' wpAnyH_take (i := 11) (oi := { dst := some 103, op := Go.Op.binOp Go.BinOp.eql 9 (Go.Operand.tmp 100) (Go.Operand.tmp 102) 9, type := 4, pos := "code.go:380", after := #[{ on := 8, ground := Go.Ground.data }, { on := 10, ground := Go.Ground.data }, { on := 7, ground := Go.Ground.guard }], guard := some (7, true) }) (v := _) rfl (by kernel_rfl) (by kernel_rfl) (by kernel_rfl) (fun _ _ _ h => h) (Or.inl ⟨by rfl, ?hyr7_11⟩) (by assumption) ?rer7_11
        case hyr7_11 => (intro W hSw; (try dsimp only at hSw); go_simp; try with_reducible rfl)
        try simp only [Act.put, List.setIfInBounds_toArray, List.set_cons_zero, List.set_cons_succ]
        refine' wpAnyH_take (i := 12) (oi := { dst := some 104, op := Go.Op.pick (Go.Operand.tmp 99) (Go.Operand.tmp 103) (Go.Operand.const (Go.Value.bool false)), type := 4, pos := "code.go:380", after := #[{ on := 7, ground := Go.Ground.data }, { on := 11, ground := Go.Ground.data }], guard := none }) (v := _) rfl (by kernel_rfl) (by kernel_rfl) (by kernel_rfl) (fun _ _ _ h => h) (Or.inl ⟨by rfl, ?hyr7_12⟩) (by assumption) ?rer7_12
        case hyr7_12 => (intro W hSw; (try dsimp only at hSw); go_simp; try with_reducible rfl)
        try simp only [Act.put, List.setIfInBounds_toArray, List.set_cons_zero, List.set_cons_succ]
        refine' wpAnyH_take (i := 13) (oi := { dst := some 105, op := Go.Op.move (Go.Operand.tmp 104), type := 4, pos := "code.go:380", after := #[{ on := 12, ground := Go.Ground.data }, { on := 10, ground := Go.Ground.chain }], guard := none }) (v := _) rfl (by kernel_rfl) (by kernel_rfl) (by kernel_rfl) (fun _ _ _ h => h) (Or.inl ⟨by rfl, ?hyr7_13⟩) (by assumption) ?rer7_13
        case hyr7_13 => (intro W hSw; (try dsimp only at hSw); go_simp; try with_reducible rfl)
        try simp only [Act.put, List.setIfInBounds_toArray, List.set_cons_zero, List.set_cons_succ]
        refine' wpAnyH_take (i := 14) (oi := { dst := some 106, op := Go.Op.move (Go.Operand.tmp 22), type := 4, pos := "code.go:380", after := #[{ on := 13, ground := Go.Ground.guard }], guard := some (13, true) }) (v := _) rfl (by kernel_rfl) (by kernel_rfl) (by kernel_rfl) (fun _ _ _ h => h) (Or.inl ⟨by rfl, ?hyr7_14⟩) (by assumption) ?rer7_14
        case hyr7_14 => (intro W hSw; (try dsimp only at hSw); go_simp; try with_reducible rfl)
        try simp only [Act.put, List.setIfInBounds_toArray, List.set_cons_zero, List.set_cons_succ]
        refine' wpAnyH_take (i := 15) (oi := { dst := some 107, op := Go.Op.pick (Go.Operand.tmp 105) (Go.Operand.tmp 106) (Go.Operand.const (Go.Value.bool false)), type := 4, pos := "code.go:380", after := #[{ on := 13, ground := Go.Ground.data }, { on := 14, ground := Go.Ground.data }], guard := none }) (v := _) rfl (by kernel_rfl) (by kernel_rfl) (by kernel_rfl) (fun _ _ _ h => h) (Or.inl ⟨by rfl, ?hyr7_15⟩) (by assumption) ?rer7_15
        case hyr7_15 => (intro W hSw; (try dsimp only at hSw); go_simp; try with_reducible rfl)
        try simp only [Act.put, List.setIfInBounds_toArray, List.set_cons_zero, List.set_cons_succ]
        refine' wpAnyH_take (i := 16) (oi := { dst := some 108, op := Go.Op.move (Go.Operand.tmp 107), type := 4, pos := "code.go:380", after := #[{ on := 15, ground := Go.Ground.data }, { on := 13, ground := Go.Ground.chain }], guard := none }) (v := _) rfl (by kernel_rfl) (by kernel_rfl) (by kernel_rfl) (fun _ _ _ h => h) (Or.inl ⟨by rfl, ?hyr7_16⟩) (by assumption) ?rer7_16
        case hyr7_16 => (intro W hSw; (try dsimp only at hSw); go_simp; try with_reducible rfl)
        try simp only [Act.put, List.setIfInBounds_toArray, List.set_cons_zero, List.set_cons_succ]
        refine' wpAnyH_take (i := 17) (oi := { dst := some 109, op := Go.Op.move (Go.Operand.tmp 24), type := 4, pos := "code.go:380", after := #[{ on := 16, ground := Go.Ground.guard }], guard := some (16, true) }) (v := _) rfl (by kernel_rfl) (by kernel_rfl) (by kernel_rfl) (fun _ _ _ h => h) (Or.inl ⟨by rfl, ?hyr7_17⟩) (by assumption) ?rer7_17
        case hyr7_17 => (intro W hSw; (try dsimp only at hSw); go_simp; try with_reducible rfl)
        try simp only [Act.put, List.setIfInBounds_toArray, List.set_cons_zero, List.set_cons_succ]
        refine' wpAnyH_take (i := 18) (oi := { dst := some 110, op := Go.Op.pick (Go.Operand.tmp 108) (Go.Operand.tmp 109) (Go.Operand.const (Go.Value.bool false)), type := 4, pos := "code.go:380", after := #[{ on := 16, ground := Go.Ground.data }, { on := 17, ground := Go.Ground.data }], guard := none }) (v := _) rfl (by kernel_rfl) (by kernel_rfl) (by kernel_rfl) (fun _ _ _ h => h) (Or.inl ⟨by rfl, ?hyr7_18⟩) (by assumption) ?rer7_18
        case hyr7_18 => (intro W hSw; (try dsimp only at hSw); go_simp; try with_reducible rfl)
        try simp only [Act.put, List.setIfInBounds_toArray, List.set_cons_zero, List.set_cons_succ]
        refine' wpAnyH_take (i := 19) (oi := { dst := some 111, op := Go.Op.move (Go.Operand.tmp 110), type := 4, pos := "code.go:380", after := #[{ on := 18, ground := Go.Ground.data }, { on := 16, ground := Go.Ground.chain }], guard := none }) (v := _) rfl (by kernel_rfl) (by kernel_rfl) (by kernel_rfl) (fun _ _ _ h => h) (Or.inl ⟨by rfl, ?hyr7_19⟩) (by assumption) ?rer7_19
        case hyr7_19 => (intro W hSw; (try dsimp only at hSw); go_simp; try with_reducible rfl)
        try simp only [Act.put, List.setIfInBounds_toArray, List.set_cons_zero, List.set_cons_succ]
        refine' wpAnyH_take (i := 20) (oi := { dst := some 112, op := Go.Op.move (Go.Operand.tmp 16), type := 4, pos := "code.go:380", after := #[{ on := 19, ground := Go.Ground.guard }], guard := some (19, true) }) (v := _) rfl (by kernel_rfl) (by kernel_rfl) (by kernel_rfl) (fun _ _ _ h => h) (Or.inl ⟨by rfl, ?hyr7_20⟩) (by assumption) ?rer7_20
        case hyr7_20 => (intro W hSw; (try dsimp only at hSw); go_simp; try with_reducible rfl)
        try simp only [Act.put, List.setIfInBounds_toArray, List.set_cons_zero, List.set_cons_succ]
        refine' wpAnyH_take (i := 21) (oi := { dst := some 113, op := Go.Op.pick (Go.Operand.tmp 111) (Go.Operand.tmp 112) (Go.Operand.const (Go.Value.bool false)), type := 4, pos := "code.go:380", after := #[{ on := 19, ground := Go.Ground.data }, { on := 20, ground := Go.Ground.data }], guard := none }) (v := _) rfl (by kernel_rfl) (by kernel_rfl) (by kernel_rfl) (fun _ _ _ h => h) (Or.inl ⟨by rfl, ?hyr7_21⟩) (by assumption) ?rer7_21
        case hyr7_21 => (intro W hSw; (try dsimp only at hSw); go_simp; try with_reducible rfl)
        try simp only [Act.put, List.setIfInBounds_toArray, List.set_cons_zero, List.set_cons_succ]
        refine' wpAnyH_take (i := 22) (oi := { dst := some 114, op := Go.Op.move (Go.Operand.tmp 113), type := 4, pos := "code.go:380", after := #[{ on := 21, ground := Go.Ground.data }, { on := 19, ground := Go.Ground.chain }], guard := none }) (v := _) rfl (by kernel_rfl) (by kernel_rfl) (by kernel_rfl) (fun _ _ _ h => h) (Or.inl ⟨by rfl, ?hyr7_22⟩) (by assumption) ?rer7_22
        case hyr7_22 => (intro W hSw; (try dsimp only at hSw); go_simp; try with_reducible rfl)
        try simp only [Act.put, List.setIfInBounds_toArray, List.set_cons_zero, List.set_cons_succ]
        refine' wpAnyH_take (i := 23) (oi := { dst := some 115, op := Go.Op.move (Go.Operand.tmp 14), type := 3, pos := "code.go:380", after := #[{ on := 22, ground := Go.Ground.guard }], guard := some (22, true) }) (v := _) rfl (by kernel_rfl) (by kernel_rfl) (by kernel_rfl) (fun _ _ _ h => h) (Or.inl ⟨by rfl, ?hyr7_23⟩) (by assumption) ?rer7_23
        case hyr7_23 => (intro W hSw; (try dsimp only at hSw); go_simp; try with_reducible rfl)
        try simp only [Act.put, List.setIfInBounds_toArray, List.set_cons_zero, List.set_cons_succ]
        refine' wpAnyH_take (i := 24) (oi := { dst := some 116, op := Go.Op.move (Go.Operand.tmp 18), type := 3, pos := "code.go:380", after := #[{ on := 22, ground := Go.Ground.guard }], guard := some (22, true) }) (v := _) rfl (by kernel_rfl) (by kernel_rfl) (by kernel_rfl) (fun _ _ _ h => h) (Or.inl ⟨by rfl, ?hyr7_24⟩) (by assumption) ?rer7_24
        case hyr7_24 => (intro W hSw; (try dsimp only at hSw); go_simp; try with_reducible rfl)
        try simp only [Act.put, List.setIfInBounds_toArray, List.set_cons_zero, List.set_cons_succ]
        refine' wpAnyH_take (i := 25) (oi := { dst := some 117, op := Go.Op.binOp Go.BinOp.eql 3 (Go.Operand.tmp 115) (Go.Operand.tmp 116) 3, type := 4, pos := "code.go:380", after := #[{ on := 23, ground := Go.Ground.data }, { on := 24, ground := Go.Ground.data }, { on := 22, ground := Go.Ground.guard }], guard := some (22, true) }) (v := _) rfl (by kernel_rfl) (by kernel_rfl) (by kernel_rfl) (fun _ _ _ h => h) (Or.inl ⟨by rfl, ?hyr7_25⟩) (by assumption) ?rer7_25
        case hyr7_25 => (intro W hSw; (try dsimp only at hSw); go_simp; try with_reducible rfl)
        try simp only [Act.put, List.setIfInBounds_toArray, List.set_cons_zero, List.set_cons_succ]
        refine' wpAnyH_take (i := 26) (oi := { dst := some 118, op := Go.Op.pick (Go.Operand.tmp 114) (Go.Operand.tmp 117) (Go.Operand.const (Go.Value.bool false)), type := 4, pos := "code.go:380", after := #[{ on := 22, ground := Go.Ground.data }, { on := 25, ground := Go.Ground.data }], guard := none }) (v := _) rfl (by kernel_rfl) (by kernel_rfl) (by kernel_rfl) (fun _ _ _ h => h) (Or.inl ⟨by rfl, ?hyr7_26⟩) (by assumption) ?rer7_26
        case hyr7_26 => (intro W hSw; (try dsimp only at hSw); go_simp; try with_reducible rfl)
        try simp only [Act.put, List.setIfInBounds_toArray, List.set_cons_zero, List.set_cons_succ]
        refine' wpAnyH_take (i := 27) (oi := { dst := some 119, op := Go.Op.move (Go.Operand.tmp 118), type := 4, pos := "code.go:380", after := #[{ on := 26, ground := Go.Ground.data }, { on := 22, ground := Go.Ground.chain }], guard := none }) (v := _) rfl (by kernel_rfl) (by kernel_rfl) (by kernel_rfl) (fun _ _ _ h => h) (Or.inl ⟨by rfl, ?hyr7_27⟩) (by assumption) ?rer7_27
        case hyr7_27 => (intro W hSw; (try dsimp only at hSw); go_simp; try with_reducible rfl)
        try simp only [Act.put, List.setIfInBounds_toArray, List.set_cons_zero, List.set_cons_succ]
        refine' wpAnyH_take (i := 28) (oi := { dst := some 120, op := Go.Op.move (Go.Operand.tmp 15), type := 32, pos := "code.go:380", after := #[{ on := 27, ground := Go.Ground.guard }], guard := some (27, true) }) (v := _) rfl (by kernel_rfl) (by kernel_rfl) (by kernel_rfl) (fun _ _ _ h => h) (Or.inl ⟨by rfl, ?hyr7_28⟩) (by assumption) ?rer7_28
        case hyr7_28 => (intro W hSw; (try dsimp only at hSw); go_simp; try with_reducible rfl)
        try simp only [Act.put, List.setIfInBounds_toArray, List.set_cons_zero, List.set_cons_succ]
        refine' wpAnyH_take (i := 29) (oi := { dst := some 121, op := Go.Op.move (Go.Operand.tmp 19), type := 32, pos := "code.go:380", after := #[{ on := 27, ground := Go.Ground.guard }], guard := some (27, true) }) (v := _) rfl (by kernel_rfl) (by kernel_rfl) (by kernel_rfl) (fun _ _ _ h => h) (Or.inl ⟨by rfl, ?hyr7_29⟩) (by assumption) ?rer7_29
        case hyr7_29 => (intro W hSw; (try dsimp only at hSw); go_simp; try with_reducible rfl)
        try simp only [Act.put, List.setIfInBounds_toArray, List.set_cons_zero, List.set_cons_succ]
        refine' wpAnyH_take (i := 30) (oi := { dst := some 122, op := Go.Op.binOp Go.BinOp.eql 32 (Go.Operand.tmp 120) (Go.Operand.tmp 121) 32, type := 4, pos := "code.go:380", after := #[{ on := 28, ground := Go.Ground.data }, { on := 29, ground := Go.Ground.data }, { on := 27, ground := Go.Ground.guard }], guard := some (27, true) }) (v := _) rfl (by kernel_rfl) (by kernel_rfl) (by kernel_rfl) (fun _ _ _ h => h) (Or.inl ⟨by rfl, ?hyr7_30⟩) (by assumption) ?rer7_30
        case hyr7_30 => (intro W hSw; (try dsimp only at hSw); go_simp; try with_reducible rfl)
        try simp only [Act.put, List.setIfInBounds_toArray, List.set_cons_zero, List.set_cons_succ]
        refine' wpAnyH_take (i := 31) (oi := { dst := some 123, op := Go.Op.pick (Go.Operand.tmp 119) (Go.Operand.tmp 122) (Go.Operand.const (Go.Value.bool false)), type := 4, pos := "code.go:380", after := #[{ on := 27, ground := Go.Ground.data }, { on := 30, ground := Go.Ground.data }], guard := none }) (v := _) rfl (by kernel_rfl) (by kernel_rfl) (by kernel_rfl) (fun _ _ _ h => h) (Or.inl ⟨by rfl, ?hyr7_31⟩) (by assumption) ?rer7_31
        case hyr7_31 => (intro W hSw; (try dsimp only at hSw); go_simp; try with_reducible rfl)
        try simp only [Act.put, List.setIfInBounds_toArray, List.set_cons_zero, List.set_cons_succ]
        refine' wpAnyH_take (i := 32) (oi := { dst := some 124, op := Go.Op.move (Go.Operand.tmp 123), type := 4, pos := "code.go:380", after := #[{ on := 31, ground := Go.Ground.data }, { on := 27, ground := Go.Ground.chain }], guard := none }) (v := _) rfl (by kernel_rfl) (by kernel_rfl) (by kernel_rfl) (fun _ _ _ h => h) (Or.inl ⟨by rfl, ?hyr7_32⟩) (by assumption) ?rer7_32
        case hyr7_32 => (intro W hSw; (try dsimp only at hSw); go_simp; try with_reducible rfl)
        try simp only [Act.put, List.setIfInBounds_toArray, List.set_cons_zero, List.set_cons_succ]
        refine' wpAnyH_take (i := 33) (oi := { dst := some 125, op := Go.Op.move (Go.Operand.tmp 21), type := 29, pos := "code.go:380", after := #[{ on := 32, ground := Go.Ground.guard }], guard := some (32, true) }) (v := _) rfl (by kernel_rfl) (by kernel_rfl) (by kernel_rfl) (fun _ _ _ h => h) (Or.inl ⟨by rfl, ?hyr7_33⟩) (by assumption) ?rer7_33
        case hyr7_33 => (intro W hSw; (try dsimp only at hSw); go_simp; try with_reducible rfl)
        try simp only [Act.put, List.setIfInBounds_toArray, List.set_cons_zero, List.set_cons_succ]
        refine' wpAnyH_take (i := 34) (oi := { dst := some 126, op := Go.Op.binOp Go.BinOp.eql 29 (Go.Operand.tmp 125) (Go.Operand.const Go.Value.nilIface) 29, type := 4, pos := "code.go:380", after := #[{ on := 33, ground := Go.Ground.data }, { on := 32, ground := Go.Ground.guard }], guard := some (32, true) }) (v := _) rfl (by kernel_rfl) (by kernel_rfl) (by kernel_rfl) (fun _ _ _ h => h) (Or.inl ⟨by rfl, ?hyr7_34⟩) (by assumption) ?rer7_34
        case hyr7_34 => (intro W hSw; (try dsimp only at hSw); go_simp; try with_reducible rfl)
        try simp only [Act.put, List.setIfInBounds_toArray, List.set_cons_zero, List.set_cons_succ]
        refine' wpAnyH_take (i := 35) (oi := { dst := some 127, op := Go.Op.move (Go.Operand.tmp 13), type := 29, pos := "code.go:380", after := #[{ on := 32, ground := Go.Ground.guard }], guard := some (32, true) }) (v := _) rfl (by kernel_rfl) (by kernel_rfl) (by kernel_rfl) (fun _ _ _ h => h) (Or.inl ⟨by rfl, ?hyr7_35⟩) (by assumption) ?rer7_35
        case hyr7_35 => (intro W hSw; (try dsimp only at hSw); go_simp; try with_reducible rfl)
        try simp only [Act.put, List.setIfInBounds_toArray, List.set_cons_zero, List.set_cons_succ]
        refine' wpAnyH_take (i := 36) (oi := { dst := some 128, op := Go.Op.binOp Go.BinOp.eql 29 (Go.Operand.tmp 127) (Go.Operand.const Go.Value.nilIface) 29, type := 4, pos := "code.go:380", after := #[{ on := 35, ground := Go.Ground.data }, { on := 32, ground := Go.Ground.guard }], guard := some (32, true) }) (v := _) rfl (by kernel_rfl) (by kernel_rfl) (by kernel_rfl) (fun _ _ _ h => h) (Or.inl ⟨by rfl, ?hyr7_36⟩) (by assumption) ?rer7_36
        case hyr7_36 => (intro W hSw; (try dsimp only at hSw); go_simp; try with_reducible rfl)
        try simp only [Act.put, List.setIfInBounds_toArray, List.set_cons_zero, List.set_cons_succ]
        refine' wpAnyH_take (i := 37) (oi := { dst := some 129, op := Go.Op.binOp Go.BinOp.eql 4 (Go.Operand.tmp 126) (Go.Operand.tmp 128) 4, type := 4, pos := "code.go:380", after := #[{ on := 34, ground := Go.Ground.data }, { on := 36, ground := Go.Ground.data }, { on := 32, ground := Go.Ground.guard }], guard := some (32, true) }) (v := _) rfl (by kernel_rfl) (by kernel_rfl) (by kernel_rfl) (fun _ _ _ h => h) (Or.inl ⟨by rfl, ?hyr7_37⟩) (by assumption) ?rer7_37
        case hyr7_37 => (intro W hSw; (try dsimp only at hSw); go_simp; try with_reducible rfl)
        try simp only [Act.put, List.setIfInBounds_toArray, List.set_cons_zero, List.set_cons_succ]
        refine' wpAnyH_take (i := 38) (oi := { dst := some 130, op := Go.Op.pick (Go.Operand.tmp 124) (Go.Operand.tmp 129) (Go.Operand.const (Go.Value.bool false)), type := 4, pos := "code.go:380", after := #[{ on := 32, ground := Go.Ground.data }, { on := 37, ground := Go.Ground.data }], guard := none }) (v := _) rfl (by kernel_rfl) (by kernel_rfl) (by kernel_rfl) (fun _ _ _ h => h) (Or.inl ⟨by rfl, ?hyr7_38⟩) (by assumption) ?rer7_38
        case hyr7_38 => (intro W hSw; (try dsimp only at hSw); go_simp; try with_reducible rfl)
        try simp only [Act.put, List.setIfInBounds_toArray, List.set_cons_zero, List.set_cons_succ]
        refine' wpAnyH_take (i := 39) (oi := { dst := some 4, op := Go.Op.assign (Go.Operand.tmp 130), type := 4, pos := "code.go:380", after := #[{ on := 38, ground := Go.Ground.data }, { on := 32, ground := Go.Ground.chain }, { on := 0, ground := Go.Ground.phase }, { on := 1, ground := Go.Ground.phase }, { on := 2, ground := Go.Ground.phase }, { on := 3, ground := Go.Ground.phase }, { on := 4, ground := Go.Ground.phase }, { on := 5, ground := Go.Ground.phase }, { on := 6, ground := Go.Ground.phase }, { on := 7, ground := Go.Ground.phase }, { on := 8, ground := Go.Ground.phase }, { on := 9, ground := Go.Ground.phase }, { on := 10, ground := Go.Ground.phase }, { on := 11, ground := Go.Ground.phase }, { on := 12, ground := Go.Ground.phase }, { on := 13, ground := Go.Ground.phase }, { on := 14, ground := Go.Ground.phase }, { on := 15, ground := Go.Ground.phase }, { on := 16, ground := Go.Ground.phase }, { on := 17, ground := Go.Ground.phase }, { on := 18, ground := Go.Ground.phase }, { on := 19, ground := Go.Ground.phase }, { on := 20, ground := Go.Ground.phase }, { on := 21, ground := Go.Ground.phase }, { on := 22, ground := Go.Ground.phase }, { on := 23, ground := Go.Ground.phase }, { on := 24, ground := Go.Ground.phase }, { on := 25, ground := Go.Ground.phase }, { on := 26, ground := Go.Ground.phase }, { on := 27, ground := Go.Ground.phase }, { on := 28, ground := Go.Ground.phase }, { on := 29, ground := Go.Ground.phase }, { on := 30, ground := Go.Ground.phase }, { on := 31, ground := Go.Ground.phase }, { on := 32, ground := Go.Ground.phase }, { on := 33, ground := Go.Ground.phase }, { on := 34, ground := Go.Ground.phase }, { on := 35, ground := Go.Ground.phase }, { on := 36, ground := Go.Ground.phase }, { on := 37, ground := Go.Ground.phase }, { on := 38, ground := Go.Ground.phase }], guard := none }) (v := _) rfl (by kernel_rfl) (by kernel_rfl) (by kernel_rfl) (fun _ _ _ h => h) (Or.inl ⟨by rfl, ?hyr7_39⟩) (by assumption) ?rer7_39
        case hyr7_39 => (intro W hSw; (try dsimp only at hSw); go_simp; try with_reducible rfl)
        try simp only [Act.put, List.setIfInBounds_toArray, List.set_cons_zero, List.set_cons_succ]
        refine wpAnyH_done (by kernel_rfl) ?_ _
        clear hHeld
        refine NoPanic.normal ?_
        go_wp2_with fail
        go_ret
        exact ⟨rfl, below_on Y0.out (below_on Xo.out Zp.out)⟩
      · clear EE
        refine wp_region_noPanic ?_
        refine wp_region_held_drew (S := (fun V => V.cell? ⟨B, 0, none⟩ = some (.string nm) ∧ V.cell? ⟨B, 1, none⟩ = some (.int .i64 pa) ∧ V.cell? ⟨B, 2, none⟩ = some (.int .i64 lo) ∧ V.cell? ⟨B, 3, none⟩ = some (.slice ao n c))) (by kernel_rfl) (⟨b0, b1, b2, b3⟩) (fun hHeld => ?_)
        refine' wpAnyH_take (i := 0) (oi := { dst := some 92, op := Go.Op.move (Go.Operand.tmp 5), type := 4, pos := "code.go:380", after := #[], guard := none }) (v := _) rfl (by kernel_rfl) (by kernel_rfl) (by kernel_rfl) (fun _ _ _ h => h) (Or.inl ⟨by rfl, ?hyr8_0⟩) (by assumption) ?rer8_0
        case hyr8_0 => (intro W hSw; (try dsimp only at hSw); go_simp; try with_reducible rfl)
        try simp only [Act.put, List.setIfInBounds_toArray, List.set_cons_zero, List.set_cons_succ]
        refine' wpAnyH_take (i := 1) (oi := { dst := some 93, op := Go.Op.move (Go.Operand.tmp 92), type := 4, pos := "code.go:380", after := #[{ on := 0, ground := Go.Ground.data }], guard := none }) (v := _) rfl (by kernel_rfl) (by kernel_rfl) (by kernel_rfl) (fun _ _ _ h => h) (Or.inl ⟨by rfl, ?hyr8_1⟩) (by assumption) ?rer8_1
        case hyr8_1 => (intro W hSw; (try dsimp only at hSw); go_simp; try with_reducible rfl)
        try simp only [Act.put, List.setIfInBounds_toArray, List.set_cons_zero, List.set_cons_succ]
        refine' wpAnyH_take (i := 2) (oi := { dst := some 94, op := Go.Op.move (Go.Operand.tmp 9), type := 4, pos := "code.go:380", after := #[{ on := 1, ground := Go.Ground.guard }], guard := some (1, true) }) (v := _) rfl (by kernel_rfl) (by kernel_rfl) (by kernel_rfl) (fun _ _ _ h => h) (Or.inl ⟨by rfl, ?hyr8_2⟩) (by assumption) ?rer8_2
        case hyr8_2 => (intro W hSw; (try dsimp only at hSw); go_simp; try with_reducible rfl)
        try simp only [Act.put, List.setIfInBounds_toArray, List.set_cons_zero, List.set_cons_succ]
        refine' wpAnyH_take (i := 3) (oi := { dst := some 95, op := Go.Op.pick (Go.Operand.tmp 93) (Go.Operand.tmp 94) (Go.Operand.const (Go.Value.bool false)), type := 4, pos := "code.go:380", after := #[{ on := 1, ground := Go.Ground.data }, { on := 2, ground := Go.Ground.data }], guard := none }) (v := _) rfl (by kernel_rfl) (by kernel_rfl) (by kernel_rfl) (fun _ _ _ h => h) (Or.inl ⟨by rfl, ?hyr8_3⟩) (by assumption) ?rer8_3
        case hyr8_3 => (intro W hSw; (try dsimp only at hSw); go_simp; try with_reducible rfl)
        try simp only [Act.put, List.setIfInBounds_toArray, List.set_cons_zero, List.set_cons_succ]
        refine' wpAnyH_take (i := 4) (oi := { dst := some 96, op := Go.Op.move (Go.Operand.tmp 95), type := 4, pos := "code.go:380", after := #[{ on := 3, ground := Go.Ground.data }, { on := 1, ground := Go.Ground.chain }], guard := none }) (v := _) rfl (by kernel_rfl) (by kernel_rfl) (by kernel_rfl) (fun _ _ _ h => h) (Or.inl ⟨by rfl, ?hyr8_4⟩) (by assumption) ?rer8_4
        case hyr8_4 => (intro W hSw; (try dsimp only at hSw); go_simp; try with_reducible rfl)
        try simp only [Act.put, List.setIfInBounds_toArray, List.set_cons_zero, List.set_cons_succ]
        refine' wpAnyH_take (i := 5) (oi := { dst := some 97, op := Go.Op.move (Go.Operand.tmp 23), type := 4, pos := "code.go:380", after := #[{ on := 4, ground := Go.Ground.guard }], guard := some (4, true) }) (v := _) rfl (by kernel_rfl) (by kernel_rfl) (by kernel_rfl) (fun _ _ _ h => h) (Or.inl ⟨by rfl, ?hyr8_5⟩) (by assumption) ?rer8_5
        case hyr8_5 => (intro W hSw; (try dsimp only at hSw); go_simp; try with_reducible rfl)
        try simp only [Act.put, List.setIfInBounds_toArray, List.set_cons_zero, List.set_cons_succ]
        refine' wpAnyH_take (i := 6) (oi := { dst := some 98, op := Go.Op.pick (Go.Operand.tmp 96) (Go.Operand.tmp 97) (Go.Operand.const (Go.Value.bool false)), type := 4, pos := "code.go:380", after := #[{ on := 4, ground := Go.Ground.data }, { on := 5, ground := Go.Ground.data }], guard := none }) (v := _) rfl (by kernel_rfl) (by kernel_rfl) (by kernel_rfl) (fun _ _ _ h => h) (Or.inl ⟨by rfl, ?hyr8_6⟩) (by assumption) ?rer8_6
        case hyr8_6 => (intro W hSw; (try dsimp only at hSw); go_simp; try with_reducible rfl)
        try simp only [Act.put, List.setIfInBounds_toArray, List.set_cons_zero, List.set_cons_succ]
        refine' wpAnyH_take (i := 7) (oi := { dst := some 99, op := Go.Op.move (Go.Operand.tmp 98), type := 4, pos := "code.go:380", after := #[{ on := 6, ground := Go.Ground.data }, { on := 4, ground := Go.Ground.chain }], guard := none }) (v := _) rfl (by kernel_rfl) (by kernel_rfl) (by kernel_rfl) (fun _ _ _ h => h) (Or.inl ⟨by rfl, ?hyr8_7⟩) (by assumption) ?rer8_7
        case hyr8_7 => (intro W hSw; (try dsimp only at hSw); go_simp; try with_reducible rfl)
        try simp only [Act.put, List.setIfInBounds_toArray, List.set_cons_zero, List.set_cons_succ]
        refine' wpAnyH_take (i := 8) (oi := { dst := some 100, op := Go.Op.move (Go.Operand.tmp 8), type := 9, pos := "code.go:380", after := #[{ on := 7, ground := Go.Ground.guard }], guard := some (7, true) }) (v := _) rfl (by kernel_rfl) (by kernel_rfl) (by kernel_rfl) (fun _ _ _ h => h) (Or.inl ⟨by rfl, ?hyr8_8⟩) (by assumption) ?rer8_8
        case hyr8_8 => (intro W hSw; (try dsimp only at hSw); go_simp; try with_reducible rfl)
        try simp only [Act.put, List.setIfInBounds_toArray, List.set_cons_zero, List.set_cons_succ]
        refine' wpAnyH_take (i := 9) (oi := { dst := some 101, op := Go.Op.load 45 (Go.Operand.tmp 2), type := 45, pos := "code.go:380", after := #[{ on := 7, ground := Go.Ground.guard }], guard := some (7, true) }) (v := _) rfl (by kernel_rfl) (by kernel_rfl) (by kernel_rfl) (fun _ _ _ h => h) (Or.inl ⟨by rfl, ?hyr8_9⟩) (by assumption) ?rer8_9
        case hyr8_9 => (intro W hSw; (try dsimp only at hSw); go_simp; try with_reducible rfl)
        try simp only [Act.put, List.setIfInBounds_toArray, List.set_cons_zero, List.set_cons_succ]
        refine wpAnyH_ready (rs := [10]) (by kernel_rfl) (by simp) ?_
        refine AllReadyH.cons (o := { dst := some 102, op := Go.Op.call { callee := Go.Callee.value (Go.Operand.func 18), args := #[Go.Operand.tmp 101], argTypes := #[45] }, type := 9, pos := "code.go:380", after := #[{ on := 9, ground := Go.Ground.data }, { on := 7, ground := Go.Ground.chain }, { on := 7, ground := Go.Ground.guard }], guard := some (7, true) }) rfl (fun K hK => ?_) AllReadyH.nil
        clear hHeld
        go_simp
        refine (JL.out _ (below_drew wo)).mono ?_
        rintro e wp ⟨rfl, bp⟩
        have Zp := hide (below_on (below_drew wo) bp)
        clear bp
        refine hK.out _ _ (AT.out _ (below_on Xo.out Zp.out)) (fun hHeld => ?_)
        clear hK K
        try simp only [Act.put, List.setIfInBounds_toArray, List.set_cons_zero, List.set_cons_succ]
        refine' wpAnyH_take (i := 11) (oi := { dst := some 103, op := Go.Op.binOp Go.BinOp.eql 9 (Go.Operand.tmp 100) (Go.Operand.tmp 102) 9, type := 4, pos := "code.go:380", after := #[{ on := 8, ground := Go.Ground.data }, { on := 10, ground := Go.Ground.data }, { on := 7, ground := Go.Ground.guard }], guard := some (7, true) }) (v := _) rfl (by kernel_rfl) (by kernel_rfl) (by kernel_rfl) (fun _ _ _ h => h) (Or.inl ⟨by rfl, ?hyr8_11⟩) (by assumption) ?rer8_11
        case hyr8_11 => (intro W hSw; (try dsimp only at hSw); go_simp; try with_reducible rfl)
        try simp only [Act.put, List.setIfInBounds_toArray, List.set_cons_zero, List.set_cons_succ]
        refine' wpAnyH_take (i := 12) (oi := { dst := some 104, op := Go.Op.pick (Go.Operand.tmp 99) (Go.Operand.tmp 103) (Go.Operand.const (Go.Value.bool false)), type := 4, pos := "code.go:380", after := #[{ on := 7, ground := Go.Ground.data }, { on := 11, ground := Go.Ground.data }], guard := none }) (v := _) rfl (by kernel_rfl) (by kernel_rfl) (by kernel_rfl) (fun _ _ _ h => h) (Or.inl ⟨by rfl, ?hyr8_12⟩) (by assumption) ?rer8_12
        case hyr8_12 => (intro W hSw; (try dsimp only at hSw); go_simp; try with_reducible rfl)
        try simp only [Act.put, List.setIfInBounds_toArray, List.set_cons_zero, List.set_cons_succ]
        refine' wpAnyH_take (i := 13) (oi := { dst := some 105, op := Go.Op.move (Go.Operand.tmp 104), type := 4, pos := "code.go:380", after := #[{ on := 12, ground := Go.Ground.data }, { on := 10, ground := Go.Ground.chain }], guard := none }) (v := _) rfl (by kernel_rfl) (by kernel_rfl) (by kernel_rfl) (fun _ _ _ h => h) (Or.inl ⟨by rfl, ?hyr8_13⟩) (by assumption) ?rer8_13
        case hyr8_13 => (intro W hSw; (try dsimp only at hSw); go_simp; try with_reducible rfl)
        try simp only [Act.put, List.setIfInBounds_toArray, List.set_cons_zero, List.set_cons_succ]
        refine' wpAnyH_take (i := 14) (oi := { dst := some 106, op := Go.Op.move (Go.Operand.tmp 22), type := 4, pos := "code.go:380", after := #[{ on := 13, ground := Go.Ground.guard }], guard := some (13, true) }) (v := _) rfl (by kernel_rfl) (by kernel_rfl) (by kernel_rfl) (fun _ _ _ h => h) (Or.inl ⟨by rfl, ?hyr8_14⟩) (by assumption) ?rer8_14
        case hyr8_14 => (intro W hSw; (try dsimp only at hSw); go_simp; try with_reducible rfl)
        try simp only [Act.put, List.setIfInBounds_toArray, List.set_cons_zero, List.set_cons_succ]
        refine' wpAnyH_take (i := 15) (oi := { dst := some 107, op := Go.Op.pick (Go.Operand.tmp 105) (Go.Operand.tmp 106) (Go.Operand.const (Go.Value.bool false)), type := 4, pos := "code.go:380", after := #[{ on := 13, ground := Go.Ground.data }, { on := 14, ground := Go.Ground.data }], guard := none }) (v := _) rfl (by kernel_rfl) (by kernel_rfl) (by kernel_rfl) (fun _ _ _ h => h) (Or.inl ⟨by rfl, ?hyr8_15⟩) (by assumption) ?rer8_15
        case hyr8_15 => (intro W hSw; (try dsimp only at hSw); go_simp; try with_reducible rfl)
        try simp only [Act.put, List.setIfInBounds_toArray, List.set_cons_zero, List.set_cons_succ]
        refine' wpAnyH_take (i := 16) (oi := { dst := some 108, op := Go.Op.move (Go.Operand.tmp 107), type := 4, pos := "code.go:380", after := #[{ on := 15, ground := Go.Ground.data }, { on := 13, ground := Go.Ground.chain }], guard := none }) (v := _) rfl (by kernel_rfl) (by kernel_rfl) (by kernel_rfl) (fun _ _ _ h => h) (Or.inl ⟨by rfl, ?hyr8_16⟩) (by assumption) ?rer8_16
        case hyr8_16 => (intro W hSw; (try dsimp only at hSw); go_simp; try with_reducible rfl)
        try simp only [Act.put, List.setIfInBounds_toArray, List.set_cons_zero, List.set_cons_succ]
        refine' wpAnyH_take (i := 17) (oi := { dst := some 109, op := Go.Op.move (Go.Operand.tmp 24), type := 4, pos := "code.go:380", after := #[{ on := 16, ground := Go.Ground.guard }], guard := some (16, true) }) (v := _) rfl (by kernel_rfl) (by kernel_rfl) (by kernel_rfl) (fun _ _ _ h => h) (Or.inl ⟨by rfl, ?hyr8_17⟩) (by assumption) ?rer8_17
        case hyr8_17 => (intro W hSw; (try dsimp only at hSw); go_simp; try with_reducible rfl)
        try simp only [Act.put, List.setIfInBounds_toArray, List.set_cons_zero, List.set_cons_succ]
        refine' wpAnyH_take (i := 18) (oi := { dst := some 110, op := Go.Op.pick (Go.Operand.tmp 108) (Go.Operand.tmp 109) (Go.Operand.const (Go.Value.bool false)), type := 4, pos := "code.go:380", after := #[{ on := 16, ground := Go.Ground.data }, { on := 17, ground := Go.Ground.data }], guard := none }) (v := _) rfl (by kernel_rfl) (by kernel_rfl) (by kernel_rfl) (fun _ _ _ h => h) (Or.inl ⟨by rfl, ?hyr8_18⟩) (by assumption) ?rer8_18
        case hyr8_18 => (intro W hSw; (try dsimp only at hSw); go_simp; try with_reducible rfl)
        try simp only [Act.put, List.setIfInBounds_toArray, List.set_cons_zero, List.set_cons_succ]
        refine' wpAnyH_take (i := 19) (oi := { dst := some 111, op := Go.Op.move (Go.Operand.tmp 110), type := 4, pos := "code.go:380", after := #[{ on := 18, ground := Go.Ground.data }, { on := 16, ground := Go.Ground.chain }], guard := none }) (v := _) rfl (by kernel_rfl) (by kernel_rfl) (by kernel_rfl) (fun _ _ _ h => h) (Or.inl ⟨by rfl, ?hyr8_19⟩) (by assumption) ?rer8_19
        case hyr8_19 => (intro W hSw; (try dsimp only at hSw); go_simp; try with_reducible rfl)
        try simp only [Act.put, List.setIfInBounds_toArray, List.set_cons_zero, List.set_cons_succ]
        refine' wpAnyH_take (i := 20) (oi := { dst := some 112, op := Go.Op.move (Go.Operand.tmp 16), type := 4, pos := "code.go:380", after := #[{ on := 19, ground := Go.Ground.guard }], guard := some (19, true) }) (v := _) rfl (by kernel_rfl) (by kernel_rfl) (by kernel_rfl) (fun _ _ _ h => h) (Or.inl ⟨by rfl, ?hyr8_20⟩) (by assumption) ?rer8_20
        case hyr8_20 => (intro W hSw; (try dsimp only at hSw); go_simp; try with_reducible rfl)
        try simp only [Act.put, List.setIfInBounds_toArray, List.set_cons_zero, List.set_cons_succ]
        refine' wpAnyH_take (i := 21) (oi := { dst := some 113, op := Go.Op.pick (Go.Operand.tmp 111) (Go.Operand.tmp 112) (Go.Operand.const (Go.Value.bool false)), type := 4, pos := "code.go:380", after := #[{ on := 19, ground := Go.Ground.data }, { on := 20, ground := Go.Ground.data }], guard := none }) (v := _) rfl (by kernel_rfl) (by kernel_rfl) (by kernel_rfl) (fun _ _ _ h => h) (Or.inl ⟨by rfl, ?hyr8_21⟩) (by assumption) ?rer8_21
        case hyr8_21 => (intro W hSw; (try dsimp only at hSw); go_simp; try with_reducible rfl)
        try simp only [Act.put, List.setIfInBounds_toArray, List.set_cons_zero, List.set_cons_succ]
        refine' wpAnyH_take (i := 22) (oi := { dst := some 114, op := Go.Op.move (Go.Operand.tmp 113), type := 4, pos := "code.go:380", after := #[{ on := 21, ground := Go.Ground.data }, { on := 19, ground := Go.Ground.chain }], guard := none }) (v := _) rfl (by kernel_rfl) (by kernel_rfl) (by kernel_rfl) (fun _ _ _ h => h) (Or.inl ⟨by rfl, ?hyr8_22⟩) (by assumption) ?rer8_22
        case hyr8_22 => (intro W hSw; (try dsimp only at hSw); go_simp; try with_reducible rfl)
        try simp only [Act.put, List.setIfInBounds_toArray, List.set_cons_zero, List.set_cons_succ]
        refine' wpAnyH_take (i := 23) (oi := { dst := some 115, op := Go.Op.move (Go.Operand.tmp 14), type := 3, pos := "code.go:380", after := #[{ on := 22, ground := Go.Ground.guard }], guard := some (22, true) }) (v := _) rfl (by kernel_rfl) (by kernel_rfl) (by kernel_rfl) (fun _ _ _ h => h) (Or.inl ⟨by rfl, ?hyr8_23⟩) (by assumption) ?rer8_23
        case hyr8_23 => (intro W hSw; (try dsimp only at hSw); go_simp; try with_reducible rfl)
        try simp only [Act.put, List.setIfInBounds_toArray, List.set_cons_zero, List.set_cons_succ]
        refine' wpAnyH_take (i := 24) (oi := { dst := some 116, op := Go.Op.move (Go.Operand.tmp 18), type := 3, pos := "code.go:380", after := #[{ on := 22, ground := Go.Ground.guard }], guard := some (22, true) }) (v := _) rfl (by kernel_rfl) (by kernel_rfl) (by kernel_rfl) (fun _ _ _ h => h) (Or.inl ⟨by rfl, ?hyr8_24⟩) (by assumption) ?rer8_24
        case hyr8_24 => (intro W hSw; (try dsimp only at hSw); go_simp; try with_reducible rfl)
        try simp only [Act.put, List.setIfInBounds_toArray, List.set_cons_zero, List.set_cons_succ]
        refine' wpAnyH_take (i := 25) (oi := { dst := some 117, op := Go.Op.binOp Go.BinOp.eql 3 (Go.Operand.tmp 115) (Go.Operand.tmp 116) 3, type := 4, pos := "code.go:380", after := #[{ on := 23, ground := Go.Ground.data }, { on := 24, ground := Go.Ground.data }, { on := 22, ground := Go.Ground.guard }], guard := some (22, true) }) (v := _) rfl (by kernel_rfl) (by kernel_rfl) (by kernel_rfl) (fun _ _ _ h => h) (Or.inl ⟨by rfl, ?hyr8_25⟩) (by assumption) ?rer8_25
        case hyr8_25 => (intro W hSw; (try dsimp only at hSw); go_simp; try with_reducible rfl)
        try simp only [Act.put, List.setIfInBounds_toArray, List.set_cons_zero, List.set_cons_succ]
        refine' wpAnyH_take (i := 26) (oi := { dst := some 118, op := Go.Op.pick (Go.Operand.tmp 114) (Go.Operand.tmp 117) (Go.Operand.const (Go.Value.bool false)), type := 4, pos := "code.go:380", after := #[{ on := 22, ground := Go.Ground.data }, { on := 25, ground := Go.Ground.data }], guard := none }) (v := _) rfl (by kernel_rfl) (by kernel_rfl) (by kernel_rfl) (fun _ _ _ h => h) (Or.inl ⟨by rfl, ?hyr8_26⟩) (by assumption) ?rer8_26
        case hyr8_26 => (intro W hSw; (try dsimp only at hSw); go_simp; try with_reducible rfl)
        try simp only [Act.put, List.setIfInBounds_toArray, List.set_cons_zero, List.set_cons_succ]
        refine' wpAnyH_take (i := 27) (oi := { dst := some 119, op := Go.Op.move (Go.Operand.tmp 118), type := 4, pos := "code.go:380", after := #[{ on := 26, ground := Go.Ground.data }, { on := 22, ground := Go.Ground.chain }], guard := none }) (v := _) rfl (by kernel_rfl) (by kernel_rfl) (by kernel_rfl) (fun _ _ _ h => h) (Or.inl ⟨by rfl, ?hyr8_27⟩) (by assumption) ?rer8_27
        case hyr8_27 => (intro W hSw; (try dsimp only at hSw); go_simp; try with_reducible rfl)
        try simp only [Act.put, List.setIfInBounds_toArray, List.set_cons_zero, List.set_cons_succ]
        refine' wpAnyH_take (i := 28) (oi := { dst := some 120, op := Go.Op.move (Go.Operand.tmp 15), type := 32, pos := "code.go:380", after := #[{ on := 27, ground := Go.Ground.guard }], guard := some (27, true) }) (v := _) rfl (by kernel_rfl) (by kernel_rfl) (by kernel_rfl) (fun _ _ _ h => h) (Or.inl ⟨by rfl, ?hyr8_28⟩) (by assumption) ?rer8_28
        case hyr8_28 => (intro W hSw; (try dsimp only at hSw); go_simp; try with_reducible rfl)
        try simp only [Act.put, List.setIfInBounds_toArray, List.set_cons_zero, List.set_cons_succ]
        refine' wpAnyH_take (i := 29) (oi := { dst := some 121, op := Go.Op.move (Go.Operand.tmp 19), type := 32, pos := "code.go:380", after := #[{ on := 27, ground := Go.Ground.guard }], guard := some (27, true) }) (v := _) rfl (by kernel_rfl) (by kernel_rfl) (by kernel_rfl) (fun _ _ _ h => h) (Or.inl ⟨by rfl, ?hyr8_29⟩) (by assumption) ?rer8_29
        case hyr8_29 => (intro W hSw; (try dsimp only at hSw); go_simp; try with_reducible rfl)
        try simp only [Act.put, List.setIfInBounds_toArray, List.set_cons_zero, List.set_cons_succ]
        refine' wpAnyH_take (i := 30) (oi := { dst := some 122, op := Go.Op.binOp Go.BinOp.eql 32 (Go.Operand.tmp 120) (Go.Operand.tmp 121) 32, type := 4, pos := "code.go:380", after := #[{ on := 28, ground := Go.Ground.data }, { on := 29, ground := Go.Ground.data }, { on := 27, ground := Go.Ground.guard }], guard := some (27, true) }) (v := _) rfl (by kernel_rfl) (by kernel_rfl) (by kernel_rfl) (fun _ _ _ h => h) (Or.inl ⟨by rfl, ?hyr8_30⟩) (by assumption) ?rer8_30
        case hyr8_30 => (intro W hSw; (try dsimp only at hSw); go_simp; try with_reducible rfl)
        try simp only [Act.put, List.setIfInBounds_toArray, List.set_cons_zero, List.set_cons_succ]
        refine' wpAnyH_take (i := 31) (oi := { dst := some 123, op := Go.Op.pick (Go.Operand.tmp 119) (Go.Operand.tmp 122) (Go.Operand.const (Go.Value.bool false)), type := 4, pos := "code.go:380", after := #[{ on := 27, ground := Go.Ground.data }, { on := 30, ground := Go.Ground.data }], guard := none }) (v := _) rfl (by kernel_rfl) (by kernel_rfl) (by kernel_rfl) (fun _ _ _ h => h) (Or.inl ⟨by rfl, ?hyr8_31⟩) (by assumption) ?rer8_31
        case hyr8_31 => (intro W hSw; (try dsimp only at hSw); go_simp; try with_reducible rfl)
        try simp only [Act.put, List.setIfInBounds_toArray, List.set_cons_zero, List.set_cons_succ]
        refine' wpAnyH_take (i := 32) (oi := { dst := some 124, op := Go.Op.move (Go.Operand.tmp 123), type := 4, pos := "code.go:380", after := #[{ on := 31, ground := Go.Ground.data }, { on := 27, ground := Go.Ground.chain }], guard := none }) (v := _) rfl (by kernel_rfl) (by kernel_rfl) (by kernel_rfl) (fun _ _ _ h => h) (Or.inl ⟨by rfl, ?hyr8_32⟩) (by assumption) ?rer8_32
        case hyr8_32 => (intro W hSw; (try dsimp only at hSw); go_simp; try with_reducible rfl)
        try simp only [Act.put, List.setIfInBounds_toArray, List.set_cons_zero, List.set_cons_succ]
        refine' wpAnyH_take (i := 33) (oi := { dst := some 125, op := Go.Op.move (Go.Operand.tmp 21), type := 29, pos := "code.go:380", after := #[{ on := 32, ground := Go.Ground.guard }], guard := some (32, true) }) (v := _) rfl (by kernel_rfl) (by kernel_rfl) (by kernel_rfl) (fun _ _ _ h => h) (Or.inl ⟨by rfl, ?hyr8_33⟩) (by assumption) ?rer8_33
        case hyr8_33 => (intro W hSw; (try dsimp only at hSw); go_simp; try with_reducible rfl)
        try simp only [Act.put, List.setIfInBounds_toArray, List.set_cons_zero, List.set_cons_succ]
        refine' wpAnyH_take (i := 34) (oi := { dst := some 126, op := Go.Op.binOp Go.BinOp.eql 29 (Go.Operand.tmp 125) (Go.Operand.const Go.Value.nilIface) 29, type := 4, pos := "code.go:380", after := #[{ on := 33, ground := Go.Ground.data }, { on := 32, ground := Go.Ground.guard }], guard := some (32, true) }) (v := _) rfl (by kernel_rfl) (by kernel_rfl) (by kernel_rfl) (fun _ _ _ h => h) (Or.inl ⟨by rfl, ?hyr8_34⟩) (by assumption) ?rer8_34
        case hyr8_34 => (intro W hSw; (try dsimp only at hSw); go_simp; try with_reducible rfl)
        try simp only [Act.put, List.setIfInBounds_toArray, List.set_cons_zero, List.set_cons_succ]
        refine' wpAnyH_take (i := 35) (oi := { dst := some 127, op := Go.Op.move (Go.Operand.tmp 13), type := 29, pos := "code.go:380", after := #[{ on := 32, ground := Go.Ground.guard }], guard := some (32, true) }) (v := _) rfl (by kernel_rfl) (by kernel_rfl) (by kernel_rfl) (fun _ _ _ h => h) (Or.inl ⟨by rfl, ?hyr8_35⟩) (by assumption) ?rer8_35
        case hyr8_35 => (intro W hSw; (try dsimp only at hSw); go_simp; try with_reducible rfl)
        try simp only [Act.put, List.setIfInBounds_toArray, List.set_cons_zero, List.set_cons_succ]
        refine' wpAnyH_take (i := 36) (oi := { dst := some 128, op := Go.Op.binOp Go.BinOp.eql 29 (Go.Operand.tmp 127) (Go.Operand.const Go.Value.nilIface) 29, type := 4, pos := "code.go:380", after := #[{ on := 35, ground := Go.Ground.data }, { on := 32, ground := Go.Ground.guard }], guard := some (32, true) }) (v := _) rfl (by kernel_rfl) (by kernel_rfl) (by kernel_rfl) (fun _ _ _ h => h) (Or.inl ⟨by rfl, ?hyr8_36⟩) (by assumption) ?rer8_36
        case hyr8_36 => (intro W hSw; (try dsimp only at hSw); go_simp; try with_reducible rfl)
        try simp only [Act.put, List.setIfInBounds_toArray, List.set_cons_zero, List.set_cons_succ]
        refine' wpAnyH_take (i := 37) (oi := { dst := some 129, op := Go.Op.binOp Go.BinOp.eql 4 (Go.Operand.tmp 126) (Go.Operand.tmp 128) 4, type := 4, pos := "code.go:380", after := #[{ on := 34, ground := Go.Ground.data }, { on := 36, ground := Go.Ground.data }, { on := 32, ground := Go.Ground.guard }], guard := some (32, true) }) (v := _) rfl (by kernel_rfl) (by kernel_rfl) (by kernel_rfl) (fun _ _ _ h => h) (Or.inl ⟨by rfl, ?hyr8_37⟩) (by assumption) ?rer8_37
        case hyr8_37 => (intro W hSw; (try dsimp only at hSw); go_simp; try with_reducible rfl)
        try simp only [Act.put, List.setIfInBounds_toArray, List.set_cons_zero, List.set_cons_succ]
        refine' wpAnyH_take (i := 38) (oi := { dst := some 130, op := Go.Op.pick (Go.Operand.tmp 124) (Go.Operand.tmp 129) (Go.Operand.const (Go.Value.bool false)), type := 4, pos := "code.go:380", after := #[{ on := 32, ground := Go.Ground.data }, { on := 37, ground := Go.Ground.data }], guard := none }) (v := _) rfl (by kernel_rfl) (by kernel_rfl) (by kernel_rfl) (fun _ _ _ h => h) (Or.inl ⟨by rfl, ?hyr8_38⟩) (by assumption) ?rer8_38
        case hyr8_38 => (intro W hSw; (try dsimp only at hSw); go_simp; try with_reducible rfl)
        try simp only [Act.put, List.setIfInBounds_toArray, List.set_cons_zero, List.set_cons_succ]
        refine' wpAnyH_take (i := 39) (oi := { dst := some 4, op := Go.Op.assign (Go.Operand.tmp 130), type := 4, pos := "code.go:380", after := #[{ on := 38, ground := Go.Ground.data }, { on := 32, ground := Go.Ground.chain }, { on := 0, ground := Go.Ground.phase }, { on := 1, ground := Go.Ground.phase }, { on := 2, ground := Go.Ground.phase }, { on := 3, ground := Go.Ground.phase }, { on := 4, ground := Go.Ground.phase }, { on := 5, ground := Go.Ground.phase }, { on := 6, ground := Go.Ground.phase }, { on := 7, ground := Go.Ground.phase }, { on := 8, ground := Go.Ground.phase }, { on := 9, ground := Go.Ground.phase }, { on := 10, ground := Go.Ground.phase }, { on := 11, ground := Go.Ground.phase }, { on := 12, ground := Go.Ground.phase }, { on := 13, ground := Go.Ground.phase }, { on := 14, ground := Go.Ground.phase }, { on := 15, ground := Go.Ground.phase }, { on := 16, ground := Go.Ground.phase }, { on := 17, ground := Go.Ground.phase }, { on := 18, ground := Go.Ground.phase }, { on := 19, ground := Go.Ground.phase }, { on := 20, ground := Go.Ground.phase }, { on := 21, ground := Go.Ground.phase }, { on := 22, ground := Go.Ground.phase }, { on := 23, ground := Go.Ground.phase }, { on := 24, ground := Go.Ground.phase }, { on := 25, ground := Go.Ground.phase }, { on := 26, ground := Go.Ground.phase }, { on := 27, ground := Go.Ground.phase }, { on := 28, ground := Go.Ground.phase }, { on := 29, ground := Go.Ground.phase }, { on := 30, ground := Go.Ground.phase }, { on := 31, ground := Go.Ground.phase }, { on := 32, ground := Go.Ground.phase }, { on := 33, ground := Go.Ground.phase }, { on := 34, ground := Go.Ground.phase }, { on := 35, ground := Go.Ground.phase }, { on := 36, ground := Go.Ground.phase }, { on := 37, ground := Go.Ground.phase }, { on := 38, ground := Go.Ground.phase }], guard := none }) (v := _) rfl (by kernel_rfl) (by kernel_rfl) (by kernel_rfl) (fun _ _ _ h => h) (Or.inl ⟨by rfl, ?hyr8_39⟩) (by assumption) ?rer8_39
        case hyr8_39 => (intro W hSw; (try dsimp only at hSw); go_simp; try with_reducible rfl)
        try simp only [Act.put, List.setIfInBounds_toArray, List.set_cons_zero, List.set_cons_succ]
        refine wpAnyH_done (by kernel_rfl) ?_ _
        clear hHeld
        refine NoPanic.normal ?_
        go_wp2_with fail
        go_ret
        exact ⟨rfl, below_on Y0.out (below_on Xo.out Zp.out)⟩
end Go.Proofs.YtpolajoephjdhaaGreatDoor
