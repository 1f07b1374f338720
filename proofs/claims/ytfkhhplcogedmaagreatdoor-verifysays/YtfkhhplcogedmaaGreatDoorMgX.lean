import Derived.Test.YtfkhhplcogedmaaGreatDoorVdG
import Derived.Test.YtfkhhplcogedmaaGreatDoorVsM
/-
  Verify: the law's same, sameSet, sameRow, where they are the same.
-/
namespace Go.Proofs.YtfkhhplcogedmaaGreatDoor
open Go.RowKit
set_option maxRecDepth 100000
theorem bel_dn {B : Nat} {a w : World} (h : Below B a w) (n : Nat) : Below B a (w.drewN n) := h.trans ⟨rfl, rfl, rfl, Nat.le_refl _, fun _ _ => rfl⟩
set_option maxHeartbeats 4000000 in
theorem lsameset_any {Q Q' : Nat → Prop} {w : World} {va vb : Value} {l : List Int} (ha : Nx Q w va l) (hb : Nl Q' w vb l) : Calls Tryz.prog 29 #[va, vb] w fun e w' => e = .returned (.bool true) ∧ Below w.heap.size w w' := by
  have HB := hide hb
  obtain ⟨aa, ca, rfl, a1, hal⟩ := ha
  have HA := hide hal
  obtain ⟨_, _, ea, -, a2⟩ := hal.at
  injection ea with ea1 ea2 ea3
  subst ea1 ea3
  obtain ⟨ab, cb, rfl, b1, b2⟩ := hb.at
  obtain ⟨n, hn⟩ : ∃ n, n = l.length := ⟨_, rfl⟩
  rw [← hn] at HA HB a1 b1 ⊢
  have HN := hide hn
  have hca : (n : Int) + 2 ≤ ca := by omega
  have tw : IntKind.i64.wrap ((n : Int) + 2) = (n : Int) + 2 := by rw [IntKind.wrap_i64]; omega
  have tnc : ¬ (ca : Int) < (n : Int) + 2 := by omega
  clear hb hn hal ea2
  go_enter Tryz.func29, Tryz.ntmps29
  go_upto_region 4 with fail
  clear tw tnc
  go_wp2_with fail
  go_loopw [6] (fun v6 W => ∃ i : Nat, i ≤ n + 2 ∧ v6 = .int .i64 (i : Int) ∧ Hid (Below w.heap.size w W)) (fun v6 _ => n + 2 - (intOf v6).toNat)
  case atStart => exact ⟨0, Nat.zero_le _, rfl, Below.refl _ _⟩
  case round =>
    obtain ⟨i, hi, rfl, HW⟩ := hrel
    by_cases hlt : i < n + 2
    · have hii : (i : Int) < (n : Int) + 2 := by omega
      have hil : i < (l ++ [77, 77]).length := by have := HN.out; rw [List.length_append]; show _ < _ + 2; omega
      obtain ⟨g, o, e1, -, z1, -⟩ := (HA.out.later HW.out).nth hil
      subst e1
      by_cases hin : i < n
      · have hinn : (i : Int) < (n : Int) := by omega
        have hin3 : ¬ (n : Int) ≤ (i : Int) := by omega
        have hil2 : i < l.length := by have := HN.out; omega
        obtain ⟨g', o', e1, -, z2, -⟩ := (HB.out.later HW.out).nth hil2
        subst e1
        rw [List.getElem_append_left hil2] at z1
        obtain ⟨x, hx⟩ : ∃ x, x = l[i] := ⟨_, rfl⟩
        rw [← hx] at z1 z2
        have tx : ((x : Int) != x) = false := by simp
        clear hx
        go_upto_region 7 with fail
        go_quiet (fail)
        go_wp2_with fail
        go_roundw
        case rel => exact ⟨i + 1, by omega, by go_num, bel_dn HW.out _⟩
        case measure => simp [intOf]; omega
      · have hinn : ¬ (i : Int) < (n : Int) := by omega
        have hin3 : (n : Int) ≤ (i : Int) := by omega
        have e77 : (l ++ [77, 77])[i] = 77 := by
          have := HN.out
          rw [List.getElem_append_right (by omega)]
          rcases (show i - l.length = 0 ∨ i - l.length = 1 by omega) with e | e <;> simp [e]
        rw [e77] at z1
        clear e77
        go_upto_region 7 with fail
        go_quiet (fail)
        go_wp2_with fail
        go_roundw
        case rel => exact ⟨i + 1, by omega, by go_num, bel_dn HW.out _⟩
        case measure => simp [intOf]; omega
    · have hii : ¬ (i : Int) < (n : Int) + 2 := by omega
      go_wp2_with fail
      go_ret
      exact ⟨rfl, HW.out⟩
theorem i77_lo (l : List Ins) (k i : Nat) (h : i < (i77 l k).length) (hi : i < l.length) : (i77 l k)[i] = l[i] := List.getElem_append_left (bs := List.replicate k ⟨77, 0⟩) hi
theorem i77_hi (l : List Ins) (k i : Nat) (h : i < (i77 l k).length) (hi : l.length ≤ i) : (i77 l k)[i] = ⟨77, 0⟩ := (List.getElem_append_right (bs := List.replicate k ⟨77, 0⟩) hi).trans (List.getElem_replicate _)
set_option maxHeartbeats 4000000 in
theorem lsamerow_any {Q Q' : Nat → Prop} {w : World} {va vb : Value} {l : List Ins} (ha : Ix Q w va l) (hb : Il Q' w vb l) : Calls Tryz.prog 30 #[va, vb] w fun e w' => e = .returned (.bool true) ∧ Below w.heap.size w w' := by
  have HB := hide hb
  obtain ⟨aa, ca, rfl, a1, hal⟩ := ha
  have HA := hide hal
  obtain ⟨_, _, ea, -, a2⟩ := hal.at
  injection ea with ea1 ea2 ea3
  subst ea1 ea3
  obtain ⟨ab, cb, rfl, b1, b2⟩ := hb.at
  obtain ⟨n, hn⟩ : ∃ n, n = l.length := ⟨_, rfl⟩
  rw [← hn] at HA HB a1 b1 ⊢
  have HN := hide hn
  have hca : (n : Int) + 8 ≤ ca := by omega
  have tw : IntKind.i64.wrap ((n : Int) + 8) = (n : Int) + 8 := by rw [IntKind.wrap_i64]; omega
  have tnc : ¬ (ca : Int) < (n : Int) + 8 := by omega
  clear hb hn hal ea2
  go_enter Tryz.func30, Tryz.ntmps30
  go_upto_region 4 with fail
  clear tw tnc
  go_wp2_with fail
  go_loopw [6] (fun v6 W => ∃ i : Nat, i ≤ n + 8 ∧ v6 = .int .i64 (i : Int) ∧ Hid (Below w.heap.size w W)) (fun v6 _ => n + 8 - (intOf v6).toNat)
  case atStart => exact ⟨0, Nat.zero_le _, rfl, Below.refl _ _⟩
  case round =>
    obtain ⟨i, hi, rfl, HW⟩ := hrel
    by_cases hlt : i < n + 8
    · have hii : (i : Int) < (n : Int) + 8 := by omega
      have hil : i < (i77 l 8).length := by have := HN.out; rw [i77_len]; omega
      obtain ⟨g, o, e1, -, z1, z2, -, -⟩ := (HA.out.later HW.out).nth hil
      subst e1
      by_cases hin : i < n
      · have hinn : (i : Int) < (n : Int) := by omega
        have hil2 : i < l.length := by have := HN.out; omega
        obtain ⟨g', o', e1, -, z3, z4, -, -⟩ := (HB.out.later HW.out).nth hil2
        subst e1
        rw [i77_lo l 8 i hil hil2] at z1 z2
        obtain ⟨xo, hxo⟩ : ∃ x, x = l[i].op := ⟨_, rfl⟩
        obtain ⟨xa, hxa⟩ : ∃ x, x = l[i].a := ⟨_, rfl⟩
        rw [← hxo] at z1 z3
        rw [← hxa] at z2 z4
        clear hxo hxa
        obtain ⟨W1, hW1⟩ : ∃ X, X = wr.alloc (.cells #[.int .i64 77, .int .i64 0] 28) := ⟨_, rfl⟩
        have b1' : Below wr.heap.size wr W1 := hW1 ▸ below_alloc wr _
        have k1 : W1.heap[wr.heap.size]? = some (.cells #[.int .i64 77, .int .i64 0] 28 (0, 0)) := by rw [hW1]; exact heap_alloc_new wr _
        obtain ⟨gw, hgw⟩ : ∃ x, x = wr.heap.size := ⟨_, rfl⟩
        rw [← hgw] at k1
        have hM := Mv.of_below b1' (fun _ => False)
        have y1 := hM.cell z1 id
        have y2 := hM.cell z2 id
        have y3 := hM.cell z3 id
        have y4 := hM.cell z4 id
        have y5 : W1.cell? ⟨gw, 0, none⟩ = some (.int .i64 77) := by rw [cell_of_row W1 _ _ _ 28 (0, 0) k1]; rfl
        have y6 : W1.cell? ⟨gw, 1, none⟩ = some (.int .i64 0) := by rw [cell_of_row W1 _ _ _ 28 (0, 0) k1]; rfl
        have y7 := frozen_of_row W1 gw 0 _ 28 k1
        have y8 := frozen_of_row W1 gw 1 _ 28 k1
        have ng : g ≠ gw := fun e => by have := World.block_lt_of_cell? wr _ z1; simp only at this; omega
        obtain ⟨W2, hW2⟩ : ∃ X, X = (W1.setCell ⟨gw, 0, none⟩ (.int .i64 xo)).setCell ⟨gw, 1, none⟩ (.int .i64 xa) := ⟨_, rfl⟩
        have B2 : Hid (Below w.heap.size w W2) := by
          have h1 := HW.out.size
          unfold Hid
          rw [hW2]
          exact ((below_on HW.out b1').setCell (by show _ ≤ gw; omega) _).setCell (by show _ ≤ gw; omega) _
        have k2 : W2.heap[gw]? = some (.cells #[.int .i64 xo, .int .i64 xa] 28 (0, 0)) := by rw [hW2, heap_setCell_same _ gw 1 _ 28 _ (heap_setCell_same W1 gw 0 _ 28 _ k1)]; rfl
        have m2 : Mv W1 W2 (fun j => j = gw) := by rw [hW2]; exact (mv_set W1 gw 0 _).trans (mv_set _ gw 1 _) (fun _ _ e => e)
        have S0 : Hid ((W2.drew.cell? ⟨g, o + i * 2, none⟩ = some (.int .i64 xo) ∧ W2.drew.cell? ⟨g, o + i * 2 + 1, none⟩ = some (.int .i64 xa)) ∧ W2.drew.cell? ⟨gw, 0, none⟩ = some (.int .i64 xo) ∧ W2.drew.cell? ⟨gw, 1, none⟩ = some (.int .i64 xa)) := ⟨⟨m2.cell y1 ng, m2.cell y2 ng⟩, by show W2.cell? _ = _; rw [cell_of_row W2 _ _ _ 28 (0, 0) k2]; rfl, by show W2.cell? _ = _; rw [cell_of_row W2 _ _ _ 28 (0, 0) k2]; rfl⟩
        go_upto_region 8 with fail
        rw [← hW1, ← hgw]
        clear hW1 hgw z1 z2 z3 z4 b1' hM k1 m2
        go_upto_region 10 with fail
        rw [← hW2]
        clear hW2 y1 y2 y3 y4 y5 y6 y7 y8
        go_region_held3 (fun V => (V.cell? ⟨g, o + i * 2, none⟩ = some (.int .i64 xo) ∧ V.cell? ⟨g, o + i * 2 + 1, none⟩ = some (.int .i64 xa)) ∧ V.cell? ⟨gw, 0, none⟩ = some (.int .i64 xo) ∧ V.cell? ⟨gw, 1, none⟩ = some (.int .i64 xa)) (exact S0.out) (fail)
        have HW2 := hide (below_on B2.out (below_drew W2))
        clear S0
        go_wp2_with fail
        go_roundw
        case rel => exact ⟨i + 1, by omega, by go_num, HW2⟩
        case measure => simp [intOf]; omega
      · have hinn : ¬ (i : Int) < (n : Int) := by omega
        rw [i77_hi l 8 i hil (by have := HN.out; omega)] at z1 z2
        dsimp only at z1 z2
        obtain ⟨W1, hW1⟩ : ∃ X, X = wr.alloc (.cells #[.int .i64 77, .int .i64 0] 28) := ⟨_, rfl⟩
        have b1' : Below wr.heap.size wr W1 := hW1 ▸ below_alloc wr _
        have k1 : W1.heap[wr.heap.size]? = some (.cells #[.int .i64 77, .int .i64 0] 28 (0, 0)) := by rw [hW1]; exact heap_alloc_new wr _
        obtain ⟨gw, hgw⟩ : ∃ x, x = wr.heap.size := ⟨_, rfl⟩
        rw [← hgw] at k1
        have hM := Mv.of_below b1' (fun _ => False)
        have y1 := hM.cell z1 id
        have y2 := hM.cell z2 id
        have B2 := hide (below_on HW.out b1')
        have S0 : Hid ((W1.drew.cell? ⟨g, o + i * 2, none⟩ = some (.int .i64 77) ∧ W1.drew.cell? ⟨g, o + i * 2 + 1, none⟩ = some (.int .i64 0)) ∧ W1.drew.cell? ⟨gw, 0, none⟩ = some (.int .i64 77) ∧ W1.drew.cell? ⟨gw, 1, none⟩ = some (.int .i64 0)) := ⟨⟨y1, y2⟩, by show W1.cell? _ = _; rw [cell_of_row W1 _ _ _ 28 (0, 0) k1]; rfl, by show W1.cell? _ = _; rw [cell_of_row W1 _ _ _ 28 (0, 0) k1]; rfl⟩
        go_upto_region 8 with fail
        rw [← hW1, ← hgw]
        clear hW1 hgw z1 z2 b1' hM k1 y1 y2
        go_upto_region 10 with fail
        go_region_held3 (fun V => (V.cell? ⟨g, o + i * 2, none⟩ = some (.int .i64 77) ∧ V.cell? ⟨g, o + i * 2 + 1, none⟩ = some (.int .i64 0)) ∧ V.cell? ⟨gw, 0, none⟩ = some (.int .i64 77) ∧ V.cell? ⟨gw, 1, none⟩ = some (.int .i64 0)) (exact S0.out) (fail)
        have HW2 := hide (below_on B2.out (below_drew W1))
        clear S0
        go_wp2_with fail
        go_roundw
        case rel => exact ⟨i + 1, by omega, by go_num, HW2⟩
        case measure => simp [intOf]; omega
    · have hii : ¬ (i : Int) < (n : Int) + 8 := by omega
      go_wp2_with fail
      go_ret
      exact ⟨rfl, HW.out⟩
end Go.Proofs.YtfkhhplcogedmaaGreatDoor

/-
  Verify: the law's sameKinds, of kinds that were lent and stayed.
-/
namespace Go.Proofs.YtfkhhplcogedmaaGreatDoor
open Go.RowKit
set_option maxRecDepth 100000
theorem text_nn (x : ByteArray) : (x.toList != x.toList) = false := by simp
set_option maxHeartbeats 8000000 in
theorem lsamekinds_any {B : Nat} {w : World} {va vb : Value} {ks : List Kind} (ha : Kn.Lk B w va ks) (hb : Kr w vb ks) : Calls Tryz.prog 17 #[va, vb] w fun e w' => e = .returned (.bool true) ∧ Below w.heap.size w w' := by
  have HB := hide hb
  obtain ⟨g, c, L, rfl, hl, ho, h3, -⟩ := ha
  obtain ⟨hcap1, hcap2⟩ := own_cap ho
  have RB : Hid (∀ V, Below w.heap.size w V → V.cell? ⟨g, ks.length * 2, none⟩ = some (.string ⟨#[98, 101, 104, 105, 110, 100]⟩) ∧ V.cell? ⟨g, ks.length * 2 + 1, none⟩ = some (.slice none 0 0)) := fun V hV => by
    have hr := own_later ho hV
    have e1 := kz_at (L ++ [(Kn.bh, none, 0, 0)]) ks.length (by simp; omega)
    rw [List.getElem_append_right (by omega)] at e1
    refine ⟨(hr.cellAt _ (by omega)).trans ?_, (hr.cellAt _ (by omega)).trans ?_⟩
    · rw [e1.1]
      simp [hl, Kn.bh]
    · rw [e1.2]
      simp [hl, kcV]
  have RA : Hid (∀ V, Below w.heap.size w V → ∀ i (h : i < ks.length), V.cell? ⟨g, i * 2, none⟩ = some (.string ks[i].1) ∧ ∃ gf cf, V.cell? ⟨g, i * 2 + 1, none⟩ = some (.slice (some ⟨gf, 0, none⟩) ks[i].2.length cf) ∧ (ks[i].2.length + 2 ≤ cf ∧ cf ≤ 9223372036854775807) ∧ ∀ j (hj : j < (ks[i].2 ++ [Kn.bh, Kn.bh]).length), V.cell? ⟨gf, j, none⟩ = some (.string (ks[i].2 ++ [Kn.bh, Kn.bh])[j])) := fun V hV i hi => by
    have hr := own_later ho hV
    have e1 := kz_at (L ++ [(Kn.bh, none, 0, 0)]) i (by simp; omega)
    rw [List.getElem_append_left (by omega)] at e1
    obtain ⟨n1, gf, cf, n2, hof⟩ := (h3 i (by omega) hi).later hV
    obtain ⟨q1, q2⟩ := own_cap hof
    refine ⟨?_, gf, cf, ?_, ⟨q1, q2⟩, fun j hj => ?_⟩
    · refine (hr.cellAt _ (by omega)).trans ?_
      rw [e1.1, n1]
    · refine (hr.cellAt _ (by omega)).trans ?_
      rw [e1.2]
      unfold kcV
      rw [n2]
    · refine (hof.cellAt _ (by simpa using hj)).trans ?_
      rw [sz_at _ j hj]
  obtain ⟨ab, cb, rfl, b1, b2, -⟩ := hb
  have b3 : cb ≤ 9223372036854775807 := by unfold maxLen at b2; omega
  obtain ⟨n, hn⟩ : ∃ n, n = ks.length := ⟨_, rfl⟩
  have HN := hide hn
  rw [← hn] at hcap1 b1 RB ⊢
  obtain ⟨z1, z2⟩ := RB.out w (Below.refl _ _)
  have tw : IntKind.i64.wrap ((n : Int) + 1) = (n : Int) + 1 := by rw [IntKind.wrap_i64]; omega
  have t0 : (n : Int) + 1 ≤ (c : Int) := by omega
  have t3 : (n : Int) < (n : Int) + 1 := by omega
  have tb := text_nn ⟨#[98, 101, 104, 105, 110, 100]⟩
  clear hl ho h3 hn b2
  go_enter Tryz.func17, Tryz.ntmps17
  go_upto_region 4 with fail
  go_wp2_with fail
  clear z1 z2 tw t0 t3 tb
  go_loopw [6] (fun v6 wr => ∃ i : Nat, i ≤ n ∧ v6 = .int .i64 (i : Int) ∧ Hid (Below w.heap.size w wr)) (fun v6 _ => n - (intOf v6).toNat)
  case atStart => exact ⟨0, Nat.zero_le _, rfl, Below.refl _ _⟩
  case round =>
    obtain ⟨i, hil, rfl, HW⟩ := hrel
    by_cases hlt : i < n
    · have t1 : (i : Int) < (n : Int) := by omega
      have hi : i < ks.length := by have := HN.out; omega
      obtain ⟨d1, gf, cf, d2, ⟨d3, d4⟩, hfs⟩ := RA.out wr HW.out i hi
      obtain ⟨_, _, e, -, -, h4⟩ := HB.out.later HW.out
      simp only [Value.slice.injEq] at e
      obtain ⟨rfl, -, rfl⟩ := e
      obtain ⟨g', o', vf', rfl, c1, c2, s1⟩ := h4 i hi
      clear h4
      generalize ks[i] = kd at *
      obtain ⟨nm, fs⟩ := kd
      dsimp only at c1 c2 d1 d2 d3 s1 hfs
      have S1 := hide s1
      have HF := hide hfs
      obtain ⟨af', cf', rfl, f1', f2', -⟩ := s1
      obtain ⟨m, hm⟩ : ∃ m, m = fs.length := ⟨_, rfl⟩
      have HM := hide hm
      rw [← hm] at c2 d2 d3 f1'
      have tn := text_nn nm
      have tm : ((m : Int) != (m : Int)) = false := by simp
      have tw : IntKind.i64.wrap ((m : Int) + 2) = (m : Int) + 2 := by rw [IntKind.wrap_i64]; omega
      have t0 : (m : Int) + 2 ≤ (cf : Int) := by omega
      have tc : ¬ (cf : Int) < (m : Int) + 2 := by omega
      have C2 : Hid (wr.cell? ⟨g', o' + i * 2 + 1, none⟩ = some (.slice af' m cf')) := c2
      clear hm hfs
      go_upto_region 8 with fail
      go_quiet (fail)
      go_wp2_with fail
      clear c1 c2 d1 d2 tn tm tw t0 tc
      go_loopw [9] (fun v9 W => ∃ j : Nat, j ≤ m + 2 ∧ v9 = .int .i64 (j : Int) ∧ Hid (Below w.heap.size w W) ∧ Hid (Below wr.heap.size wr W)) (fun v9 _ => m + 2 - (intOf v9).toNat)
      case atStart => exact ⟨0, Nat.zero_le _, rfl, bel_dn HW.out _, bel_dn (Below.refl _ _) _⟩
      case round =>
        obtain ⟨j, hjl, rfl, HW2, HW3⟩ := hrel
        have c2 := (HW3.out.cell (p := ⟨g', o' + i * 2 + 1, none⟩) (World.block_lt_of_cell? _ _ C2.out)).trans C2.out
        by_cases hjt : j < m + 2
        · have t2 : (j : Int) < (m : Int) + 2 := by omega
          have hj : j < (fs ++ [Kn.bh, Kn.bh]).length := by have := HM.out; rw [List.length_append]; show _ < _ + 2; omega
          have c3 := HF.out j hj
          replace c3 := (HW3.out.cell (p := ⟨gf, j, none⟩) (World.block_lt_of_cell? _ _ c3)).trans c3
          by_cases hjm : j < m
          · have hjf : j < fs.length := by have := HM.out; omega
            have hii : (j : Int) < (m : Int) := by omega
            have hin3 : ¬ (m : Int) ≤ (j : Int) := by omega
            rw [List.getElem_append_left hjf] at c3
            obtain ⟨_, _, e, -, -, h4⟩ := S1.out
            simp only [Value.slice.injEq] at e
            obtain ⟨rfl, -, rfl⟩ := e
            obtain ⟨gf', of', rfl, d3⟩ := h4 j hjf
            replace d3 := (HW3.out.cell (p := ⟨gf', of' + j, none⟩) (World.block_lt_of_cell? _ _ d3)).trans d3
            clear h4
            generalize fs[j] = x at *
            have tn := text_nn x
            go_upto_region 14 with fail
            go_quiet (fail)
            go_wp2_with fail
            go_roundw
            case rel => exact ⟨j + 1, by omega, by go_num, bel_dn HW2.out _, bel_dn HW3.out _⟩
            case measure => simp [intOf]; omega
          · have hii : ¬ (j : Int) < (m : Int) := by omega
            have hin3 : (m : Int) ≤ (j : Int) := by omega
            have e77 : (fs ++ [Kn.bh, Kn.bh])[j] = Kn.bh := by
              have := HM.out
              rw [List.getElem_append_right (by omega)]
              rcases (show j - fs.length = 0 ∨ j - fs.length = 1 by omega) with e | e <;> simp [e]
            rw [e77] at c3
            clear e77
            have tn := text_nn Kn.bh
            unfold Kn.bh at c3 tn
            go_upto_region 14 with fail
            go_quiet (fail)
            go_wp2_with fail
            go_roundw
            case rel => exact ⟨j + 1, by omega, by go_num, bel_dn HW2.out _, bel_dn HW3.out _⟩
            case measure => simp [intOf]; omega
        · have t2 : ¬ (j : Int) < (m : Int) + 2 := by omega
          go_wp2_with fail
          go_roundw
          case rel => exact ⟨i + 1, by omega, by go_num, HW2.out⟩
          case measure => simp [intOf]; omega
    · have t1 : ¬ (i : Int) < (n : Int) := by omega
      go_wp2_with fail
      go_ret
      exact ⟨rfl, HW.out⟩
end Go.Proofs.YtfkhhplcogedmaaGreatDoor

/-
  Verify: another kind written into kinds that were lent.
-/
namespace Go.Proofs.YtfkhhplcogedmaaGreatDoor
open Go.RowKit
set_option maxRecDepth 100000
def putK (W : World) (g i : Nat) (nm : ByteArray) (u : Value) : World := (W.setCell ⟨g, i * 2, none⟩ (.string nm)).setCell ⟨g, i * 2 + 1, none⟩ u
theorem mv_putK (W : World) (g i : Nat) (nm : ByteArray) (u : Value) : Mv W (putK W g i nm u) (fun j => j = g) := (mv_set W g (i * 2) _).trans (mv_set _ g (i * 2 + 1) _) (fun _ _ e => e)
theorem off_ne {g o o' : Nat} (h : o ≠ o') : (⟨g, o, none⟩ : Addr) ≠ ⟨g, o', none⟩ := fun e => h (congrArg Addr.off e)
/-- What is read of the list of kinds itself. -/
theorem lk_cells {B : Nat} {W : World} {g c nk : Nat} {ks : List Kind} (h : Kn.Lk B W (.slice (some ⟨g, 0, none⟩) nk c) ks) (_hn : nk = ks.length) {j : Nat} (hj : j < ks.length) : W.cell? ⟨g, j * 2, none⟩ = some (.string ks[j].1) ∧ (∃ u, W.cell? ⟨g, j * 2 + 1, none⟩ = some u ∧ Sr W u ks[j].2) ∧ ∃ cs, W.heap[g]? = some (.cells cs 63 (0, 0)) := by
  obtain ⟨g', c', L, e, hl, ho, h3, -⟩ := h
  injection e with e1 e2 e3
  injection e1 with e1
  injection e1 with e1
  subst e1 e3
  have e1 := kz_at (L ++ [(Kn.bh, none, 0, 0)]) j (by simp; omega)
  rw [List.getElem_append_left (by omega)] at e1
  have hf := h3 j (by omega) hj
  refine ⟨?_, ⟨_, (ho.cellAt _ (by omega)).trans e1.2, hf.sr⟩, own_blk2 ho rfl⟩
  refine (ho.cellAt _ (by omega)).trans ?_
  rw [e1.1, hf.1]
theorem lk_put {B : Nat} {W : World} {g c nk i gn : Nat} {ks : List Kind} {nm a b d : ByteArray} (h : Kn.Lk B W (.slice (some ⟨g, 0, none⟩) nk c) ks) (hn : nk = ks.length) (_hi : i < ks.length) (hc1 : nk ≤ c) (hc2 : c ≤ 9223372036854775807) (hg : W.heap[gn]? = some (.cells #[.string a, .string b, .string d] 9 (0, 0))) : Kr (putK W g i nm (.slice (some ⟨gn, 0, none⟩) 3 3)) (.slice (some ⟨g, 0, none⟩) nk c) (ks.set i (nm, [a, b, d])) := by
  have H := h
  obtain ⟨g', c', L, e, hl, ho, h3, -⟩ := h
  injection e with e1 e2 e3
  injection e1 with e1
  injection e1 with e1
  subst e1 e3
  obtain ⟨ds, hd⟩ := own_blk2 ho (g := g) rfl
  have hne : ¬ gn = g := fun e => by
    subst e
    rw [hd] at hg
    injection hg with hg
    injection hg with q1 q2
    exact absurd q2 (by decide)
  have hm := mv_putK W g i nm (.slice (some ⟨gn, 0, none⟩) 3 3)
  refine ⟨_, _, by rw [List.length_set, hn], by rw [List.length_set]; omega, by unfold maxLen; omega, fun j hj => ?_⟩
  rw [List.length_set] at hj
  obtain ⟨z1, ⟨u, z2, -⟩, -⟩ := lk_cells H hn hj
  have hf := h3 j (by omega) hj
  have hr : (some g : Option Nat) ≠ some (Kn.blk L[j]) := fun e => hf.kinds ho e
  have hf' : Kn.Lf B (putK W g i nm (.slice (some ⟨gn, 0, none⟩) 3 3)) ks[j] L[j] := (hf.grown (grown_set W g _ _) hr).grown (grown_set _ g _ _) hr
  by_cases hij : i = j
  · subst hij
    rw [List.getElem_set_self]
    refine ⟨g, 0, .slice (some ⟨gn, 0, none⟩) 3 3, rfl, ?_, ?_, ⟨some ⟨gn, 0, none⟩, 3, rfl, Nat.le_refl 3, by unfold maxLen; omega, fun j hj => ?_⟩⟩
    · rw [Nat.zero_add]
      exact (World.cell?_setCell_other _ ⟨g, i * 2 + 1, none⟩ ⟨g, i * 2, none⟩ _ (off_ne (by omega))).trans (World.cell?_setCell_same _ _ _ z1)
    · rw [Nat.zero_add]
      exact World.cell?_setCell_same _ _ _ ((World.cell?_setCell_other _ ⟨g, i * 2, none⟩ ⟨g, i * 2 + 1, none⟩ _ (off_ne (by omega))).trans z2)
    · refine ⟨gn, 0, rfl, ?_⟩
      rw [cell_of_row _ _ _ _ 9 (0, 0) (hm.at hg hne), Nat.zero_add]
      match j, hj with
      | 0, _ => rfl
      | 1, _ => rfl
      | 2, _ => rfl
  · rw [List.getElem_set_ne hij]
    refine ⟨g, 0, u, rfl, ?_, ?_, ?_⟩
    · rw [Nat.zero_add]
      exact ((World.cell?_setCell_other _ ⟨g, i * 2 + 1, none⟩ ⟨g, j * 2, none⟩ _ (off_ne (by omega))).trans (World.cell?_setCell_other _ ⟨g, i * 2, none⟩ ⟨g, j * 2, none⟩ _ (off_ne (by omega)))).trans z1
    · rw [Nat.zero_add]
      exact ((World.cell?_setCell_other _ ⟨g, i * 2 + 1, none⟩ ⟨g, j * 2 + 1, none⟩ _ (off_ne (by omega))).trans (World.cell?_setCell_other _ ⟨g, i * 2, none⟩ ⟨g, j * 2 + 1, none⟩ _ (off_ne (by omega)))).trans z2
    · have e1 := kz_at (L ++ [(Kn.bh, none, 0, 0)]) j (by simp; omega)
      rw [List.getElem_append_left (by omega)] at e1
      have e2 := (ho.cellAt (j * 2 + 1) (by omega)).trans e1.2
      rw [z2] at e2
      obtain rfl := Option.some.inj e2
      exact hf'.sr
theorem lk_lt {B : Nat} {W : World} {g c nk : Nat} {ks : List Kind} (h : Kn.Lk B W (.slice (some ⟨g, 0, none⟩) nk c) ks) : B ≤ g := by
  obtain ⟨g', c', L, e, hl, ho, h3, -⟩ := h
  injection e with e1 e2 e3
  injection e1 with e1
  injection e1 with e1
  subst e1
  exact (ho.lt g rfl).1
theorem sz_set {ks : List Kind} (h : Sz ks) {i : Nat} {k : Kind} (h1 : k.2.length * 16 ≤ 140737488351232) (h2 : Small k.1) (h3 : ∀ x ∈ k.2, Small x) : Sz (ks.set i k) := by
  refine ⟨by rw [List.length_set]; exact h.1, fun x hx => ?_⟩
  rcases List.mem_or_eq_of_mem_set hx with hx | rfl
  · exact h.2 x hx
  · exact ⟨h1, h2, h3⟩
theorem run_append_kinds {w : World} (ty : TypeId) {v : Value} {ks : List Kind} (h : Kr w v ks) (hb : ks.length * 40 ≤ 140737488351232) : ∃ v' w', (Builtin.append_ #[26, 26] ty #[.slice none 0 0, v]).run Tryz.prog w = .ok v' w' ∧ Kr w' v' ks ∧ Below w.heap.size w w' := by
  obtain ⟨i0, hi, hz0, hz1, hz2⟩ := info_parts infoK
  obtain ⟨L, ⟨ao, c, rfl, q1, q2, q3⟩, hL, q4⟩ := h.kl
  cases ao with
  | none =>
    obtain rfl : L = [] := by
      cases L with
      | nil => rfl
      | cons x t =>
        obtain ⟨g, o, e, -⟩ := q3 0 (by simp)
        cases e
    obtain rfl : ks = [] := List.eq_nil_of_length_eq_zero (by rw [← hL]; rfl)
    exact ⟨_, _, Kn.run_append_none w.heap.size _ _ _ i0 2 Tryz.underlying26 hi _ 0 [] (World.ownsRow_nil _ _ _ _) c, ⟨none, 0, rfl, Nat.le_refl _, by unfold maxLen; omega, fun i hi => absurd hi (by simp)⟩, Below.refl _ _⟩
  | some ad =>
    obtain ⟨v', w', hr, a2, a3, -, -⟩ := run_append_own_at (P := Tryz.prog) w w.heap.size 26 ty 63 i0 (.agg #[.string ⟨#[]⟩, .slice none 0 0]) 2 40 Tryz.underlying26 hi hz0 hz1 hz2 rfl (by decide) (.slice none 0 0) 0 [] (World.ownsRow_nil _ _ _ _) ad L.length c (kz L) (by rw [kz_len]) (fun j u hj => by
      have hj2 : j < L.length * 2 := by
        have := (List.getElem?_eq_some_iff.1 hj).1
        rwa [kz_len] at this
      obtain ⟨g', o', e3, z4, z5⟩ := q3 (j / 2) (by omega)
      obtain rfl := Option.some.inj e3
      obtain ⟨y1, y2⟩ := kz_at L (j / 2) (by omega)
      rw [show (⟨g', o', none⟩ : Addr).add j = ⟨g', o' + j, none⟩ by simp [Addr.add]]
      rcases Nat.mod_two_eq_zero_or_one j with hm | hm
      · rw [show j / 2 * 2 = j by omega] at y1 z4
        rw [y1] at hj
        rw [← Option.some.inj hj]
        exact z4
      · rw [show j / 2 * 2 + 1 = j by omega] at y2
        rw [show o' + j / 2 * 2 + 1 = o' + j by omega] at z5
        rw [y2] at hj
        rw [← Option.some.inj hj]
        exact z5) (kz_one L) (by unfold maxLen; omega) (by omega) (Nat.le_refl _)
    have hb' : Below w.heap.size w w' := (Below.refl _ w).grown a3 (Nat.le_refl _) (fun k e => by cases e)
    rw [Nat.zero_add, List.nil_append] at a2
    obtain ⟨ao', c', rfl⟩ := own_len a2
    obtain ⟨p1, p2⟩ := own_cap a2
    refine ⟨_, _, hr, ⟨ao', c', by rw [hL], by omega, by unfold maxLen; omega, fun i hi' => ?_⟩, hb'⟩
    obtain ⟨g, c2, e, -, -⟩ := own_form a2 (by omega)
    injection e with e1
    subst e1
    obtain ⟨z1, z2⟩ := kz_at L i (by omega)
    obtain ⟨m1, m2⟩ := q4 i (by omega) hi'
    refine ⟨g, 0, kcV L[i], rfl, ?_, ?_, m2.later hb'⟩
    · rw [Nat.zero_add, a2.cellAt _ (by omega), z1, m1]
    · rw [Nat.zero_add, a2.cellAt _ (by omega), z2]
/-- 'append([]Kind(nil), l...)'. -/
theorem wpList_append_kinds {w : World} {ops : Array Oper} {rest : List Oper} {o : Oper} {a : Act} {Q : Exit → Act → World → Prop} (hgd : o.guard = none) (s x : Operand)
    (ho : o.op = .call { callee := .builtin .append, args := #[s, x], argTypes := #[26, 26] }) (hs : a.eval s = .slice none 0 0) (vx : Value) (ks : List Kind) (hx : a.eval x = vx) (hk : Kr w vx ks) (hb : ks.length * 40 ≤ 140737488351232)
    (h : ∀ v' w', Kr w' v' ks → Below w.heap.size w w' → wpList Tryz.prog ops Q rest (a.put o.dst v') w') :
    wpList Tryz.prog ops Q (o :: rest) a w := by
  refine wpList_plain hgd fun K hK => ?_
  obtain ⟨v', w', hr, h2, h3⟩ := run_append_kinds o.type hk hb
  unfold Oper.wp execOp
  simp only [ho, resolve, invoke, builtin, Sem.run_bind, Sem.run_pure, Result.andThen_ok, List.map_toArray, List.map_cons, List.map_nil, hs, hx, hr]
  exact hK _ _ (h v' w' h2 h3)
end Go.Proofs.YtfkhhplcogedmaaGreatDoor
