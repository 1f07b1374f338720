/-
  Buffer: the law's walk.
-/
import Derived.Test.YtfbhoemfabgjpaaGreatMgBE
import Derived.Deep.CutBlock
import Derived.Deep.DeepCutAuto
namespace Go.Proofs.YtfbhoemfabgjpaaGreat
open Go.RowKit
set_option maxRecDepth 100000
set_option maxHeartbeats 16000000 in
theorem twice_any (w : World) (af at' : Option Addr) (nf cf nt ct g o g' o' : Nat) (lf lt : List Sm) (hf : Sw w af g o lf) (hnf : lf.length = nf) (ht : Sw w at' g' o' lt) (hnt : lt.length = nt) : Calls Tryz.prog 3 #[.slice af nf cf, .slice at' nt ct] w fun e w' => e = .returned (.bool true) ∧ Below w.heap.size w w' := by
  have J1 := hide (shown_any w)
  have HF := hide hf
  have HNF := hide hnf
  have HT := hide ht
  have HNT := hide hnt
  clear hf hnf ht hnt
  go_enter Tryz.func3, Tryz.ntmps3
  go_wp2_with fail
  refine J1.out.mono ?_
  rintro e w1 ⟨rfl, b1⟩
  have J2 := hide (bf_new w1)
  have B1 := hide b1
  clear b1 J1
  go_wp2_with fail
  refine J2.out.mono ?_
  rintro e w2 ⟨ga, gx, rfl, hA, hl, b2⟩
  have HA := hide hA
  have HLA := hide hl
  have B2 := hide b2
  have J3 := hide (bf_new w2)
  clear hA hl b2 J2
  go_wp2_with fail
  refine J3.out.mono ?_
  rintro e w3 ⟨gb, gy, rfl, hB, hl, b3⟩
  have HB := hide hB
  have HLB := hide hl
  have B3 := hide b3
  have J4 := hide (bks_any w3)
  clear hB hl b3 J3
  go_wp2_with fail
  refine J4.out.mono ?_
  rintro e w4 ⟨vk, rfl, hk, b4⟩
  have B4 := hide b4
  have J5 := hide (wn_new (hk w4 (Below.refl _ _)) bks_may)
  clear hk b4 J4
  go_wp2_with fail
  refine J5.out.mono ?_
  rintro e w5 ⟨gw, rfl, ⟨own, ho, hx⟩, b5⟩
  have HL5 : Hid (Lw w w5 (fun k => k = ga ∨ k = gx) (fun k => k = gb ∨ k = gy) own ga gx (fun _ => []) 0 gb gy (fun _ => []) 0 gw 0 bksK ([], [], fun _ => none)) := by
    have s1 := B1.out.size
    have s2 := B2.out.size
    have s3 := B3.out.size
    have s4 := B4.out.size
    have s5 := b5.size
    have h1 := HLA.out
    have h2 := HLB.out
    refine ⟨HA.out.later (below_on (below_on B3.out B4.out) b5), HB.out.later (below_on B4.out b5), hx, fun k hk => ?_, fun k hk => ?_, fun k hk => ho k (by omega), below_on (below_on (below_on (below_on B1.out B2.out) B3.out) B4.out) b5⟩
    · rcases hk with rfl | rfl <;> exact ⟨by omega, ho _ (by omega), by omega, by omega⟩
    · rcases hk with rfl | rfl <;> exact ⟨by omega, ho _ (by omega), by omega⟩
  clear hx b5 ho J5 HA HLA HB HLB B1 B2 B3 B4
  go_upto_block 0 with fail
  go_cut [] (fun W => Hid (∃ (Qa : Nat → Prop) (own : Nat → Nat) (La : Int × Int → List Cm) (na : Nat), na ≤ 100 ∧ Lw w W Qa (fun k => k = gb ∨ k = gy) own ga gx La na gb gy (fun _ => []) 0 gw 0 bksK ([], [], fun _ => none)))
  case first =>
    go_wp2_with fail
    go_loopw [10] (fun v10 W => ∃ i : Nat, i ≤ 100 ∧ i ≤ nf ∧ v10 = .int .i64 (i : Int) ∧ Hid (∃ (Qa : Nat → Prop) (own : Nat → Nat) (La : Int × Int → List Cm), Lw w W Qa (fun k => k = gb ∨ k = gy) own ga gx La i gb gy (fun _ => []) 0 gw 0 bksK ([], [], fun _ => none))) (fun v10 _ => 100 - (intOf v10).toNat)
    case atStart => exact ⟨0, Nat.zero_le _, Nat.zero_le _, rfl, _, _, _, HL5.out⟩
    case round =>
      obtain ⟨i, hi, hin, rfl, HI⟩ := hrel
      by_cases hgo : i < nf ∧ i < 100
      · obtain ⟨Qa, own1, La, hl⟩ := HI.out
        obtain ⟨h1, h2⟩ := hgo
        have t1 : (i : Int) < (nf : Int) := by omega
        have t2 : (i : Int) < 100 := by omega
        have tw : IntKind.i64.wrap ((i : Int) + 1) = (i : Int) + 1 := by
          rw [IntKind.wrap_i64]
          omega
        have hil : i < lf.length := by have := HNF.out; omega
        obtain ⟨rfl, hg⟩ := HF.out.1 (by omega)
        obtain ⟨-, hib, hok⟩ := HF.out.2 i hil
        have hld := hl.later (below_drew wr)
        have s0 := HF.out.at hld.bl hil
        obtain ⟨m, hm⟩ : ∃ m, m = lf[i] := ⟨_, rfl⟩
        have HM := hide hm
        rw [← hm] at hib hok s0
        obtain ⟨qa, qn, qc, pa, pn, pc, e5, e6⟩ := hok.at2
        have E5 := hide e5
        have E6 := hide e6
        have JP : Hid (Calls Tryz.prog 8 #[.pointer (some ⟨ga, 0, none⟩), .int .i64 m.s, .agg #[.int .i64 m.x, .int .i64 m.y], .agg #[.int .i64 m.c.op, .int .i64 m.c.ix, .int .i64 m.c.gn, .int .i64 m.c.kd, .slice qa qn qc, .slice pa pn pc]] wr.drew fun e w' => e = .returned (.int .i64 0) ∧ ∃ (Qa : Nat → Prop) (own : Nat → Nat) (La : Int × Int → List Cm), Lw w w' Qa (fun k => k = gb ∨ k = gy) own ga gx La (i + 1) gb gy (fun _ => []) 0 gw 0 bksK ([], [], fun _ => none)) := by
          have hp := hld.a.put m.s m.x m.y hib (hok.frame (Mv.of_below hld.bl (fun _ => False)) (fun _ _ e => e)) (by omega)
          unfold cmV cmL at hp
          rw [e5, e6] at hp
          refine hide (hp.mono ?_)
          rintro e w' ⟨rfl, c', -, hbf, hmv⟩
          exact ⟨rfl, _, _, _, hld.putA hbf hmv⟩
        unfold SwAt at s0
        rw [e5, e6] at s0
        clear hl hld hib hok hg HI e5 e6 hm
        go_upto_region 10 with fail
        refine wp_region_noPanic ?_
        refine wp_region_held_drew (S := (fun V => V.cell? ⟨g, o + i * 13 + 3, none⟩ = some (.int .i64 m.s) ∧ (V.cell? ⟨g, o + i * 13 + 5, none⟩ = some (.int .i64 m.x) ∧ V.cell? ⟨g, o + i * 13 + 5 + 1, none⟩ = some (.int .i64 m.y)) ∧ V.cell? ⟨g, o + i * 13 + 7, none⟩ = some (.int .i64 m.c.op) ∧ V.cell? ⟨g, o + i * 13 + 7 + 1, none⟩ = some (.int .i64 m.c.ix) ∧ V.cell? ⟨g, o + i * 13 + 7 + 2, none⟩ = some (.int .i64 m.c.gn) ∧ V.cell? ⟨g, o + i * 13 + 7 + 3, none⟩ = some (.int .i64 m.c.kd) ∧ V.cell? ⟨g, o + i * 13 + 7 + 4, none⟩ = some (.slice qa qn qc) ∧ V.cell? ⟨g, o + i * 13 + 7 + 5, none⟩ = some (.slice pa pn pc))) (by kernel_rfl) (s0) (fun hHeld => ?_)
        refine' wpAnyH_take (i := 0) (oi := { dst := some 57, op := Go.Op.move (Go.Operand.tmp 6), type := 24, pos := "law.go:521", after := #[], guard := none }) (v := _) rfl (by kernel_rfl) (by kernel_rfl) (by kernel_rfl) (fun _ _ _ h => h) (Or.inl ⟨by rfl, ?hyr1_0⟩) (by assumption) ?rer1_0
        case hyr1_0 => (intro W hSw; (try dsimp only at hSw); go_simp; try with_reducible rfl)
        try simp only [Act.put, List.setIfInBounds_toArray, List.set_cons_zero, List.set_cons_succ]
        refine' wpAnyH_take (i := 1) (oi := { dst := some 58, op := Go.Op.move (Go.Operand.tmp 0), type := 22, pos := "law.go:521", after := #[], guard := none }) (v := _) rfl (by kernel_rfl) (by kernel_rfl) (by kernel_rfl) (fun _ _ _ h => h) (Or.inl ⟨by rfl, ?hyr1_1⟩) (by assumption) ?rer1_1
        case hyr1_1 => (intro W hSw; (try dsimp only at hSw); go_simp; try with_reducible rfl)
        try simp only [Act.put, List.setIfInBounds_toArray, List.set_cons_zero, List.set_cons_succ]
        refine' wpAnyH_take (i := 2) (oi := { dst := some 59, op := Go.Op.move (Go.Operand.tmp 10), type := 3, pos := "law.go:521", after := #[], guard := none }) (v := _) rfl (by kernel_rfl) (by kernel_rfl) (by kernel_rfl) (fun _ _ _ h => h) (Or.inl ⟨by rfl, ?hyr1_2⟩) (by assumption) ?rer1_2
        case hyr1_2 => (intro W hSw; (try dsimp only at hSw); go_simp; try with_reducible rfl)
        try simp only [Act.put, List.setIfInBounds_toArray, List.set_cons_zero, List.set_cons_succ]
        refine' wpAnyH_take (i := 3) (oi := { dst := some 60, op := Go.Op.indexAddr 22 (Go.Operand.tmp 58) (Go.Operand.tmp 59), type := 0, pos := "law.go:521", after := #[{ on := 1, ground := Go.Ground.data }, { on := 2, ground := Go.Ground.data }], guard := none }) (v := _) rfl (by kernel_rfl) (by kernel_rfl) (by kernel_rfl) (fun _ _ _ h => h) (Or.inl ⟨by rfl, ?hyr1_3⟩) (by assumption) ?rer1_3
        case hyr1_3 => (intro W hSw; (try dsimp only at hSw); go_simp; try with_reducible rfl)
        try simp only [Act.put, List.setIfInBounds_toArray, List.set_cons_zero, List.set_cons_succ]
        refine' wpAnyH_take (i := 4) (oi := { dst := some 61, op := Go.Op.fieldAddr 40 (Go.Operand.tmp 60) 3, type := 0, pos := "law.go:521", after := #[{ on := 3, ground := Go.Ground.data }], guard := none }) (v := _) rfl (by kernel_rfl) (by kernel_rfl) (by kernel_rfl) (fun _ _ _ h => h) (Or.inl ⟨by rfl, ?hyr1_4⟩) (by assumption) ?rer1_4
        case hyr1_4 => (intro W hSw; (try dsimp only at hSw); go_simp; try with_reducible rfl)
        try simp only [Act.put, List.setIfInBounds_toArray, List.set_cons_zero, List.set_cons_succ]
        refine' wpAnyH_take (i := 5) (oi := { dst := some 62, op := Go.Op.load 3 (Go.Operand.tmp 61), type := 3, pos := "law.go:521", after := #[{ on := 4, ground := Go.Ground.data }], guard := none }) (v := _) rfl (by kernel_rfl) (by kernel_rfl) (by kernel_rfl) (fun _ _ _ h => h) (Or.inl ⟨by rfl, ?hyr1_5⟩) (by assumption) ?rer1_5
        case hyr1_5 => (intro W hSw; (try dsimp only at hSw); go_simp; try with_reducible rfl)
        try simp only [Act.put, List.setIfInBounds_toArray, List.set_cons_zero, List.set_cons_succ]
        refine' wpAnyH_take (i := 6) (oi := { dst := some 63, op := Go.Op.move (Go.Operand.tmp 0), type := 22, pos := "law.go:521", after := #[], guard := none }) (v := _) rfl (by kernel_rfl) (by kernel_rfl) (by kernel_rfl) (fun _ _ _ h => h) (Or.inl ⟨by rfl, ?hyr1_6⟩) (by assumption) ?rer1_6
        case hyr1_6 => (intro W hSw; (try dsimp only at hSw); go_simp; try with_reducible rfl)
        try simp only [Act.put, List.setIfInBounds_toArray, List.set_cons_zero, List.set_cons_succ]
        refine' wpAnyH_take (i := 7) (oi := { dst := some 64, op := Go.Op.move (Go.Operand.tmp 10), type := 3, pos := "law.go:521", after := #[], guard := none }) (v := _) rfl (by kernel_rfl) (by kernel_rfl) (by kernel_rfl) (fun _ _ _ h => h) (Or.inl ⟨by rfl, ?hyr1_7⟩) (by assumption) ?rer1_7
        case hyr1_7 => (intro W hSw; (try dsimp only at hSw); go_simp; try with_reducible rfl)
        try simp only [Act.put, List.setIfInBounds_toArray, List.set_cons_zero, List.set_cons_succ]
        refine' wpAnyH_take (i := 8) (oi := { dst := some 65, op := Go.Op.indexAddr 22 (Go.Operand.tmp 63) (Go.Operand.tmp 64), type := 0, pos := "law.go:521", after := #[{ on := 6, ground := Go.Ground.data }, { on := 7, ground := Go.Ground.data }], guard := none }) (v := _) rfl (by kernel_rfl) (by kernel_rfl) (by kernel_rfl) (fun _ _ _ h => h) (Or.inl ⟨by rfl, ?hyr1_8⟩) (by assumption) ?rer1_8
        case hyr1_8 => (intro W hSw; (try dsimp only at hSw); go_simp; try with_reducible rfl)
        try simp only [Act.put, List.setIfInBounds_toArray, List.set_cons_zero, List.set_cons_succ]
        refine' wpAnyH_take (i := 9) (oi := { dst := some 66, op := Go.Op.fieldAddr 40 (Go.Operand.tmp 65) 5, type := 0, pos := "law.go:521", after := #[{ on := 8, ground := Go.Ground.data }], guard := none }) (v := _) rfl (by kernel_rfl) (by kernel_rfl) (by kernel_rfl) (fun _ _ _ h => h) (Or.inl ⟨by rfl, ?hyr1_9⟩) (by assumption) ?rer1_9
        case hyr1_9 => (intro W hSw; (try dsimp only at hSw); go_simp; try with_reducible rfl)
        try simp only [Act.put, List.setIfInBounds_toArray, List.set_cons_zero, List.set_cons_succ]
        refine' wpAnyH_take (i := 10) (oi := { dst := some 67, op := Go.Op.load 34 (Go.Operand.tmp 66), type := 34, pos := "law.go:521", after := #[{ on := 9, ground := Go.Ground.data }], guard := none }) (v := _) rfl (by kernel_rfl) (by kernel_rfl) (by kernel_rfl) (fun _ _ _ h => h) (Or.inl ⟨by rfl, ?hyr1_10⟩) (by assumption) ?rer1_10
        case hyr1_10 => (intro W hSw; (try dsimp only at hSw); go_simp; try with_reducible rfl)
        try simp only [Act.put, List.setIfInBounds_toArray, List.set_cons_zero, List.set_cons_succ]
        refine' wpAnyH_take (i := 11) (oi := { dst := some 68, op := Go.Op.move (Go.Operand.tmp 0), type := 22, pos := "law.go:521", after := #[], guard := none }) (v := _) rfl (by kernel_rfl) (by kernel_rfl) (by kernel_rfl) (fun _ _ _ h => h) (Or.inl ⟨by rfl, ?hyr1_11⟩) (by assumption) ?rer1_11
        case hyr1_11 => (intro W hSw; (try dsimp only at hSw); go_simp; try with_reducible rfl)
        try simp only [Act.put, List.setIfInBounds_toArray, List.set_cons_zero, List.set_cons_succ]
        refine' wpAnyH_take (i := 12) (oi := { dst := some 69, op := Go.Op.move (Go.Operand.tmp 10), type := 3, pos := "law.go:521", after := #[], guard := none }) (v := _) rfl (by kernel_rfl) (by kernel_rfl) (by kernel_rfl) (fun _ _ _ h => h) (Or.inl ⟨by rfl, ?hyr1_12⟩) (by assumption) ?rer1_12
        case hyr1_12 => (intro W hSw; (try dsimp only at hSw); go_simp; try with_reducible rfl)
        try simp only [Act.put, List.setIfInBounds_toArray, List.set_cons_zero, List.set_cons_succ]
        refine' wpAnyH_take (i := 13) (oi := { dst := some 70, op := Go.Op.indexAddr 22 (Go.Operand.tmp 68) (Go.Operand.tmp 69), type := 0, pos := "law.go:521", after := #[{ on := 11, ground := Go.Ground.data }, { on := 12, ground := Go.Ground.data }], guard := none }) (v := _) rfl (by kernel_rfl) (by kernel_rfl) (by kernel_rfl) (fun _ _ _ h => h) (Or.inl ⟨by rfl, ?hyr1_13⟩) (by assumption) ?rer1_13
        case hyr1_13 => (intro W hSw; (try dsimp only at hSw); go_simp; try with_reducible rfl)
        try simp only [Act.put, List.setIfInBounds_toArray, List.set_cons_zero, List.set_cons_succ]
        refine' wpAnyH_take (i := 14) (oi := { dst := some 71, op := Go.Op.fieldAddr 40 (Go.Operand.tmp 70) 6, type := 0, pos := "law.go:521", after := #[{ on := 13, ground := Go.Ground.data }], guard := none }) (v := _) rfl (by kernel_rfl) (by kernel_rfl) (by kernel_rfl) (fun _ _ _ h => h) (Or.inl ⟨by rfl, ?hyr1_14⟩) (by assumption) ?rer1_14
        case hyr1_14 => (intro W hSw; (try dsimp only at hSw); go_simp; try with_reducible rfl)
        try simp only [Act.put, List.setIfInBounds_toArray, List.set_cons_zero, List.set_cons_succ]
        refine' wpAnyH_take (i := 15) (oi := { dst := some 72, op := Go.Op.load 38 (Go.Operand.tmp 71), type := 38, pos := "law.go:521", after := #[{ on := 14, ground := Go.Ground.data }], guard := none }) (v := _) rfl (by kernel_rfl) (by kernel_rfl) (by kernel_rfl) (fun _ _ _ h => h) (Or.inl ⟨by rfl, ?hyr1_15⟩) (by assumption) ?rer1_15
        case hyr1_15 => (intro W hSw; (try dsimp only at hSw); go_simp; try with_reducible rfl)
        try simp only [Act.put, List.setIfInBounds_toArray, List.set_cons_zero, List.set_cons_succ]
        refine wpAnyH_ready (rs := [16]) (by kernel_rfl) (by simp) ?_
        refine AllReadyH.cons (o := { dst := some 73, op := Go.Op.call { callee := Go.Callee.value (Go.Operand.func 8), args := #[Go.Operand.tmp 57, Go.Operand.tmp 62, Go.Operand.tmp 67, Go.Operand.tmp 72], argTypes := #[24, 3, 34, 38] }, type := 27, pos := "law.go:521", after := #[{ on := 0, ground := Go.Ground.data }, { on := 5, ground := Go.Ground.data }, { on := 10, ground := Go.Ground.data }, { on := 15, ground := Go.Ground.data }], guard := none }) rfl (fun K hK => ?_) AllReadyH.nil
        clear hHeld
        go_simp
        refine JP.out.mono ?_
        rintro e w9 ⟨rfl, hx9⟩
        have HX9 := hide hx9
        have s1 : w9.cell? ⟨g, o + i * 13 + 3, none⟩ = some (.int .i64 m.s) ∧ (w9.cell? ⟨g, o + i * 13 + 5, none⟩ = some (.int .i64 m.x) ∧ w9.cell? ⟨g, o + i * 13 + 5 + 1, none⟩ = some (.int .i64 m.y)) ∧ w9.cell? ⟨g, o + i * 13 + 7, none⟩ = some (.int .i64 m.c.op) ∧ w9.cell? ⟨g, o + i * 13 + 7 + 1, none⟩ = some (.int .i64 m.c.ix) ∧ w9.cell? ⟨g, o + i * 13 + 7 + 2, none⟩ = some (.int .i64 m.c.gn) ∧ w9.cell? ⟨g, o + i * 13 + 7 + 3, none⟩ = some (.int .i64 m.c.kd) ∧ w9.cell? ⟨g, o + i * 13 + 7 + 4, none⟩ = some (.slice qa qn qc) ∧ w9.cell? ⟨g, o + i * 13 + 7 + 5, none⟩ = some (.slice pa pn pc) := by
          obtain ⟨Qa, own1, La, hl9⟩ := hx9
          have h := HF.out.at hl9.bl hil
          rw [← HM.out] at h
          unfold SwAt at h
          rw [E5.out, E6.out] at h
          exact h
        clear hx9
        refine hK.out _ _ (s1) (fun hHeld => ?_)
        clear hK K
        try simp only [Act.put, List.setIfInBounds_toArray, List.set_cons_zero, List.set_cons_succ]
        refine wpAnyH_done (by kernel_rfl) ?_ _
        refine NoPanic.normal ?_
        rename_i hK9
        refine hK9 _ _ ?_
        clear hK9 s0 s1 JP E5 E6 HM
        go_wp2_with fail
        go_roundw
        case rel => exact ⟨i + 1, by omega, by omega, by go_num, HX9.out⟩
        case measure => simp [intOf]; omega
      · by_cases h1 : i < nf
        · have t1 : (i : Int) < (nf : Int) := by omega
          have t2 : ¬ (i : Int) < 100 := by omega
          have ei : i = min nf 100 := by omega
          have hx : Hid (∃ (Qa : Nat → Prop) (own : Nat → Nat) (La : Int × Int → List Cm) (na : Nat), na ≤ 100 ∧ Lw w wr Qa (fun k => k = gb ∨ k = gy) own ga gx La na gb gy (fun _ => []) 0 gw 0 bksK ([], [], fun _ => none)) := let ⟨Qa, ow, La, h⟩ := HI.out; ⟨Qa, ow, La, i, hi, h⟩
          clear HI ei
          go_wp2_with fail
          go_meet
          exact hx
        · have t1 : ¬ (i : Int) < (nf : Int) := by omega
          have ei : i = min nf 100 := by omega
          have hx : Hid (∃ (Qa : Nat → Prop) (own : Nat → Nat) (La : Int × Int → List Cm) (na : Nat), na ≤ 100 ∧ Lw w wr Qa (fun k => k = gb ∨ k = gy) own ga gx La na gb gy (fun _ => []) 0 gw 0 bksK ([], [], fun _ => none)) := let ⟨Qa, ow, La, h⟩ := HI.out; ⟨Qa, ow, La, i, hi, h⟩
          clear HI ei
          go_wp2_with fail
          go_meet
          exact hx
  obtain ⟨Qa, own1, La, na, hna, hl1⟩ := hcut.out
  obtain ⟨w6, rfl⟩ : ∃ x, x = wc := ⟨_, rfl⟩
  have JA : Hid (Calls Tryz.prog 9 #[.pointer (some ⟨ga, 0, none⟩), .pointer (some ⟨gw, 0, none⟩)] w6 fun e w' => ∃ (v : Value) (rf : Nat), e = .returned (.tuple #[v, .int .i64 (rf : Int)]) ∧ ∃ (own' : Nat → Nat) (σ : St), Lw w w' Qa (fun k => k = gb ∨ k = gy) own' ga gx La na gb gy (LR []) 0 gw 8000 bksK σ) := by
    refine hide ((hl1.a.apply (by omega) hl1.wn (by omega) (fun k _ hk => (hl1.qa k hk).2.1)).mono ?_)
    rintro e w' ⟨v, rf, rfl, σ, l, ss, own', -, -, -, hw, hk⟩
    exact ⟨v, rf, rfl, own', σ, hl1.did hw hk⟩
  clear hcut hl1 HL5
  go_wp2_with fail
  refine JA.out.mono ?_
  rintro e w7 ⟨v7, rf7, rfl, own7, σ, hl7⟩
  have HL7 := hide hl7
  clear hl7 JA
  go_upto_block 2 with fail
  go_cut [] (fun W => Hid (∃ (Qb : Nat → Prop) (own : Nat → Nat) (row : List ((Int × Int) × Cm)), row.length = min nt 100 ∧ Lw w W Qa Qb own ga gx La na gb gy (LR row) (min nt 100) gw 8000 bksK σ))
  case first =>
    go_wp2_with fail
    go_loopw [11] (fun v11 W => ∃ i : Nat, i ≤ 100 ∧ i ≤ nt ∧ v11 = .int .i64 (i : Int) ∧ Hid (∃ (Qb : Nat → Prop) (own : Nat → Nat) (row : List ((Int × Int) × Cm)), row.length = i ∧ Lw w W Qa Qb own ga gx La na gb gy (LR row) i gw 8000 bksK σ)) (fun v11 _ => 100 - (intOf v11).toNat)
    case atStart => exact ⟨0, Nat.zero_le _, Nat.zero_le _, rfl, _, _, [], rfl, HL7.out⟩
    case round =>
      obtain ⟨i, hi, hin, rfl, HI⟩ := hrel
      by_cases hgo : i < nt ∧ i < 100
      · obtain ⟨Qb, own1, row, hrl, hl⟩ := HI.out
        obtain ⟨h1, h2⟩ := hgo
        have t1 : (i : Int) < (nt : Int) := by omega
        have t2 : (i : Int) < 100 := by omega
        have tw : IntKind.i64.wrap ((i : Int) + 1) = (i : Int) + 1 := by
          rw [IntKind.wrap_i64]
          omega
        have hil : i < lt.length := by have := HNT.out; omega
        obtain ⟨rfl, hg⟩ := HT.out.1 (by omega)
        obtain ⟨-, hib, hok⟩ := HT.out.2 i hil
        have hld := hl.later (below_drew wr)
        have s0 := HT.out.at hld.bl hil
        obtain ⟨m, hm⟩ : ∃ m, m = lt[i] := ⟨_, rfl⟩
        have HM := hide hm
        rw [← hm] at hib hok s0
        obtain ⟨qa, qn, qc, pa, pn, pc, e5, e6⟩ := hok.at2
        have E5 := hide e5
        have E6 := hide e6
        have JP : Hid (Calls Tryz.prog 8 #[.pointer (some ⟨gb, 0, none⟩), .int .i64 m.s, .agg #[.int .i64 m.x, .int .i64 m.y], .agg #[.int .i64 m.c.op, .int .i64 m.c.ix, .int .i64 m.c.gn, .int .i64 m.c.kd, .slice qa qn qc, .slice pa pn pc]] wr.drew fun e w' => e = .returned (.int .i64 0) ∧ ∃ (Qb : Nat → Prop) (own : Nat → Nat) (row : List ((Int × Int) × Cm)), row.length = (i + 1) ∧ Lw w w' Qa Qb own ga gx La na gb gy (LR row) (i + 1) gw 8000 bksK σ) := by
          have hp := hld.b.put m.s m.x m.y hib (hok.frame (Mv.of_below hld.bl (fun _ => False)) (fun _ _ e => e)) (by omega)
          unfold cmV cmL at hp
          rw [e5, e6] at hp
          refine hide (hp.mono ?_)
          rintro e w' ⟨rfl, c', -, hbf, hmv⟩
          rw [LR_push row (m.s, m.x) c'] at hbf
          exact ⟨rfl, _, _, row ++ [((m.s, m.x), c')], by rw [List.length_append, hrl]; rfl, hld.putB hbf hmv⟩
        unfold SwAt at s0
        rw [e5, e6] at s0
        clear hl hld hib hok hg HI e5 e6 hm
        go_upto_region 15 with fail
        refine wp_region_noPanic ?_
        refine wp_region_held_drew (S := (fun V => V.cell? ⟨g', o' + i * 13 + 3, none⟩ = some (.int .i64 m.s) ∧ (V.cell? ⟨g', o' + i * 13 + 5, none⟩ = some (.int .i64 m.x) ∧ V.cell? ⟨g', o' + i * 13 + 5 + 1, none⟩ = some (.int .i64 m.y)) ∧ V.cell? ⟨g', o' + i * 13 + 7, none⟩ = some (.int .i64 m.c.op) ∧ V.cell? ⟨g', o' + i * 13 + 7 + 1, none⟩ = some (.int .i64 m.c.ix) ∧ V.cell? ⟨g', o' + i * 13 + 7 + 2, none⟩ = some (.int .i64 m.c.gn) ∧ V.cell? ⟨g', o' + i * 13 + 7 + 3, none⟩ = some (.int .i64 m.c.kd) ∧ V.cell? ⟨g', o' + i * 13 + 7 + 4, none⟩ = some (.slice qa qn qc) ∧ V.cell? ⟨g', o' + i * 13 + 7 + 5, none⟩ = some (.slice pa pn pc))) (by kernel_rfl) (s0) (fun hHeld => ?_)
        refine' wpAnyH_take (i := 0) (oi := { dst := some 87, op := Go.Op.move (Go.Operand.tmp 7), type := 24, pos := "law.go:525", after := #[], guard := none }) (v := _) rfl (by kernel_rfl) (by kernel_rfl) (by kernel_rfl) (fun _ _ _ h => h) (Or.inl ⟨by rfl, ?hyr2_0⟩) (by assumption) ?rer2_0
        case hyr2_0 => (intro W hSw; (try dsimp only at hSw); go_simp; try with_reducible rfl)
        try simp only [Act.put, List.setIfInBounds_toArray, List.set_cons_zero, List.set_cons_succ]
        refine' wpAnyH_take (i := 1) (oi := { dst := some 88, op := Go.Op.move (Go.Operand.tmp 1), type := 22, pos := "law.go:525", after := #[], guard := none }) (v := _) rfl (by kernel_rfl) (by kernel_rfl) (by kernel_rfl) (fun _ _ _ h => h) (Or.inl ⟨by rfl, ?hyr2_1⟩) (by assumption) ?rer2_1
        case hyr2_1 => (intro W hSw; (try dsimp only at hSw); go_simp; try with_reducible rfl)
        try simp only [Act.put, List.setIfInBounds_toArray, List.set_cons_zero, List.set_cons_succ]
        refine' wpAnyH_take (i := 2) (oi := { dst := some 89, op := Go.Op.move (Go.Operand.tmp 11), type := 3, pos := "law.go:525", after := #[], guard := none }) (v := _) rfl (by kernel_rfl) (by kernel_rfl) (by kernel_rfl) (fun _ _ _ h => h) (Or.inl ⟨by rfl, ?hyr2_2⟩) (by assumption) ?rer2_2
        case hyr2_2 => (intro W hSw; (try dsimp only at hSw); go_simp; try with_reducible rfl)
        try simp only [Act.put, List.setIfInBounds_toArray, List.set_cons_zero, List.set_cons_succ]
        refine' wpAnyH_take (i := 3) (oi := { dst := some 90, op := Go.Op.indexAddr 22 (Go.Operand.tmp 88) (Go.Operand.tmp 89), type := 0, pos := "law.go:525", after := #[{ on := 1, ground := Go.Ground.data }, { on := 2, ground := Go.Ground.data }], guard := none }) (v := _) rfl (by kernel_rfl) (by kernel_rfl) (by kernel_rfl) (fun _ _ _ h => h) (Or.inl ⟨by rfl, ?hyr2_3⟩) (by assumption) ?rer2_3
        case hyr2_3 => (intro W hSw; (try dsimp only at hSw); go_simp; try with_reducible rfl)
        try simp only [Act.put, List.setIfInBounds_toArray, List.set_cons_zero, List.set_cons_succ]
        refine' wpAnyH_take (i := 4) (oi := { dst := some 91, op := Go.Op.fieldAddr 40 (Go.Operand.tmp 90) 3, type := 0, pos := "law.go:525", after := #[{ on := 3, ground := Go.Ground.data }], guard := none }) (v := _) rfl (by kernel_rfl) (by kernel_rfl) (by kernel_rfl) (fun _ _ _ h => h) (Or.inl ⟨by rfl, ?hyr2_4⟩) (by assumption) ?rer2_4
        case hyr2_4 => (intro W hSw; (try dsimp only at hSw); go_simp; try with_reducible rfl)
        try simp only [Act.put, List.setIfInBounds_toArray, List.set_cons_zero, List.set_cons_succ]
        refine' wpAnyH_take (i := 5) (oi := { dst := some 92, op := Go.Op.load 3 (Go.Operand.tmp 91), type := 3, pos := "law.go:525", after := #[{ on := 4, ground := Go.Ground.data }], guard := none }) (v := _) rfl (by kernel_rfl) (by kernel_rfl) (by kernel_rfl) (fun _ _ _ h => h) (Or.inl ⟨by rfl, ?hyr2_5⟩) (by assumption) ?rer2_5
        case hyr2_5 => (intro W hSw; (try dsimp only at hSw); go_simp; try with_reducible rfl)
        try simp only [Act.put, List.setIfInBounds_toArray, List.set_cons_zero, List.set_cons_succ]
        refine' wpAnyH_take (i := 6) (oi := { dst := some 93, op := Go.Op.move (Go.Operand.tmp 1), type := 22, pos := "law.go:525", after := #[], guard := none }) (v := _) rfl (by kernel_rfl) (by kernel_rfl) (by kernel_rfl) (fun _ _ _ h => h) (Or.inl ⟨by rfl, ?hyr2_6⟩) (by assumption) ?rer2_6
        case hyr2_6 => (intro W hSw; (try dsimp only at hSw); go_simp; try with_reducible rfl)
        try simp only [Act.put, List.setIfInBounds_toArray, List.set_cons_zero, List.set_cons_succ]
        refine' wpAnyH_take (i := 7) (oi := { dst := some 94, op := Go.Op.move (Go.Operand.tmp 11), type := 3, pos := "law.go:525", after := #[], guard := none }) (v := _) rfl (by kernel_rfl) (by kernel_rfl) (by kernel_rfl) (fun _ _ _ h => h) (Or.inl ⟨by rfl, ?hyr2_7⟩) (by assumption) ?rer2_7
        case hyr2_7 => (intro W hSw; (try dsimp only at hSw); go_simp; try with_reducible rfl)
        try simp only [Act.put, List.setIfInBounds_toArray, List.set_cons_zero, List.set_cons_succ]
        refine' wpAnyH_take (i := 8) (oi := { dst := some 95, op := Go.Op.indexAddr 22 (Go.Operand.tmp 93) (Go.Operand.tmp 94), type := 0, pos := "law.go:525", after := #[{ on := 6, ground := Go.Ground.data }, { on := 7, ground := Go.Ground.data }], guard := none }) (v := _) rfl (by kernel_rfl) (by kernel_rfl) (by kernel_rfl) (fun _ _ _ h => h) (Or.inl ⟨by rfl, ?hyr2_8⟩) (by assumption) ?rer2_8
        case hyr2_8 => (intro W hSw; (try dsimp only at hSw); go_simp; try with_reducible rfl)
        try simp only [Act.put, List.setIfInBounds_toArray, List.set_cons_zero, List.set_cons_succ]
        refine' wpAnyH_take (i := 9) (oi := { dst := some 96, op := Go.Op.fieldAddr 40 (Go.Operand.tmp 95) 5, type := 0, pos := "law.go:525", after := #[{ on := 8, ground := Go.Ground.data }], guard := none }) (v := _) rfl (by kernel_rfl) (by kernel_rfl) (by kernel_rfl) (fun _ _ _ h => h) (Or.inl ⟨by rfl, ?hyr2_9⟩) (by assumption) ?rer2_9
        case hyr2_9 => (intro W hSw; (try dsimp only at hSw); go_simp; try with_reducible rfl)
        try simp only [Act.put, List.setIfInBounds_toArray, List.set_cons_zero, List.set_cons_succ]
        refine' wpAnyH_take (i := 10) (oi := { dst := some 97, op := Go.Op.load 34 (Go.Operand.tmp 96), type := 34, pos := "law.go:525", after := #[{ on := 9, ground := Go.Ground.data }], guard := none }) (v := _) rfl (by kernel_rfl) (by kernel_rfl) (by kernel_rfl) (fun _ _ _ h => h) (Or.inl ⟨by rfl, ?hyr2_10⟩) (by assumption) ?rer2_10
        case hyr2_10 => (intro W hSw; (try dsimp only at hSw); go_simp; try with_reducible rfl)
        try simp only [Act.put, List.setIfInBounds_toArray, List.set_cons_zero, List.set_cons_succ]
        refine' wpAnyH_take (i := 11) (oi := { dst := some 98, op := Go.Op.move (Go.Operand.tmp 1), type := 22, pos := "law.go:525", after := #[], guard := none }) (v := _) rfl (by kernel_rfl) (by kernel_rfl) (by kernel_rfl) (fun _ _ _ h => h) (Or.inl ⟨by rfl, ?hyr2_11⟩) (by assumption) ?rer2_11
        case hyr2_11 => (intro W hSw; (try dsimp only at hSw); go_simp; try with_reducible rfl)
        try simp only [Act.put, List.setIfInBounds_toArray, List.set_cons_zero, List.set_cons_succ]
        refine' wpAnyH_take (i := 12) (oi := { dst := some 99, op := Go.Op.move (Go.Operand.tmp 11), type := 3, pos := "law.go:525", after := #[], guard := none }) (v := _) rfl (by kernel_rfl) (by kernel_rfl) (by kernel_rfl) (fun _ _ _ h => h) (Or.inl ⟨by rfl, ?hyr2_12⟩) (by assumption) ?rer2_12
        case hyr2_12 => (intro W hSw; (try dsimp only at hSw); go_simp; try with_reducible rfl)
        try simp only [Act.put, List.setIfInBounds_toArray, List.set_cons_zero, List.set_cons_succ]
        refine' wpAnyH_take (i := 13) (oi := { dst := some 100, op := Go.Op.indexAddr 22 (Go.Operand.tmp 98) (Go.Operand.tmp 99), type := 0, pos := "law.go:525", after := #[{ on := 11, ground := Go.Ground.data }, { on := 12, ground := Go.Ground.data }], guard := none }) (v := _) rfl (by kernel_rfl) (by kernel_rfl) (by kernel_rfl) (fun _ _ _ h => h) (Or.inl ⟨by rfl, ?hyr2_13⟩) (by assumption) ?rer2_13
        case hyr2_13 => (intro W hSw; (try dsimp only at hSw); go_simp; try with_reducible rfl)
        try simp only [Act.put, List.setIfInBounds_toArray, List.set_cons_zero, List.set_cons_succ]
        refine' wpAnyH_take (i := 14) (oi := { dst := some 101, op := Go.Op.fieldAddr 40 (Go.Operand.tmp 100) 6, type := 0, pos := "law.go:525", after := #[{ on := 13, ground := Go.Ground.data }], guard := none }) (v := _) rfl (by kernel_rfl) (by kernel_rfl) (by kernel_rfl) (fun _ _ _ h => h) (Or.inl ⟨by rfl, ?hyr2_14⟩) (by assumption) ?rer2_14
        case hyr2_14 => (intro W hSw; (try dsimp only at hSw); go_simp; try with_reducible rfl)
        try simp only [Act.put, List.setIfInBounds_toArray, List.set_cons_zero, List.set_cons_succ]
        refine' wpAnyH_take (i := 15) (oi := { dst := some 102, op := Go.Op.load 38 (Go.Operand.tmp 101), type := 38, pos := "law.go:525", after := #[{ on := 14, ground := Go.Ground.data }], guard := none }) (v := _) rfl (by kernel_rfl) (by kernel_rfl) (by kernel_rfl) (fun _ _ _ h => h) (Or.inl ⟨by rfl, ?hyr2_15⟩) (by assumption) ?rer2_15
        case hyr2_15 => (intro W hSw; (try dsimp only at hSw); go_simp; try with_reducible rfl)
        try simp only [Act.put, List.setIfInBounds_toArray, List.set_cons_zero, List.set_cons_succ]
        refine wpAnyH_ready (rs := [16]) (by kernel_rfl) (by simp) ?_
        refine AllReadyH.cons (o := { dst := some 103, op := Go.Op.call { callee := Go.Callee.value (Go.Operand.func 8), args := #[Go.Operand.tmp 87, Go.Operand.tmp 92, Go.Operand.tmp 97, Go.Operand.tmp 102], argTypes := #[24, 3, 34, 38] }, type := 27, pos := "law.go:525", after := #[{ on := 0, ground := Go.Ground.data }, { on := 5, ground := Go.Ground.data }, { on := 10, ground := Go.Ground.data }, { on := 15, ground := Go.Ground.data }], guard := none }) rfl (fun K hK => ?_) AllReadyH.nil
        clear hHeld
        go_simp
        refine JP.out.mono ?_
        rintro e w9 ⟨rfl, hx9⟩
        have HX9 := hide hx9
        have s1 : w9.cell? ⟨g', o' + i * 13 + 3, none⟩ = some (.int .i64 m.s) ∧ (w9.cell? ⟨g', o' + i * 13 + 5, none⟩ = some (.int .i64 m.x) ∧ w9.cell? ⟨g', o' + i * 13 + 5 + 1, none⟩ = some (.int .i64 m.y)) ∧ w9.cell? ⟨g', o' + i * 13 + 7, none⟩ = some (.int .i64 m.c.op) ∧ w9.cell? ⟨g', o' + i * 13 + 7 + 1, none⟩ = some (.int .i64 m.c.ix) ∧ w9.cell? ⟨g', o' + i * 13 + 7 + 2, none⟩ = some (.int .i64 m.c.gn) ∧ w9.cell? ⟨g', o' + i * 13 + 7 + 3, none⟩ = some (.int .i64 m.c.kd) ∧ w9.cell? ⟨g', o' + i * 13 + 7 + 4, none⟩ = some (.slice qa qn qc) ∧ w9.cell? ⟨g', o' + i * 13 + 7 + 5, none⟩ = some (.slice pa pn pc) := by
          obtain ⟨Qb, own1, row, hrl, hl9⟩ := hx9
          have h := HT.out.at hl9.bl hil
          rw [← HM.out] at h
          unfold SwAt at h
          rw [E5.out, E6.out] at h
          exact h
        clear hx9
        refine hK.out _ _ (s1) (fun hHeld => ?_)
        clear hK K
        try simp only [Act.put, List.setIfInBounds_toArray, List.set_cons_zero, List.set_cons_succ]
        refine wpAnyH_done (by kernel_rfl) ?_ _
        refine NoPanic.normal ?_
        rename_i hK9
        refine hK9 _ _ ?_
        clear hK9 s0 s1 JP E5 E6 HM
        go_wp2_with fail
        go_roundw
        case rel => exact ⟨i + 1, by omega, by omega, by go_num, HX9.out⟩
        case measure => simp [intOf]; omega
      · by_cases h1 : i < nt
        · have t1 : (i : Int) < (nt : Int) := by omega
          have t2 : ¬ (i : Int) < 100 := by omega
          have ei : i = min nt 100 := by omega
          have hx : Hid (∃ (Qb : Nat → Prop) (own : Nat → Nat) (row : List ((Int × Int) × Cm)), row.length = min nt 100 ∧ Lw w wr Qa Qb own ga gx La na gb gy (LR row) (min nt 100) gw 8000 bksK σ) := by rw [← ei]; exact HI.out
          clear HI ei
          go_wp2_with fail
          go_meet
          exact hx
        · have t1 : ¬ (i : Int) < (nt : Int) := by omega
          have ei : i = min nt 100 := by omega
          have hx : Hid (∃ (Qb : Nat → Prop) (own : Nat → Nat) (row : List ((Int × Int) × Cm)), row.length = min nt 100 ∧ Lw w wr Qa Qb own ga gx La na gb gy (LR row) (min nt 100) gw 8000 bksK σ) := by rw [← ei]; exact HI.out
          clear HI ei
          go_wp2_with fail
          go_meet
          exact hx
  obtain ⟨Qb, own8, row, hrow, hl8⟩ := hcut.out
  obtain ⟨w8, rfl⟩ : ∃ x, x = wc := ⟨_, rfl⟩
  have HR := hide hrow
  have HL8 := hide hl8
  obtain ⟨q, hq⟩ : ∃ q, q = min nt 100 := ⟨_, rfl⟩
  have HQ := hide hq
  have tm : min (nt : Int) 100 = (q : Int) := by omega
  have JC : Hid (Calls Tryz.prog 10 #[.pointer (some ⟨gw, 0, none⟩)] w8 fun e w' => ∃ g', e = .returned (.pointer (some ⟨g', 0, none⟩)) ∧ ∃ own own2, Lx w w' Qb own own2 gb gy (LR row) q gw g' 16192 bksK σ σ) := by
    refine hide (hl8.wn.clone.mono ?_)
    rintro e w' ⟨g', own2, rfl, hv, ho, hb⟩
    have h := hl8.cloned hb hv ho
    rw [← hq] at h
    exact ⟨g', rfl, _, _, h⟩
  clear hcut hrow hl8 HL7 hq HL8
  go_wp2_with fail
  refine JC.out.mono ?_
  rintro e w9 ⟨gv, rfl, own9, own92, hl9⟩
  have HL9 := hide hl9
  clear hl9 JC
  go_upto_block 4 with fail
  go_cut [] (fun W => Hid (Below w9.heap.size w9 W))
  case first =>
    go_wp2_with fail
    go_loopw [13] (fun v13 W => ∃ i : Nat, i ≤ 40 ∧ v13 = .int .i64 (i : Int) ∧ Hid (Below w9.heap.size w9 W)) (fun v13 _ => 40 - (intOf v13).toNat)
    case atStart => exact ⟨0, Nat.zero_le _, rfl, Below.refl _ _⟩
    case round =>
      obtain ⟨i, hi, rfl, HI⟩ := hrel
      by_cases hlt : i < 40
      · have t1 : (i : Int) < 40 := by omega
        have tw : IntKind.i64.wrap ((i : Int) + 1) = (i : Int) + 1 := by
          rw [IntKind.wrap_i64]
          omega
        have JN := hide (bf_new wr)
        go_wp2_with fail
        refine JN.out.mono ?_
        rintro e w10 ⟨gc, gz, rfl, hC, hl, b10⟩
        have JP : Hid (Calls Tryz.prog 8 #[.pointer (some ⟨gc, 0, none⟩), .int .i64 0, .agg #[.int .i64 (i : Int), .int .i64 0], .agg #[.int .i64 1, .int .i64 0, .int .i64 0, .int .i64 0, .slice none 0 0, .slice none 0 0]] w10 fun e w' => e = .returned (.int .i64 0) ∧ Below w9.heap.size w9 w') := by
          refine hide ((hC.put 0 (i : Int) 0 ⟨⟨by omega, by omega⟩, by simp only; omega, by simp only; omega⟩ (cm_lit2 w10) (by omega)).mono ?_)
          rintro e w' ⟨rfl, c', -, -, hm⟩
          have h1 := below_on HI.out b10
          exact ⟨rfl, h1.trans (hm.below h1.size (fun k e => by have := HI.out.size; rcases e with rfl | rfl <;> omega))⟩
        clear hC hl b10 JN HI
        go_wp2_with fail
        refine JP.out.mono ?_
        rintro e w11 ⟨rfl, b11⟩
        have BX := hide b11
        clear b11 JP
        go_wp2_with fail
        go_roundw
        case rel => exact ⟨i + 1, hlt, by go_num, BX.out⟩
        case measure => simp [intOf]; omega
      · have t1 : ¬ (i : Int) < 40 := by omega
        go_wp2_with fail
        go_meet
        exact HI
  obtain ⟨w10, rfl⟩ : ∃ x, x = wc := ⟨_, rfl⟩
  have hl10 := HL9.out.later (show Below w9.heap.size w9 w10 from hcut)
  obtain ⟨own10, hown10⟩ : ∃ f, f = rel own9 w9 0 := ⟨_, rfl⟩
  obtain ⟨own11, hown11⟩ : ∃ f, f = rel own92 w9 0 := ⟨_, rfl⟩
  rw [← hown10, ← hown11] at hl10
  clear hown10 hown11 hcut HL9
  have HL10 := hide hl10
  have JL : Hid (∀ V, Bf V Qb gb gy (LR row) q → Calls Tryz.prog 11 #[.pointer (some ⟨gb, 0, none⟩)] V fun e w' => ∃ a c, e = .returned (.slice a q c) ∧ Below V.heap.size V w') := fun V hV => by
    refine (hV.all (by have := HQ.out; omega)).mono ?_
    rintro e w' ⟨v, ss, l, rfl, ⟨q1, q2⟩, ⟨q3, -⟩, q5, q6⟩
    obtain ⟨a, c, rfl⟩ := own_len q5
    rw [q3, LR_all q1 q2, HR.out, ← HQ.out]
    exact ⟨a, c, rfl, q6⟩
  have J1 := hide (JL.out w10 hl10.b)
  clear hl10
  go_wp2_with fail
  refine J1.out.mono ?_
  rintro e w11 ⟨la, lc, rfl, b11⟩
  have HL11 := hide (HL10.out.later b11)
  clear J1 HL10 b11
  obtain ⟨own12, hown12⟩ : ∃ f, f = rel own10 w10 0 := ⟨_, rfl⟩
  obtain ⟨own13, hown13⟩ : ∃ f, f = rel own11 w10 0 := ⟨_, rfl⟩
  rw [← hown12, ← hown13] at HL11
  clear hown12 hown13
  have JB1 : Hid (Calls Tryz.prog 9 #[.pointer (some ⟨gb, 0, none⟩), .pointer (some ⟨gw, 0, none⟩)] w11 fun e w' => ∃ (v : Value) (rf : Nat), e = .returned (.tuple #[v, .int .i64 (rf : Int)]) ∧ ∃ (σ' : St) (l : List (Int × Int)) (ss : List (Int × Int)) (own own2 : Nat → Nat), ((∀ x, x ∈ ss ↔ LR row x ≠ []) ∧ ss.Pairwise ltT) ∧ RunL bksK σ (allL (LR row) ss) σ' l rf ∧ (w'.ownsRow w11.heap.size 34 2 v l.length (nz l) ∧ ∀ k, v.ownBlock = some k → own2 k = 0) ∧ w11.heap.size ≤ w'.heap.size ∧ Lx w w' Qb own own2 gb gy (LR row) q gw gv 24192 bksK σ' σ) := by
    refine hide ((HL11.out.b.apply (by have := HQ.out; omega) HL11.out.wn (by omega) (fun k _ hk => (HL11.out.qb k hk).2.1.1)).mono ?_)
    rintro e w' ⟨v, rf, rfl, σ', l, ss, own', q1, q2, ⟨q3, q4⟩, q5, q6⟩
    exact ⟨v, rf, rfl, σ', l, ss, own', _, q1, q2, ⟨q3, fun k e => rel_new (q3.lt k e).1⟩, q6.2.size, HL11.out.did q5 (by omega) q6⟩
  go_wp2_with fail
  refine JB1.out.mono ?_
  rintro e w12 ⟨v1, rf1, rfl, σ1, l1, ss1, own14, own15, hss1, hr1, hv1, hsz12, hl12⟩
  have HSS := hide hss1
  have HR1 := hide hr1
  have HV1 := hide hv1
  have HL12 := hide hl12
  have JB2 : Hid (Calls Tryz.prog 9 #[.pointer (some ⟨gb, 0, none⟩), .pointer (some ⟨gv, 0, none⟩)] w12 fun e w' => ∃ (v : Value), e = .returned (.tuple #[v, .int .i64 (rf1 : Int)]) ∧ ∃ (own own2 : Nat → Nat), (w'.ownsRow w11.heap.size 34 2 v1 l1.length (nz l1) ∧ w'.ownsRow w11.heap.size 34 2 v l1.length (nz l1)) ∧ Lx w w' Qb own own2 gb gy (LR row) q gw gv 32192 bksK σ1 σ1) := by
    refine hide ((hl12.turn.b.apply (by have := HQ.out; omega) hl12.turn.wn (by omega) (fun k _ hk => (hl12.turn.qb k hk).2.1.1)).mono ?_)
    rintro e w' ⟨v, rf, rfl, σ', l, ss, own', ⟨q1, q1'⟩, q2, ⟨q3, q4⟩, q5, q6⟩
    obtain rfl : ss = ss1 := sorted_one q1' hss1.2 (fun x => (q1 x).trans (hss1.1 x).symm)
    obtain ⟨rfl, rfl, rfl⟩ := RunL.det _ q2 hr1
    have hd := (hl12.turn.did q5 (by omega) q6).turn
    exact ⟨v, rfl, _, _, ⟨q6.2.own hv1.1 (fun k e e2 => e2.1 (hv1.2 k e)), own_lower q3 hsz12⟩, hd⟩
  clear hss1 hr1 hv1 hl12 JB1 HL11
  go_wp2_with fail
  refine JB2.out.mono ?_
  rintro e w13 ⟨v2, rfl, own16, own17, hv2, hl13⟩
  have HRL := hide (RunL.len _ HR1.out)
  have HLL : Hid (l1.length ≤ q ∧ rf1 ≤ q) := by
    have h := HRL.out
    rw [LR_all HSS.out.1 HSS.out.2, HR.out, ← HQ.out] at h
    exact h
  have HL13 := hide hl13
  have HV2 := hide hv2
  obtain ⟨a1, c1, rfl⟩ := own_len hv2.1
  obtain ⟨a2, c2, rfl⟩ := own_len hv2.2
  have JAL := hide (JL.out w13.drew (hl13.later (below_drew w13)).b)
  have JS1 : Hid (∀ V, Below w13.heap.size w13 V → Calls Tryz.prog 12 #[.pointer (some ⟨gw, 0, none⟩)] V fun e w' => ∃ v E, e = .returned v ∧ Livers (fC σ1.2.2) E ∧ (∀ V', Below w'.heap.size w' V' → (convert 47 9 v).run Tryz.prog V' = .ok (.string ⟨(Pak.Rw.rowB (zi σ1.1) ++ Pak.Rw.rowB (zi σ1.2.1) ++ E.flatMap (fun e => oneB bksK (σ1.2.2 e))).toArray⟩) V') ∧ Below V.heap.size V w') := fun V hV => by
    refine ((HL13.out.later hV).wn.snapshot).mono ?_
    rintro e w' ⟨v, rfl, ⟨E, hE, l, hl, ho⟩, hb⟩
    refine ⟨v, E, rfl, hE, fun V' hV' => ?_, hb⟩
    rw [← hl]
    exact Pak.conv_bs (bs_own (own_later ho hV') rfl)
  have JS2 : Hid (∀ V E, Below w13.heap.size w13 V → Livers (fC σ1.2.2) E → Calls Tryz.prog 12 #[.pointer (some ⟨gv, 0, none⟩)] V fun e w' => ∃ v, e = .returned v ∧ (∀ V', Below w'.heap.size w' V' → (convert 47 9 v).run Tryz.prog V' = .ok (.string ⟨(Pak.Rw.rowB (zi σ1.1) ++ Pak.Rw.rowB (zi σ1.2.1) ++ E.flatMap (fun e => oneB bksK (σ1.2.2 e))).toArray⟩) V') ∧ Below V.heap.size V w') := fun V E hV hE => by
    refine ((HL13.out.later hV).wv.snap E hE).mono ?_
    rintro e w' ⟨v, rfl, ⟨l, hl, ho⟩, hb⟩
    refine ⟨v, rfl, fun V' hV' => ?_, hb⟩
    rw [← hl]
    exact Pak.conv_bs (bs_own (own_later ho hV') rfl)
  have tq : ¬ (q : Int) < (rf1 : Int) := by have := HLL.out.2; omega
  have tq2 : rf1 ≤ q := HLL.out.2
  have tq3 : ¬ q < rf1 := by omega
  clear hv2 hl13 JB2 JL HSS HR1 HV1 HRL HR HL12
  go_upto_region 31 with fail
  refine wp_region_noPanic ?_
  refine wp_region_held_drew (S := (fun V => Below w13.drew.heap.size w13.drew V)) (by kernel_rfl) (Below.refl _ _) (fun hHeld => ?_)
  refine' wpAnyH_take (i := 0) (oi := { dst := some 140, op := Go.Op.move (Go.Operand.tmp 16), type := 41, pos := "law.go:544", after := #[], guard := none }) (v := _) rfl (by kernel_rfl) (by kernel_rfl) (by kernel_rfl) (fun _ _ _ h => h) (Or.inl ⟨by rfl, ?hyr3_0⟩) (by assumption) ?rer3_0
  case hyr3_0 => (intro W hSw; (try dsimp only at hSw); go_simp; try with_reducible rfl)
  try simp only [Act.put, List.setIfInBounds_toArray, List.set_cons_zero, List.set_cons_succ]
  refine' wpAnyH_take (i := 1) (oi := { dst := some 141, op := Go.Op.call { callee := Go.Callee.builtin Go.Builtin.len, args := #[Go.Operand.tmp 140], argTypes := #[41] }, type := 3, pos := "law.go:544", after := #[{ on := 0, ground := Go.Ground.data }], guard := none }) (v := _) rfl (by kernel_rfl) (by kernel_rfl) (by kernel_rfl) (fun _ _ _ h => h) (Or.inl ⟨by rfl, ?hyr3_1⟩) (by assumption) ?rer3_1
  case hyr3_1 => (intro W hSw; (try dsimp only at hSw); go_simp; try with_reducible rfl)
  try simp only [Act.put, List.setIfInBounds_toArray, List.set_cons_zero, List.set_cons_succ]
  refine' wpAnyH_take (i := 2) (oi := { dst := some 142, op := Go.Op.move (Go.Operand.tmp 18), type := 41, pos := "law.go:544", after := #[], guard := none }) (v := _) rfl (by kernel_rfl) (by kernel_rfl) (by kernel_rfl) (fun _ _ _ h => h) (Or.inl ⟨by rfl, ?hyr3_2⟩) (by assumption) ?rer3_2
  case hyr3_2 => (intro W hSw; (try dsimp only at hSw); go_simp; try with_reducible rfl)
  try simp only [Act.put, List.setIfInBounds_toArray, List.set_cons_zero, List.set_cons_succ]
  refine' wpAnyH_take (i := 3) (oi := { dst := some 143, op := Go.Op.call { callee := Go.Callee.builtin Go.Builtin.len, args := #[Go.Operand.tmp 142], argTypes := #[41] }, type := 3, pos := "law.go:544", after := #[{ on := 2, ground := Go.Ground.data }], guard := none }) (v := _) rfl (by kernel_rfl) (by kernel_rfl) (by kernel_rfl) (fun _ _ _ h => h) (Or.inl ⟨by rfl, ?hyr3_3⟩) (by assumption) ?rer3_3
  case hyr3_3 => (intro W hSw; (try dsimp only at hSw); go_simp; try with_reducible rfl)
  try simp only [Act.put, List.setIfInBounds_toArray, List.set_cons_zero, List.set_cons_succ]
  refine' wpAnyH_take (i := 4) (oi := { dst := some 144, op := Go.Op.binOp Go.BinOp.neq 3 (Go.Operand.tmp 141) (Go.Operand.tmp 143) 3, type := 4, pos := "law.go:544", after := #[{ on := 1, ground := Go.Ground.data }, { on := 3, ground := Go.Ground.data }], guard := none }) (v := _) rfl (by kernel_rfl) (by kernel_rfl) (by kernel_rfl) (fun _ _ _ h => h) (Or.inl ⟨by rfl, ?hyr3_4⟩) (by assumption) ?rer3_4
  case hyr3_4 => (intro W hSw; (try dsimp only at hSw); go_simp; try with_reducible rfl)
  try simp only [Act.put, List.setIfInBounds_toArray, List.set_cons_zero, List.set_cons_succ]
  refine' wpAnyH_take (i := 5) (oi := { dst := some 145, op := Go.Op.move (Go.Operand.tmp 144), type := 4, pos := "law.go:544", after := #[{ on := 4, ground := Go.Ground.data }], guard := none }) (v := _) rfl (by kernel_rfl) (by kernel_rfl) (by kernel_rfl) (fun _ _ _ h => h) (Or.inl ⟨by rfl, ?hyr3_5⟩) (by assumption) ?rer3_5
  case hyr3_5 => (intro W hSw; (try dsimp only at hSw); go_simp; try with_reducible rfl)
  try simp only [Act.put, List.setIfInBounds_toArray, List.set_cons_zero, List.set_cons_succ]
  refine' wpAnyH_take (i := 6) (oi := { dst := some 146, op := Go.Op.move (Go.Operand.tmp 17), type := 3, pos := "law.go:544", after := #[{ on := 5, ground := Go.Ground.guard }], guard := some (5, false) }) (v := _) rfl (by kernel_rfl) (by kernel_rfl) (by kernel_rfl) (fun _ _ _ h => h) (Or.inl ⟨by rfl, ?hyr3_6⟩) (by assumption) ?rer3_6
  case hyr3_6 => (intro W hSw; (try dsimp only at hSw); go_simp; try with_reducible rfl)
  try simp only [Act.put, List.setIfInBounds_toArray, List.set_cons_zero, List.set_cons_succ]
  refine' wpAnyH_take (i := 7) (oi := { dst := some 147, op := Go.Op.move (Go.Operand.tmp 19), type := 3, pos := "law.go:544", after := #[{ on := 5, ground := Go.Ground.guard }], guard := some (5, false) }) (v := _) rfl (by kernel_rfl) (by kernel_rfl) (by kernel_rfl) (fun _ _ _ h => h) (Or.inl ⟨by rfl, ?hyr3_7⟩) (by assumption) ?rer3_7
  case hyr3_7 => (intro W hSw; (try dsimp only at hSw); go_simp; try with_reducible rfl)
  try simp only [Act.put, List.setIfInBounds_toArray, List.set_cons_zero, List.set_cons_succ]
  refine' wpAnyH_take (i := 8) (oi := { dst := some 148, op := Go.Op.binOp Go.BinOp.neq 3 (Go.Operand.tmp 146) (Go.Operand.tmp 147) 3, type := 4, pos := "law.go:544", after := #[{ on := 6, ground := Go.Ground.data }, { on := 7, ground := Go.Ground.data }, { on := 5, ground := Go.Ground.guard }], guard := some (5, false) }) (v := _) rfl (by kernel_rfl) (by kernel_rfl) (by kernel_rfl) (fun _ _ _ h => h) (Or.inl ⟨by rfl, ?hyr3_8⟩) (by assumption) ?rer3_8
  case hyr3_8 => (intro W hSw; (try dsimp only at hSw); go_simp; try with_reducible rfl)
  try simp only [Act.put, List.setIfInBounds_toArray, List.set_cons_zero, List.set_cons_succ]
  refine' wpAnyH_take (i := 9) (oi := { dst := some 149, op := Go.Op.pick (Go.Operand.tmp 145) (Go.Operand.const (Go.Value.bool true)) (Go.Operand.tmp 148), type := 4, pos := "law.go:544", after := #[{ on := 5, ground := Go.Ground.data }, { on := 8, ground := Go.Ground.data }], guard := none }) (v := _) rfl (by kernel_rfl) (by kernel_rfl) (by kernel_rfl) (fun _ _ _ h => h) (Or.inl ⟨by rfl, ?hyr3_9⟩) (by assumption) ?rer3_9
  case hyr3_9 => (intro W hSw; (try dsimp only at hSw); go_simp; try with_reducible rfl)
  try simp only [Act.put, List.setIfInBounds_toArray, List.set_cons_zero, List.set_cons_succ]
  refine' wpAnyH_take (i := 10) (oi := { dst := some 150, op := Go.Op.move (Go.Operand.tmp 149), type := 4, pos := "law.go:544", after := #[{ on := 9, ground := Go.Ground.data }, { on := 5, ground := Go.Ground.chain }], guard := none }) (v := _) rfl (by kernel_rfl) (by kernel_rfl) (by kernel_rfl) (fun _ _ _ h => h) (Or.inl ⟨by rfl, ?hyr3_10⟩) (by assumption) ?rer3_10
  case hyr3_10 => (intro W hSw; (try dsimp only at hSw); go_simp; try with_reducible rfl)
  try simp only [Act.put, List.setIfInBounds_toArray, List.set_cons_zero, List.set_cons_succ]
  refine' wpAnyH_take (i := 11) (oi := { dst := some 151, op := Go.Op.move (Go.Operand.tmp 7), type := 24, pos := "law.go:544", after := #[{ on := 10, ground := Go.Ground.guard }], guard := some (10, false) }) (v := _) rfl (by kernel_rfl) (by kernel_rfl) (by kernel_rfl) (fun _ _ _ h => h) (Or.inl ⟨by rfl, ?hyr3_11⟩) (by assumption) ?rer3_11
  case hyr3_11 => (intro W hSw; (try dsimp only at hSw); go_simp; try with_reducible rfl)
  try simp only [Act.put, List.setIfInBounds_toArray, List.set_cons_zero, List.set_cons_succ]
  refine' wpAnyH_take (i := 14) (oi := { dst := some 154, op := Go.Op.move (Go.Operand.tmp 15), type := 3, pos := "law.go:544", after := #[{ on := 10, ground := Go.Ground.guard }], guard := some (10, false) }) (v := _) rfl (by kernel_rfl) (by kernel_rfl) (by kernel_rfl) (fun _ _ _ h => h) (Or.inl ⟨by rfl, ?hyr3_14⟩) (by assumption) ?rer3_14
  case hyr3_14 => (intro W hSw; (try dsimp only at hSw); go_simp; try with_reducible rfl)
  try simp only [Act.put, List.setIfInBounds_toArray, List.set_cons_zero, List.set_cons_succ]
  refine wpAnyH_ready (rs := [12]) (by kernel_rfl) (by simp) ?_
  refine AllReadyH.cons (o := { dst := some 152, op := Go.Op.call { callee := Go.Callee.value (Go.Operand.func 11), args := #[Go.Operand.tmp 151], argTypes := #[24] }, type := 45, pos := "law.go:544", after := #[{ on := 11, ground := Go.Ground.data }, { on := 10, ground := Go.Ground.chain }, { on := 10, ground := Go.Ground.guard }], guard := some (10, false) }) rfl (fun K hK => ?_) AllReadyH.nil
  clear hHeld
  go_simp
  refine JAL.out.mono ?_
  rintro e x1 ⟨la2, lc2, rfl, bx1⟩
  have Bx1 := hide bx1
  refine hK.out _ _ (bx1) (fun hHeld => ?_)
  clear hK K
  try simp only [Act.put, List.setIfInBounds_toArray, List.set_cons_zero, List.set_cons_succ]
  refine' wpAnyH_take (i := 13) (oi := { dst := some 153, op := Go.Op.call { callee := Go.Callee.builtin Go.Builtin.len, args := #[Go.Operand.tmp 152], argTypes := #[45] }, type := 3, pos := "law.go:544", after := #[{ on := 12, ground := Go.Ground.data }, { on := 10, ground := Go.Ground.guard }], guard := some (10, false) }) (v := _) rfl (by kernel_rfl) (by kernel_rfl) (by kernel_rfl) (fun _ _ _ h => h) (Or.inl ⟨by rfl, ?hyr3_13⟩) (by assumption) ?rer3_13
  case hyr3_13 => (intro W hSw; (try dsimp only at hSw); go_simp; try with_reducible rfl)
  try simp only [Act.put, List.setIfInBounds_toArray, List.set_cons_zero, List.set_cons_succ]
  refine' wpAnyH_take (i := 15) (oi := { dst := some 155, op := Go.Op.binOp Go.BinOp.neq 3 (Go.Operand.tmp 153) (Go.Operand.tmp 154) 3, type := 4, pos := "law.go:544", after := #[{ on := 13, ground := Go.Ground.data }, { on := 14, ground := Go.Ground.data }, { on := 10, ground := Go.Ground.guard }], guard := some (10, false) }) (v := _) rfl (by kernel_rfl) (by kernel_rfl) (by kernel_rfl) (fun _ _ _ h => h) (Or.inl ⟨by rfl, ?hyr3_15⟩) (by assumption) ?rer3_15
  case hyr3_15 => (intro W hSw; (try dsimp only at hSw); go_simp; try with_reducible rfl)
  try simp only [Act.put, List.setIfInBounds_toArray, List.set_cons_zero, List.set_cons_succ]
  refine' wpAnyH_take (i := 16) (oi := { dst := some 156, op := Go.Op.pick (Go.Operand.tmp 150) (Go.Operand.const (Go.Value.bool true)) (Go.Operand.tmp 155), type := 4, pos := "law.go:544", after := #[{ on := 10, ground := Go.Ground.data }, { on := 15, ground := Go.Ground.data }], guard := none }) (v := _) rfl (by kernel_rfl) (by kernel_rfl) (by kernel_rfl) (fun _ _ _ h => h) (Or.inl ⟨by rfl, ?hyr3_16⟩) (by assumption) ?rer3_16
  case hyr3_16 => (intro W hSw; (try dsimp only at hSw); go_simp; try with_reducible rfl)
  try simp only [Act.put, List.setIfInBounds_toArray, List.set_cons_zero, List.set_cons_succ]
  refine' wpAnyH_take (i := 17) (oi := { dst := some 157, op := Go.Op.move (Go.Operand.tmp 156), type := 4, pos := "law.go:544", after := #[{ on := 16, ground := Go.Ground.data }, { on := 12, ground := Go.Ground.chain }], guard := none }) (v := _) rfl (by kernel_rfl) (by kernel_rfl) (by kernel_rfl) (fun _ _ _ h => h) (Or.inl ⟨by rfl, ?hyr3_17⟩) (by assumption) ?rer3_17
  case hyr3_17 => (intro W hSw; (try dsimp only at hSw); go_simp; try with_reducible rfl)
  try simp only [Act.put, List.setIfInBounds_toArray, List.set_cons_zero, List.set_cons_succ]
  refine' wpAnyH_take (i := 18) (oi := { dst := some 158, op := Go.Op.move (Go.Operand.tmp 17), type := 3, pos := "law.go:544", after := #[{ on := 17, ground := Go.Ground.guard }], guard := some (17, false) }) (v := _) rfl (by kernel_rfl) (by kernel_rfl) (by kernel_rfl) (fun _ _ _ h => h) (Or.inl ⟨by rfl, ?hyr3_18⟩) (by assumption) ?rer3_18
  case hyr3_18 => (intro W hSw; (try dsimp only at hSw); go_simp; try with_reducible rfl)
  try simp only [Act.put, List.setIfInBounds_toArray, List.set_cons_zero, List.set_cons_succ]
  refine' wpAnyH_take (i := 19) (oi := { dst := some 159, op := Go.Op.move (Go.Operand.tmp 15), type := 3, pos := "law.go:544", after := #[{ on := 17, ground := Go.Ground.guard }], guard := some (17, false) }) (v := _) rfl (by kernel_rfl) (by kernel_rfl) (by kernel_rfl) (fun _ _ _ h => h) (Or.inl ⟨by rfl, ?hyr3_19⟩) (by assumption) ?rer3_19
  case hyr3_19 => (intro W hSw; (try dsimp only at hSw); go_simp; try with_reducible rfl)
  try simp only [Act.put, List.setIfInBounds_toArray, List.set_cons_zero, List.set_cons_succ]
  refine' wpAnyH_take (i := 20) (oi := { dst := some 160, op := Go.Op.binOp Go.BinOp.gtr 3 (Go.Operand.tmp 158) (Go.Operand.tmp 159) 3, type := 4, pos := "law.go:544", after := #[{ on := 18, ground := Go.Ground.data }, { on := 19, ground := Go.Ground.data }, { on := 17, ground := Go.Ground.guard }], guard := some (17, false) }) (v := _) rfl (by kernel_rfl) (by kernel_rfl) (by kernel_rfl) (fun _ _ _ h => h) (Or.inl ⟨by rfl, ?hyr3_20⟩) (by assumption) ?rer3_20
  case hyr3_20 => (intro W hSw; (try dsimp only at hSw); go_simp; try with_reducible rfl)
  try simp only [Act.put, List.setIfInBounds_toArray, List.set_cons_zero, List.set_cons_succ]
  refine' wpAnyH_take (i := 21) (oi := { dst := some 161, op := Go.Op.pick (Go.Operand.tmp 157) (Go.Operand.const (Go.Value.bool true)) (Go.Operand.tmp 160), type := 4, pos := "law.go:544", after := #[{ on := 17, ground := Go.Ground.data }, { on := 20, ground := Go.Ground.data }], guard := none }) (v := _) rfl (by kernel_rfl) (by kernel_rfl) (by kernel_rfl) (fun _ _ _ h => h) (Or.inl ⟨by rfl, ?hyr3_21⟩) (by assumption) ?rer3_21
  case hyr3_21 => (intro W hSw; (try dsimp only at hSw); go_simp; try with_reducible rfl)
  try simp only [Act.put, List.setIfInBounds_toArray, List.set_cons_zero, List.set_cons_succ]
  refine' wpAnyH_take (i := 22) (oi := { dst := some 162, op := Go.Op.move (Go.Operand.tmp 161), type := 4, pos := "law.go:544", after := #[{ on := 21, ground := Go.Ground.data }, { on := 17, ground := Go.Ground.chain }], guard := none }) (v := _) rfl (by kernel_rfl) (by kernel_rfl) (by kernel_rfl) (fun _ _ _ h => h) (Or.inl ⟨by rfl, ?hyr3_22⟩) (by assumption) ?rer3_22
  case hyr3_22 => (intro W hSw; (try dsimp only at hSw); go_simp; try with_reducible rfl)
  try simp only [Act.put, List.setIfInBounds_toArray, List.set_cons_zero, List.set_cons_succ]
  refine' wpAnyH_take (i := 23) (oi := { dst := some 163, op := Go.Op.move (Go.Operand.tmp 8), type := 26, pos := "law.go:544", after := #[{ on := 22, ground := Go.Ground.guard }], guard := some (22, false) }) (v := _) rfl (by kernel_rfl) (by kernel_rfl) (by kernel_rfl) (fun _ _ _ h => h) (Or.inl ⟨by rfl, ?hyr3_23⟩) (by assumption) ?rer3_23
  case hyr3_23 => (intro W hSw; (try dsimp only at hSw); go_simp; try with_reducible rfl)
  try simp only [Act.put, List.setIfInBounds_toArray, List.set_cons_zero, List.set_cons_succ]
  refine' wpAnyH_take (i := 26) (oi := { dst := some 166, op := Go.Op.move (Go.Operand.tmp 12), type := 26, pos := "law.go:544", after := #[{ on := 22, ground := Go.Ground.guard }], guard := some (22, false) }) (v := _) rfl (by kernel_rfl) (by kernel_rfl) (by kernel_rfl) (fun _ _ _ h => h) (Or.inl ⟨by rfl, ?hyr3_26⟩) (by assumption) ?rer3_26
  case hyr3_26 => (intro W hSw; (try dsimp only at hSw); go_simp; try with_reducible rfl)
  try simp only [Act.put, List.setIfInBounds_toArray, List.set_cons_zero, List.set_cons_succ]
  refine wpAnyH_ready (rs := [24]) (by kernel_rfl) (by simp) ?_
  refine AllReadyH.cons (o := { dst := some 164, op := Go.Op.call { callee := Go.Callee.value (Go.Operand.func 12), args := #[Go.Operand.tmp 163], argTypes := #[26] }, type := 47, pos := "law.go:544", after := #[{ on := 23, ground := Go.Ground.data }, { on := 22, ground := Go.Ground.chain }, { on := 22, ground := Go.Ground.guard }], guard := some (22, false) }) rfl (fun K hK => ?_) AllReadyH.nil
  clear hHeld
  go_simp
  refine (JS1.out x1 (below_on (below_drew w13) Bx1.out)).mono ?_
  rintro e x2 ⟨v24, E, rfl, hE, hc2, bx2⟩
  have Bx2 := hide (below_on Bx1.out bx2)
  have HE := hide hE
  have HC2 := hide hc2
  refine hK.out _ _ (Bx2.out) (fun hHeld => ?_)
  clear hK K
  try simp only [Act.put, List.setIfInBounds_toArray, List.set_cons_zero, List.set_cons_succ]
  refine wpAnyH_more (S' := fun V => Below x2.heap.size x2 V ∧ (convert 47 9 v24).run Tryz.prog V = .ok (.string ⟨(Pak.Rw.rowB (zi σ1.1) ++ Pak.Rw.rowB (zi σ1.2.1) ++ E.flatMap (fun e => oneB bksK (σ1.2.2 e))).toArray⟩) V) (fun V hV => below_on Bx2.out hV.1) _ _ _ _ ?_
  have hHeld : Below x2.heap.size x2 x2 ∧ (convert 47 9 v24).run Tryz.prog x2 = .ok (.string ⟨(Pak.Rw.rowB (zi σ1.1) ++ Pak.Rw.rowB (zi σ1.2.1) ++ E.flatMap (fun e => oneB bksK (σ1.2.2 e))).toArray⟩) x2 := ⟨Below.refl _ _, HC2.out x2 (Below.refl _ _)⟩
  clear bx1 bx2 hE hc2
  refine' wpAnyH_take (i := 25) (oi := { dst := some 165, op := Go.Op.convert 47 9 (Go.Operand.tmp 164), type := 9, pos := "law.go:544", after := #[{ on := 24, ground := Go.Ground.data }, { on := 22, ground := Go.Ground.guard }], guard := some (22, false) }) (v := _) rfl (by kernel_rfl) (by kernel_rfl) (by kernel_rfl) (fun _ _ _ h => h) (Or.inl ⟨by rfl, ?hyr3_25⟩) (by assumption) ?rer3_25
  case hyr3_25 => (intro W hSw; (try dsimp only at hSw); go_simp; try with_reducible rfl)
  try simp only [Act.put, List.setIfInBounds_toArray, List.set_cons_zero, List.set_cons_succ]
  refine wpAnyH_ready (rs := [27]) (by kernel_rfl) (by simp) ?_
  refine AllReadyH.cons (o := { dst := some 167, op := Go.Op.call { callee := Go.Callee.value (Go.Operand.func 12), args := #[Go.Operand.tmp 166], argTypes := #[26] }, type := 47, pos := "law.go:544", after := #[{ on := 26, ground := Go.Ground.data }, { on := 24, ground := Go.Ground.chain }, { on := 22, ground := Go.Ground.guard }], guard := some (22, false) }) rfl (fun K hK => ?_) AllReadyH.nil
  clear hHeld
  go_simp
  refine (JS2.out x2 E (below_on (below_drew w13) Bx2.out) HE.out).mono ?_
  rintro e x3 ⟨v27, rfl, hc3, bx3⟩
  have Bx3 := hide bx3
  have HC3 := hide hc3
  refine hK.out _ _ (⟨bx3, HC2.out x3 bx3⟩) (fun hHeld => ?_)
  clear hK K
  try simp only [Act.put, List.setIfInBounds_toArray, List.set_cons_zero, List.set_cons_succ]
  refine wpAnyH_more (S' := fun V => Below x3.heap.size x3 V ∧ (convert 47 9 v27).run Tryz.prog V = .ok (.string ⟨(Pak.Rw.rowB (zi σ1.1) ++ Pak.Rw.rowB (zi σ1.2.1) ++ E.flatMap (fun e => oneB bksK (σ1.2.2 e))).toArray⟩) V) (fun V hV => ⟨below_on Bx3.out hV.1, HC2.out V (below_on Bx3.out hV.1)⟩) _ _ _ _ ?_
  have hHeld : Below x3.heap.size x3 x3 ∧ (convert 47 9 v27).run Tryz.prog x3 = .ok (.string ⟨(Pak.Rw.rowB (zi σ1.1) ++ Pak.Rw.rowB (zi σ1.2.1) ++ E.flatMap (fun e => oneB bksK (σ1.2.2 e))).toArray⟩) x3 := ⟨Below.refl _ _, HC3.out x3 (Below.refl _ _)⟩
  clear bx3 hc3
  refine' wpAnyH_take (i := 28) (oi := { dst := some 168, op := Go.Op.convert 47 9 (Go.Operand.tmp 167), type := 9, pos := "law.go:544", after := #[{ on := 27, ground := Go.Ground.data }, { on := 22, ground := Go.Ground.guard }], guard := some (22, false) }) (v := _) rfl (by kernel_rfl) (by kernel_rfl) (by kernel_rfl) (fun _ _ _ h => h) (Or.inl ⟨by rfl, ?hyr3_28⟩) (by assumption) ?rer3_28
  case hyr3_28 => (intro W hSw; (try dsimp only at hSw); go_simp; try with_reducible rfl)
  try simp only [Act.put, List.setIfInBounds_toArray, List.set_cons_zero, List.set_cons_succ]
  refine' wpAnyH_take (i := 29) (oi := { dst := some 169, op := Go.Op.binOp Go.BinOp.neq 9 (Go.Operand.tmp 165) (Go.Operand.tmp 168) 9, type := 4, pos := "law.go:544", after := #[{ on := 25, ground := Go.Ground.data }, { on := 28, ground := Go.Ground.data }, { on := 22, ground := Go.Ground.guard }], guard := some (22, false) }) (v := _) rfl (by kernel_rfl) (by kernel_rfl) (by kernel_rfl) (fun _ _ _ h => h) (Or.inl ⟨by rfl, ?hyr3_29⟩) (by assumption) ?rer3_29
  case hyr3_29 => (intro W hSw; (try dsimp only at hSw); go_simp; try with_reducible rfl)
  try simp only [Act.put, List.setIfInBounds_toArray, List.set_cons_zero, List.set_cons_succ]
  refine' wpAnyH_take (i := 30) (oi := { dst := some 170, op := Go.Op.pick (Go.Operand.tmp 162) (Go.Operand.const (Go.Value.bool true)) (Go.Operand.tmp 169), type := 4, pos := "law.go:544", after := #[{ on := 22, ground := Go.Ground.data }, { on := 29, ground := Go.Ground.data }], guard := none }) (v := _) rfl (by kernel_rfl) (by kernel_rfl) (by kernel_rfl) (fun _ _ _ h => h) (Or.inl ⟨by rfl, ?hyr3_30⟩) (by assumption) ?rer3_30
  case hyr3_30 => (intro W hSw; (try dsimp only at hSw); go_simp; try with_reducible rfl)
  try simp only [Act.put, List.setIfInBounds_toArray, List.set_cons_zero, List.set_cons_succ]
  refine wpAnyH_done (by kernel_rfl) ?_ _
  refine NoPanic.normal ?_
  rename_i hK8 _ hK9 hh1 hh2
  clear hh1 hh2 hHeld HC2 HC3 HE JS1 JS2 JAL
  refine hK9 _ _ ?_
  clear hK9
  go_upto_block 6 with fail
  have HB : Hid (Below w13.drew.heap.size w13.drew x3) := hide (below_on Bx2.out Bx3.out)
  clear Bx1 Bx2 Bx3
  go_cut [] (fun W => Hid (Below w13.drew.heap.size w13.drew W))
  case first =>
    go_wp2_with fail
    go_loopw [20] (fun v20 W => ∃ i : Nat, i ≤ l1.length ∧ v20 = .int .i64 (i : Int) ∧ Hid (Below w13.drew.heap.size w13.drew W)) (fun v20 _ => l1.length - (intOf v20).toNat)
    case atStart => exact ⟨0, Nat.zero_le _, rfl, HB⟩
    case round =>
      obtain ⟨i, hi, rfl, HI⟩ := hrel
      by_cases hlt : i < l1.length
      · have t1 : (i : Int) < (l1.length : Int) := by omega
        have tn : i < l1.length := hlt
        have tw : IntKind.i64.wrap ((i : Int) + 1) = (i : Int) + 1 := by
          have k1 := HLL.out.1
          have k2 := HQ.out
          rw [IntKind.wrap_i64]
          omega
        have hb : Below w13.heap.size w13 wr := (below_drew w13).trans HI.out
        have ho1 := own_later HV2.out.1 hb
        have ho2 := own_later HV2.out.2 hb
        obtain ⟨g1, rfl⟩ : ∃ g, a1 = some ⟨g, 0, none⟩ := by
          rcases ho1.2 with ⟨e, -⟩ | ⟨g, c9, cur, e, -⟩
          · injection e with _ e2 _
            omega
          · injection e with e1
            exact ⟨g, e1⟩
        obtain ⟨g2, rfl⟩ : ∃ g, a2 = some ⟨g, 0, none⟩ := by
          rcases ho2.2 with ⟨e, -⟩ | ⟨g, c9, cur, e, -⟩
          · injection e with _ e2 _
            omega
          · injection e with e1
            exact ⟨g, e1⟩
        obtain ⟨q0, q1⟩ := nz_at l1 i hlt
        obtain ⟨p0, p1⟩ := nz_at l1 i hlt
        have hnz := nz_len l1
        rw [← ho1.cellAt (i * 2) (by omega)] at q0
        rw [← ho1.cellAt (i * 2 + 1) (by omega)] at q1
        rw [← ho2.cellAt (i * 2) (by omega)] at p0
        rw [← ho2.cellAt (i * 2 + 1) (by omega)] at p1
        obtain ⟨y1, hy1⟩ : ∃ y, y = l1[i].1 := ⟨_, rfl⟩
        obtain ⟨y2, hy2⟩ : ∃ y, y = l1[i].2 := ⟨_, rfl⟩
        rw [← hy1] at q0 p0
        rw [← hy2] at q1 p1
        clear hy1 hy2 ho1 ho2 hnz hb
        go_upto_region 36 with fail
        refine wp_region_noPanic ?_
        refine wp_region_held_drew (S := (fun V => V.cell? ⟨g1, i * 2, none⟩ = some (.int .i64 y1) ∧ V.cell? ⟨g1, i * 2 + 1, none⟩ = some (.int .i64 y2) ∧ V.cell? ⟨g2, i * 2, none⟩ = some (.int .i64 y1) ∧ V.cell? ⟨g2, i * 2 + 1, none⟩ = some (.int .i64 y2))) (by kernel_rfl) (⟨q0, q1, p0, p1⟩) (fun hHeld => ?_)
        refine' wpAnyH_take (i := 0) (oi := { dst := some 177, op := Go.Op.move (Go.Operand.tmp 16), type := 41, pos := "law.go:548", after := #[], guard := none }) (v := _) rfl (by kernel_rfl) (by kernel_rfl) (by kernel_rfl) (fun _ _ _ h => h) (Or.inl ⟨by rfl, ?hyr4_0⟩) (by assumption) ?rer4_0
        case hyr4_0 => (intro W hSw; (try dsimp only at hSw); go_simp; try with_reducible rfl)
        try simp only [Act.put, List.setIfInBounds_toArray, List.set_cons_zero, List.set_cons_succ]
        refine' wpAnyH_take (i := 1) (oi := { dst := some 178, op := Go.Op.move (Go.Operand.tmp 20), type := 3, pos := "law.go:548", after := #[], guard := none }) (v := _) rfl (by kernel_rfl) (by kernel_rfl) (by kernel_rfl) (fun _ _ _ h => h) (Or.inl ⟨by rfl, ?hyr4_1⟩) (by assumption) ?rer4_1
        case hyr4_1 => (intro W hSw; (try dsimp only at hSw); go_simp; try with_reducible rfl)
        try simp only [Act.put, List.setIfInBounds_toArray, List.set_cons_zero, List.set_cons_succ]
        refine' wpAnyH_take (i := 2) (oi := { dst := some 179, op := Go.Op.indexAddr 41 (Go.Operand.tmp 177) (Go.Operand.tmp 178), type := 0, pos := "law.go:548", after := #[{ on := 0, ground := Go.Ground.data }, { on := 1, ground := Go.Ground.data }], guard := none }) (v := _) rfl (by kernel_rfl) (by kernel_rfl) (by kernel_rfl) (fun _ _ _ h => h) (Or.inl ⟨by rfl, ?hyr4_2⟩) (by assumption) ?rer4_2
        case hyr4_2 => (intro W hSw; (try dsimp only at hSw); go_simp; try with_reducible rfl)
        try simp only [Act.put, List.setIfInBounds_toArray, List.set_cons_zero, List.set_cons_succ]
        refine' wpAnyH_take (i := 3) (oi := { dst := some 180, op := Go.Op.load 34 (Go.Operand.tmp 179), type := 34, pos := "law.go:548", after := #[{ on := 2, ground := Go.Ground.data }], guard := none }) (v := _) rfl (by kernel_rfl) (by kernel_rfl) (by kernel_rfl) (fun _ _ _ h => h) (Or.inl ⟨by rfl, ?hyr4_3⟩) (by assumption) ?rer4_3
        case hyr4_3 => (intro W hSw; (try dsimp only at hSw); go_simp; try with_reducible rfl)
        try simp only [Act.put, List.setIfInBounds_toArray, List.set_cons_zero, List.set_cons_succ]
        refine' wpAnyH_take (i := 4) (oi := { dst := some 181, op := Go.Op.move (Go.Operand.tmp 18), type := 41, pos := "law.go:548", after := #[], guard := none }) (v := _) rfl (by kernel_rfl) (by kernel_rfl) (by kernel_rfl) (fun _ _ _ h => h) (Or.inl ⟨by rfl, ?hyr4_4⟩) (by assumption) ?rer4_4
        case hyr4_4 => (intro W hSw; (try dsimp only at hSw); go_simp; try with_reducible rfl)
        try simp only [Act.put, List.setIfInBounds_toArray, List.set_cons_zero, List.set_cons_succ]
        refine' wpAnyH_take (i := 5) (oi := { dst := some 182, op := Go.Op.move (Go.Operand.tmp 20), type := 3, pos := "law.go:548", after := #[], guard := none }) (v := _) rfl (by kernel_rfl) (by kernel_rfl) (by kernel_rfl) (fun _ _ _ h => h) (Or.inl ⟨by rfl, ?hyr4_5⟩) (by assumption) ?rer4_5
        case hyr4_5 => (intro W hSw; (try dsimp only at hSw); go_simp; try with_reducible rfl)
        try simp only [Act.put, List.setIfInBounds_toArray, List.set_cons_zero, List.set_cons_succ]
        refine' wpAnyH_take (i := 6) (oi := { dst := some 183, op := Go.Op.indexAddr 41 (Go.Operand.tmp 181) (Go.Operand.tmp 182), type := 0, pos := "law.go:548", after := #[{ on := 4, ground := Go.Ground.data }, { on := 5, ground := Go.Ground.data }], guard := none }) (v := _) rfl (by kernel_rfl) (by kernel_rfl) (by kernel_rfl) (fun _ _ _ h => h) (Or.inl ⟨by rfl, ?hyr4_6⟩) (by assumption) ?rer4_6
        case hyr4_6 => (intro W hSw; (try dsimp only at hSw); go_simp; try with_reducible rfl)
        try simp only [Act.put, List.setIfInBounds_toArray, List.set_cons_zero, List.set_cons_succ]
        refine' wpAnyH_take (i := 7) (oi := { dst := some 184, op := Go.Op.load 34 (Go.Operand.tmp 183), type := 34, pos := "law.go:548", after := #[{ on := 6, ground := Go.Ground.data }], guard := none }) (v := _) rfl (by kernel_rfl) (by kernel_rfl) (by kernel_rfl) (fun _ _ _ h => h) (Or.inl ⟨by rfl, ?hyr4_7⟩) (by assumption) ?rer4_7
        case hyr4_7 => (intro W hSw; (try dsimp only at hSw); go_simp; try with_reducible rfl)
        try simp only [Act.put, List.setIfInBounds_toArray, List.set_cons_zero, List.set_cons_succ]
        refine' wpAnyH_take (i := 8) (oi := { dst := some 185, op := Go.Op.binOp Go.BinOp.neq 34 (Go.Operand.tmp 180) (Go.Operand.tmp 184) 34, type := 4, pos := "law.go:548", after := #[{ on := 3, ground := Go.Ground.data }, { on := 7, ground := Go.Ground.data }], guard := none }) (v := _) rfl (by kernel_rfl) (by kernel_rfl) (by kernel_rfl) (fun _ _ _ h => h) (Or.inl ⟨by rfl, ?hyr4_8⟩) (by assumption) ?rer4_8
        case hyr4_8 => (intro W hSw; (try dsimp only at hSw); go_simp; try with_reducible rfl)
        try simp only [Act.put, List.setIfInBounds_toArray, List.set_cons_zero, List.set_cons_succ]
        refine wpAnyH_done (by kernel_rfl) ?_ _
        refine NoPanic.normal ?_
        rename_i hK9
        refine hK9 _ _ ?_
        clear hK9 q0 q1 p0 p1
        have HI2 : Hid (Below w13.drew.heap.size w13.drew wr.drew) := hide HI.out.drew
        go_wp2_with fail
        go_roundw
        case rel => exact ⟨i + 1, hlt, by go_num, HI2.out⟩
        case measure => simp [intOf]; omega
      · have t1 : ¬ (i : Int) < (l1.length : Int) := by omega
        go_wp2_with fail
        go_meet
        exact HI
  go_wp2_with fail
  go_ret
  exact ⟨rfl, below_on (below_on HL13.out.bl (below_drew w13)) hcut.out⟩
end Go.Proofs.YtfbhoemfabgjpaaGreat
