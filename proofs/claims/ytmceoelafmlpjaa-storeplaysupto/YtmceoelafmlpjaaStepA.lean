/-
  The law's step, kind by kind.
-/
import Derived.Test.YtmceoelafmlpjaaStepH
namespace Go.Proofs.Ytmceoelafmlpjaa
open Go.RowKit
set_option maxHeartbeats 8000000 in
set_option maxRecDepth 100000 in
theorem step_append {S : Nat → Prop} {B gp ga gb nk : Nat} {L O b : List UInt8} {off : Bool} {f : Int} (hh q : Int) (bao : Option Addr) (bc : Nat) (w : World) (h : Ps w S B gp ga gb nk (fun _ => False) w L O off f) (hb : ∀ W, Below B w W → Bs W (.slice bao b.length bc) b) (hnb : NilOr (.slice bao b.length bc)) (hvb : 0 < b.length → ∀ k, (Value.slice bao b.length bc).ownBlock = some k → k < B) (hbl : b.length ≤ 1048576) (_hq : q ≤ 9223372036854775807) (_hnk : nk ≤ 100000) :
    Calls Try.prog 8 #[.pointer (some ⟨gp, 0, none⟩), .agg #[.int .i64 1, .int .i64 hh, .int .i64 q, .slice bao b.length bc]] w fun e w' => e = .returned (.bool true) ∧ ∃ L' O' off' f', Ps w S B gp ga gb (nk + 4) (fun _ => False) w' L' O' off' f' := by
  have hal : Below w.heap.size w (w.alloc (.cells #[.int .i64 1, .int .i64 hh, .int .i64 q, .slice bao b.length bc] 29)) := (Below.refl _ w).alloc (Nat.le_refl _) _
  have hP1 : Ps w S B gp ga gb nk (fun k => k = w.heap.size) (w.alloc (.cells #[.int .i64 1, .int .i64 hh, .int .i64 q, .slice bao b.length bc] 29)) L O off f := Pw.fence h hal (fun k e => ⟨.inr (by omega), by simp; omega⟩)
  have hOb : Ob (w.alloc (.cells #[.int .i64 1, .int .i64 hh, .int .i64 q, .slice bao b.length bc] 29)) w.heap.size 1 hh q (.slice bao b.length bc) := heap_alloc_new w _
  have hcl := cl_of hP1 hOb
  have ck : (w.alloc (.cells #[.int .i64 1, .int .i64 hh, .int .i64 q, .slice bao b.length bc] 29)).cell? ⟨w.heap.size, 0, none⟩ = some (.int .i64 1) := by rw [cell_of_row _ w.heap.size _ _ 29 (0, 0) hOb]; rfl
  have HB := hide hb
  have HNB := hide hnb
  have HVB := hide hvb
  have HP1 := hide hP1
  have HOB := hide hOb
  have HCL := hide hcl
  clear h hb hnb hvb hP1 hOb hcl hal
  go_enter Try.func8, Try.ntmps8
  go_upto_block 0 with fail
  obtain ⟨w1, hw1⟩ : ∃ x, x = w.alloc (.cells #[.int .i64 1, .int .i64 hh, .int .i64 q, .slice bao b.length bc] 29) := ⟨_, rfl⟩
  rw [← hw1] at HP1 HOB HCL ⊢
  clear hw1 ck
  obtain ⟨go, hgo⟩ : ∃ x, x = w.heap.size := ⟨_, rfl⟩
  rw [← hgo] at HP1 HOB HCL ⊢
  have HGO := hide hgo
  clear hgo
  go_cut [5] (fun v5 wx => v5 = .bool true ∧ ∃ L' O' off' f', Hid (Ps w S B gp ga gb (nk + 4) (fun k => k = go) wx L' O' off' f') ∧ Hid (Ob wx go 1 hh q (.slice bao b.length bc)))
  case first =>
    obtain ⟨c0, c1, c2, c3⟩ := HCL.out
    have HLE := hide (lent_any _ b w1 (HB.out w1 HP1.out.below) (by omega))
    have hgo1 : go < w1.heap.size := lt_of_block HOB.out
    go_wp2_with fail
    refine HLE.out.mono ?_
    rintro e w2 ⟨rfl, hr2, hb2⟩
    have hP2 : Ps w S B gp ga gb nk (fun k => k = go ∨ k = w1.heap.size) w2 L O off f := Pw.fence HP1.out hb2 (fun k e => by
      rcases e with e | e
      · exact ⟨.inl e, by have := hb2.size; omega⟩
      · exact ⟨.inr (by omega), by have := hr2.lt; omega⟩)
    have hO2 := HOB.out.later hb2
    have hB2 : B ≤ w1.heap.size := by
      have h1 := HP1.out.size
      have h2 : B ≤ w.heap.size := by obtain ⟨_, _, _, _, _, _, _, _, _, _, _, _, h⟩ := HP1.out; exact h
      omega
    have hbs2 : Bs w2 (.slice (some ⟨w1.heap.size, 0, none⟩) b.length (b.length + 8)) b := by
      have := hr2.bs (n := b.length) (c := b.length + 8) (by simp) (by omega) (by unfold maxLen; omega)
      rwa [List.take_left] at this
    obtain ⟨gl, hgl⟩ : ∃ x, x = w1.heap.size := ⟨_, rfl⟩
    rw [← hgl] at hr2 hP2 hbs2 hB2 hgo1 ⊢
    have hne : go ≠ gl := by omega
    have HP2 := hide hP2
    have HO2 := hide hO2
    have HR2 := hide hr2
    have HS2 := hide hbs2
    clear c0 c1 c2 c3 HLE hr2 hb2 hP2 hO2 hbs2 hgl HP1 HOB HCL
    obtain ⟨c0, c1, c2, c3⟩ := cl_of HP2.out HO2.out
    obtain ⟨E, L', O', off', f', hc, hd⟩ := Both.op (both_append HP2.out HS2.out (.inr ⟨_, _, _, rfl⟩) (by omega)) HO2.out (.inl rfl)
    have HC := hide hc
    have HD := hide hd
    clear hc hd
    go_wp2_with fail
    refine HC.out.mono ?_
    rintro e w3 ⟨rfl, HP3, d0, d1, d2, d3⟩
    have hR3 : Row w3 gl (b ++ List.replicate 8 201) := (HP3.out.2.1 gl (.inr rfl)).trans HR2.out
    have HBK := hide (back_any gl _ b w3 (by omega) hR3 (HB.out w3 HP3.out.1.below) (fun h g' e => by have := HVB.out h g' e; omega))
    clear c0 c1 c2 c3 HC HP2 HO2 HR2 HS2 hR3
    go_wp2_with fail
    refine HBK.out.mono ?_
    rintro e w4 ⟨rfl, hr4, hg4⟩
    have HP4 := hide (Pw.write HP3.out.1 hg4 (.inr rfl))
    have HO4 : Hid (Ob w4 go 1 hh q (.slice bao b.length bc)) := (hg4.block go (lt_of_block HP3.out.2.2) (fun e => hne (Option.some.inj e))).trans HP3.out.2.2
    have HR4 := hide hr4
    obtain ⟨x0, x1, x2, x3⟩ := cl_of (Pw.later HP4.out (drew_on w4)) (HO4.out.later (drew_on w4))
    have HDd := hide (HD.out w4.drew _ ⟨_, rfl, HB.out w4.drew (Pw.later HP4.out (drew_on w4)).below, HNB.out⟩ (Pw.later HP4.out (drew_on w4)) (HO4.out.later (drew_on w4)))
    have e0 : (E == E) = true := by simp
    clear d0 d1 d2 d3 HBK HP3 HD hg4 hr4
    go_upto_region 7 with fail
    go_cut [5] (fun v wx => v = .bool true ∧ Hid (Ps w S B gp ga gb nk (fun k => k = go ∨ k = gl) wx L' O' off' f') ∧ Hid (Ob wx go 1 hh q (.slice bao b.length bc)) ∧ Hid (Row wx gl (List.replicate (b.length + 8) 202)))
    case first =>
      go_region_held3 (fun W => W.cell? ⟨gp, 1, none⟩ = some (.pointer (some ⟨gb, 0, none⟩)) ∧ W.cell? ⟨go, 3, none⟩ = some (.slice bao b.length bc)) (go_keep) (first | (go_at_call 22; refine HDd.out.mono ?_; rintro e w5 ⟨rfl, HP5, y0, y1, y2, y3⟩))
      all_goals
        go_wp2_with fail
        go_meet
        exact ⟨rfl, HP5.out.1, HP5.out.2.2, (HP5.out.2.1 gl (.inr rfl)).trans (HR4.out.below (drew_on w4) HR4.out.lt)⟩
    obtain ⟨rfl, HP5, HO5, HR5⟩ := hcut
    obtain ⟨w5, rfl⟩ : ∃ x, x = wc := ⟨_, rfl⟩
    clear x0 x1 x2 x3 HDd HP4 HO4 HR4 e0
    obtain ⟨d0, d1, d2, d3⟩ := cl_of HP5.out HO5.out
    go_upto_region 8 with fail
    go_cut [56] (fun v wx => (∃ t, v = .bool t) ∧ wx = w5)
    case first =>
      go_wp2_with fail
      go_meet
      exact ⟨⟨_, rfl⟩, rfl⟩
    obtain ⟨⟨t, rfl⟩, rfl⟩ := hcut
    obtain ⟨w6, rfl⟩ : ∃ x, x = wc := ⟨_, rfl⟩
    cases t with
    | false =>
      go_wp2_with fail
      go_meet
      exact ⟨rfl, L', O', off', f', Pw.more (Pw.fewer HP5.out (fun k e => .inl e)) (by omega), HO5⟩
    | true =>
      obtain ⟨T, hT⟩ : ∃ T, T = List.replicate b.length (202 : UInt8) := ⟨_, rfl⟩
      have hTl : T.length = b.length := by rw [hT, List.length_replicate]
      have hbs6 : Bs w6 (.slice (some ⟨gl, 0, none⟩) b.length (b.length + 8)) T := by
        have := HR5.out.bs (n := b.length) (c := b.length + 8) (by simp) (by omega) (by unfold maxLen; omega)
        rwa [List.take_replicate, Nat.min_eq_left (by omega), ← hT] at this
      clear hT
      obtain ⟨E2, L2, O2, off2, f2, hc, hd⟩ := Both.op (both_append HP5.out hbs6 (.inr ⟨_, _, _, rfl⟩) (by omega)) HO5.out (.inl rfl)
      have HC := hide hc
      have HD := hide hd
      have HTL := hide hTl
      have HS6 := hide hbs6
      clear hc hd hTl hbs6
      go_wp2_with fail
      refine HC.out.mono ?_
      rintro e w7 ⟨rfl, HP7, y0, y1, y2, y3⟩
      have hR7 : Row w7 gl (List.replicate (b.length + 8) 202) := (HP7.out.2.1 gl (.inr rfl)).trans HR5.out
      have hbs7 : Bs w7 (.slice (some ⟨gl, 0, none⟩) b.length (b.length + 8)) T := HS6.out.kept (fun k hk hlt => by
        simp only [Value.ownBlock, Option.some.injEq] at hk
        subst hk
        exact HP7.out.2.1 _ (.inr rfl))
      have HCV : Hid (∀ W, Below w7.heap.size w7 W → (convert 22 9 (.slice (some ⟨gl, 0, none⟩) b.length (b.length + 8))).run Try.prog W = .ok (.string ⟨T.toArray⟩) W) := fun W hW => conv_bs (hbs7.on hW)
      obtain ⟨v8, w8, kc, hbs8, hn8, hb8⟩ := conv_new T w7.drew (by rw [HTL.out]; omega)
      have hb78 : Below w7.heap.size w7 w8 := (drew_on w7).trans hb8
      have HDd := hide (HD.out w8 _ ⟨v8, rfl, hbs8, hn8⟩ (Pw.later HP7.out.1 hb78) (HP7.out.2.2.later hb78))
      have z8 := (Pw.later HP7.out.1 hb78).ptrs.2
      have z7 := (Pw.later HP7.out.1 (drew_on w7)).ptrs.2
      have cv7 := HCV.out w7.drew (drew_on w7)
      have CV9 : Hid (∀ W : World, W.heap[gl]? = w8.heap[gl]? → (convert 22 9 (.slice (some ⟨gl, 0, none⟩) b.length (b.length + 8))).run Try.prog W = .ok (.string ⟨T.toArray⟩) W) := fun W hW => conv_bs ((hbs7.on hb78).kept (fun k hk _ => by
        simp only [Value.ownBlock, Option.some.injEq] at hk
        subst hk
        exact hW))
      have cv8 := HCV.out w8 hb78
      have e0 : (E2 == E2) = true := by simp
      clear d0 d1 d2 d3 HC HD HS6 hR7 hbs7 hbs8 hn8 hb8 hb78
      go_wp2_with fail
      refine wp_region_noPanic ?_
      refine wp_region_held_drew (S := (fun W => W.cell? ⟨gp, 1, none⟩ = some (.pointer (some ⟨gb, 0, none⟩)) ∧ (convert 22 9 (.slice (some ⟨gl, 0, none⟩) b.length (b.length + 8))).run Try.prog W = .ok (.string ⟨T.toArray⟩) W)) (by kernel_rfl) ⟨z7, cv7⟩ (fun hHeld => ?_)
      refine' wpAnyH_take (i := 0) (oi := { dst := some 63, op := Go.Op.move (Go.Operand.tmp 5), type := 4, pos := "store.go:137", after := #[], guard := none }) (v := _) rfl (by kernel_rfl) (by kernel_rfl) (by kernel_rfl) (fun _ _ _ h => h) (Or.inl ⟨by rfl, ?hy_0⟩) (by assumption) ?re_0
      case hy_0 => (intro W hSw; (try dsimp only at hSw); go_simp; try with_reducible rfl)
      try simp only [Act.put, List.setIfInBounds_toArray, List.set_cons_zero, List.set_cons_succ]
      refine' wpAnyH_take (i := 1) (oi := { dst := some 64, op := Go.Op.move (Go.Operand.tmp 63), type := 4, pos := "store.go:137", after := #[{ on := 0, ground := Go.Ground.data }], guard := none }) (v := _) rfl (by kernel_rfl) (by kernel_rfl) (by kernel_rfl) (fun _ _ _ h => h) (Or.inl ⟨by rfl, ?hy_1⟩) (by assumption) ?re_1
      case hy_1 => (intro W hSw; (try dsimp only at hSw); go_simp; try with_reducible rfl)
      try simp only [Act.put, List.setIfInBounds_toArray, List.set_cons_zero, List.set_cons_succ]
      refine' wpAnyH_take (i := 2) (oi := { dst := some 65, op := Go.Op.move (Go.Operand.tmp 7), type := 34, pos := "store.go:137", after := #[{ on := 1, ground := Go.Ground.guard }], guard := some (1, true) }) (v := _) rfl (by kernel_rfl) (by kernel_rfl) (by kernel_rfl) (fun _ _ _ h => h) (Or.inl ⟨by rfl, ?hy_2⟩) (by assumption) ?re_2
      case hy_2 => (intro W hSw; (try dsimp only at hSw); go_simp; try with_reducible rfl)
      try simp only [Act.put, List.setIfInBounds_toArray, List.set_cons_zero, List.set_cons_succ]
      refine' wpAnyH_take (i := 3) (oi := { dst := some 66, op := Go.Op.move (Go.Operand.tmp 0), type := 25, pos := "store.go:137", after := #[{ on := 1, ground := Go.Ground.guard }], guard := some (1, true) }) (v := _) rfl (by kernel_rfl) (by kernel_rfl) (by kernel_rfl) (fun _ _ _ h => h) (Or.inl ⟨by rfl, ?hy_3⟩) (by assumption) ?re_3
      case hy_3 => (intro W hSw; (try dsimp only at hSw); go_simp; try with_reducible rfl)
      try simp only [Act.put, List.setIfInBounds_toArray, List.set_cons_zero, List.set_cons_succ]
      refine' wpAnyH_take (i := 4) (oi := { dst := some 67, op := Go.Op.nilCheck (Go.Operand.tmp 66), type := 0, pos := "store.go:137", after := #[{ on := 3, ground := Go.Ground.data }, { on := 1, ground := Go.Ground.guard }], guard := some (1, true) }) (v := _) rfl (by kernel_rfl) (by kernel_rfl) (by kernel_rfl) (fun _ _ _ h => h) (Or.inl ⟨by rfl, ?hy_4⟩) (by assumption) ?re_4
      case hy_4 => (intro W hSw; (try dsimp only at hSw); go_simp; try with_reducible rfl)
      try simp only [Act.put, List.setIfInBounds_toArray, List.set_cons_zero, List.set_cons_succ]
      refine' wpAnyH_take (i := 5) (oi := { dst := some 68, op := Go.Op.fieldAddr 56 (Go.Operand.tmp 67) 1, type := 0, pos := "store.go:137", after := #[{ on := 4, ground := Go.Ground.data }, { on := 1, ground := Go.Ground.guard }], guard := some (1, true) }) (v := _) rfl (by kernel_rfl) (by kernel_rfl) (by kernel_rfl) (fun _ _ _ h => h) (Or.inl ⟨by rfl, ?hy_5⟩) (by assumption) ?re_5
      case hy_5 => (intro W hSw; (try dsimp only at hSw); go_simp; try with_reducible rfl)
      try simp only [Act.put, List.setIfInBounds_toArray, List.set_cons_zero, List.set_cons_succ]
      refine' wpAnyH_take (i := 6) (oi := { dst := some 69, op := Go.Op.load 51 (Go.Operand.tmp 68), type := 51, pos := "store.go:137", after := #[{ on := 5, ground := Go.Ground.data }, { on := 1, ground := Go.Ground.guard }], guard := some (1, true) }) (v := _) rfl (by kernel_rfl) (by kernel_rfl) (by kernel_rfl) (fun _ _ _ h => h) (Or.inl ⟨by rfl, ?hy_6⟩) (by assumption) ?re_6
      case hy_6 => (intro W hSw; (try dsimp only at hSw); go_simp; try with_reducible rfl)
      try simp only [Act.put, List.setIfInBounds_toArray, List.set_cons_zero, List.set_cons_succ]
      refine' wpAnyH_take (i := 7) (oi := { dst := some 70, op := Go.Op.move (Go.Operand.tmp 6), type := 22, pos := "store.go:137", after := #[{ on := 1, ground := Go.Ground.guard }], guard := some (1, true) }) (v := _) rfl (by kernel_rfl) (by kernel_rfl) (by kernel_rfl) (fun _ _ _ h => h) (Or.inl ⟨by rfl, ?hy_7⟩) (by assumption) ?re_7
      case hy_7 => (intro W hSw; (try dsimp only at hSw); go_simp; try with_reducible rfl)
      try simp only [Act.put, List.setIfInBounds_toArray, List.set_cons_zero, List.set_cons_succ]
      refine' wpAnyH_take (i := 8) (oi := { dst := some 71, op := Go.Op.convert 22 9 (Go.Operand.tmp 70), type := 9, pos := "store.go:137", after := #[{ on := 7, ground := Go.Ground.data }, { on := 1, ground := Go.Ground.guard }], guard := some (1, true) }) (v := _) rfl (by kernel_rfl) (by kernel_rfl) (by kernel_rfl) (fun _ _ _ h => h) (Or.inl ⟨by rfl, ?hy_8⟩) (by assumption) ?re_8
      case hy_8 => (intro W hSw; (try dsimp only at hSw); go_simp; try with_reducible rfl)
      try simp only [Act.put, List.setIfInBounds_toArray, List.set_cons_zero, List.set_cons_succ]
      refine wpAnyH_ready (rs := [9]) (by kernel_rfl) (by simp) ?_
      refine AllReadyH.cons (o := { dst := some 72, op := Go.Op.convert 9 22 (Go.Operand.tmp 71), type := 22, pos := "store.go:137", after := #[{ on := 8, ground := Go.Ground.data }, { on := 1, ground := Go.Ground.guard }], guard := some (1, true) }) rfl (fun K hK => ?_) AllReadyH.nil
      clear hHeld
      go_simp
      refine hK.out _ _ ⟨z8, cv8⟩ (fun hHeld => ?_)
      clear hK K
      try simp only [Act.put, List.setIfInBounds_toArray, List.set_cons_zero, List.set_cons_succ]
      refine wpAnyH_ready (rs := [10]) (by kernel_rfl) (by simp) ?_
      refine AllReadyH.cons (o := { dst := some 73, op := Go.Op.call { callee := Go.Callee.value (Go.Operand.func 22), args := #[Go.Operand.tmp 69, Go.Operand.tmp 72], argTypes := #[51, 22] }, type := 34, pos := "store.go:137", after := #[{ on := 6, ground := Go.Ground.data }, { on := 9, ground := Go.Ground.data }, { on := 1, ground := Go.Ground.chain }, { on := 1, ground := Go.Ground.guard }], guard := some (1, true) }) rfl (fun K hK => ?_) AllReadyH.nil
      clear hHeld
      go_simp
      go_at_call 22
      refine HDd.out.mono ?_
      rintro e w9 ⟨rfl, HP9, u0, u1, u2, u3⟩
      try go_wp2_with fail
      refine hK.out _ _ ⟨u1, CV9.out w9 (HP9.out.2.1 gl (.inr rfl))⟩ (fun hHeld => ?_)
      clear hK K
      try simp only [Act.put, List.setIfInBounds_toArray, List.set_cons_zero, List.set_cons_succ]
      refine' wpAnyH_take (i := 11) (oi := { dst := some 74, op := Go.Op.binOp Go.BinOp.eql 34 (Go.Operand.tmp 65) (Go.Operand.tmp 73) 34, type := 4, pos := "store.go:137", after := #[{ on := 2, ground := Go.Ground.data }, { on := 10, ground := Go.Ground.data }, { on := 1, ground := Go.Ground.guard }], guard := some (1, true) }) (v := _) rfl (by kernel_rfl) (by kernel_rfl) (by kernel_rfl) (fun _ _ _ h => h) (Or.inl ⟨by rfl, ?hy_11⟩) (by assumption) ?re_11
      case hy_11 => (intro W hSw; (try dsimp only at hSw); go_simp; try with_reducible rfl)
      try simp only [Act.put, List.setIfInBounds_toArray, List.set_cons_zero, List.set_cons_succ]
      refine' wpAnyH_take (i := 12) (oi := { dst := some 75, op := Go.Op.pick (Go.Operand.tmp 64) (Go.Operand.tmp 74) (Go.Operand.const (Go.Value.bool false)), type := 4, pos := "store.go:137", after := #[{ on := 1, ground := Go.Ground.data }, { on := 11, ground := Go.Ground.data }], guard := none }) (v := _) rfl (by kernel_rfl) (by kernel_rfl) (by kernel_rfl) (fun _ _ _ h => h) (Or.inl ⟨by rfl, ?hy_12⟩) (by assumption) ?re_12
      case hy_12 => (intro W hSw; (try dsimp only at hSw); go_simp; try with_reducible rfl)
      try simp only [Act.put, List.setIfInBounds_toArray, List.set_cons_zero, List.set_cons_succ]
      refine' wpAnyH_take (i := 13) (oi := { dst := some 5, op := Go.Op.assign (Go.Operand.tmp 75), type := 4, pos := "store.go:137", after := #[{ on := 12, ground := Go.Ground.data }, { on := 10, ground := Go.Ground.chain }, { on := 0, ground := Go.Ground.phase }, { on := 1, ground := Go.Ground.phase }, { on := 2, ground := Go.Ground.phase }, { on := 3, ground := Go.Ground.phase }, { on := 4, ground := Go.Ground.phase }, { on := 5, ground := Go.Ground.phase }, { on := 6, ground := Go.Ground.phase }, { on := 7, ground := Go.Ground.phase }, { on := 8, ground := Go.Ground.phase }, { on := 9, ground := Go.Ground.phase }, { on := 10, ground := Go.Ground.phase }, { on := 11, ground := Go.Ground.phase }, { on := 12, ground := Go.Ground.phase }], guard := none }) (v := _) rfl (by kernel_rfl) (by kernel_rfl) (by kernel_rfl) (fun _ _ _ h => h) (Or.inl ⟨by rfl, ?hy_13⟩) (by assumption) ?re_13
      case hy_13 => (intro W hSw; (try dsimp only at hSw); go_simp; try with_reducible rfl)
      try simp only [Act.put, List.setIfInBounds_toArray, List.set_cons_zero, List.set_cons_succ]
      refine wpAnyH_done (by kernel_rfl) ?_ _
      refine NoPanic.normal ?_
      go_wp2_with fail
      go_meet
      exact ⟨rfl, L2, O2, off2, f2, Pw.more (Pw.fewer HP9.out.1 (fun k e => .inl e)) (by omega), HP9.out.2.2⟩
  obtain ⟨rfl, L', O', off', f', HP2, HO2⟩ := hcut
  obtain ⟨w2, rfl⟩ : ∃ x, x = wc := ⟨_, rfl⟩
  obtain ⟨c0, c1, -, -⟩ := cl_of HP2.out HO2.out
  have HC := hide (both_state HP2.out).1
  clear HP1 HOB HCL
  go_wp2_with fail
  refine HC.out.mono ?_
  rintro e w3 ⟨rfl, hb3⟩
  have HP3 := hide (Pw.later HP2.out hb3)
  obtain ⟨d0, d1⟩ := HP3.out.ptrs
  have HD := hide (both_state HP3.out).2
  clear c0 c1 HC HP2 HO2 hb3
  obtain ⟨m, hm⟩ : ∃ m, m = L'.length + O'.length := ⟨_, rfl⟩
  rw [← hm] at HD ⊢
  clear hm
  obtain ⟨p, hp⟩ : ∃ p, p = L'.length := ⟨_, rfl⟩
  rw [← hp] at HD ⊢
  clear hp
  go_wp2_with fail
  refine HD.out.mono ?_
  rintro e w4 ⟨rfl, hb4⟩
  have HP4 := hide (Pw.later HP3.out hb4)
  clear d0 d1 HD HP3 hb4
  cases off' <;>
  · go_wp2_with fail
    go_ret
    exact ⟨rfl, L', O', _, f', Pw.fewer HP4.out (fun k e => e.elim)⟩

end Go.Proofs.Ytmceoelafmlpjaa
