/-
  The law's step: a pool is made anew of its own State.
-/
import Derived.Test.YtejbdhbphbgckaaR8
import Derived.Test.YtejbdhbphbgckaaLate
namespace Go.Proofs.Ytejbdhbphbgckaa
open Go.RowKit
set_option maxHeartbeats 40000000 in
set_option maxRecDepth 1000000 in
theorem step_8 (gw B : Nat) (own : Nat → Nat) (G : Nat → Nat × Nat) (C : Nat → St) (L : List Held) (w : World) (nn a ei eg : Int) (ag af : Option Addr) (ng cg nf cf : Nat) (h : Bw w gw own G C C L) (hF : Fe own B w) (_hL : L.length ≤ 1000000) (hn0 : -9223372036854775808 ≤ nn) (hn1 : nn ≤ 9223372036854775807) :
    Calls Try.prog 8 #[.pointer (some ⟨gw, 0, none⟩), .agg #[.int .i64 8, .int .i64 nn, .int .i64 a, .int .i64 ei, .int .i64 eg, .slice ag ng cg, .slice af nf cf]] w fun e w' => e = .returned (.bool true) ∧ Go1 w gw B (L.length + 8) w' := by
  have HH := hide h
  have HF := hide hF
  have JP : Hid (∀ W : World, Calls Try.prog 11 #[.int .i64 nn, .int .i64 2] W fun e w' => e = .returned (.int .i64 (pk nn 2 : Int)) ∧ w' = W) := fun W => pick_any nn 2 W hn0 hn1 (by omega) (by omega)
  have hi : pk nn 2 < 2 := pk_lt nn (by omega)
  generalize pk nn 2 = i at *
  have CG : Hid (∀ W, Below w.heap.size w W → W.cell? ⟨gw, i * 2, none⟩ = some (.pointer (some ⟨(G i).1, 0, none⟩)) ∧ W.cell? ⟨gw, i * 2 + 1, none⟩ = some (.pointer (some ⟨(G i).2, 0, none⟩))) := fun W hb => ((h.bu hF).later hb).pair hi
  have ti : (i : Int) < 2 := by omega
  clear h hF hn0 hn1
  go_enter Try.func8, Try.ntmps8
  go_upto_region 1 with fail
  obtain ⟨w0, hw0⟩ : ∃ X, X = w.alloc (.cells #[.int .i64 8, .int .i64 nn, .int .i64 a, .int .i64 ei, .int .i64 eg, .slice ag ng cg, .slice af nf cf] 43) := ⟨_, rfl⟩
  have B0 : Below w.heap.size w w0 := hw0 ▸ below_alloc w _
  have hx0 : w0.heap[w.heap.size]? = some (.cells #[.int .i64 8, .int .i64 nn, .int .i64 a, .int .i64 ei, .int .i64 eg, .slice ag ng cg, .slice af nf cf] 43 (0, 0)) := hw0 ▸ heap_alloc_new w _
  have hs0 : w0.heap.size = w.heap.size + 1 := by rw [hw0]; simp
  rw [← hw0]
  clear hw0
  obtain ⟨kx, hkx⟩ : ∃ k, k = w.heap.size := ⟨_, rfl⟩
  rw [← hkx] at hx0 ⊢
  have HKX := hide hkx
  have c1 : w0.cell? ⟨kx, 1, none⟩ = some (.int .i64 nn) := by rw [cell_of_row w0 kx _ _ 43 (0, 0) hx0]; rfl
  have HX0 := hide hx0
  have HS0 := hide hs0
  clear hkx hx0 hs0
  go_wp2_with fail
  refine (JP.out w0).mono ?_
  rintro e w0' ⟨rfl, rfl⟩
  obtain ⟨g0, g1⟩ := CG.out _ B0
  obtain ⟨g, hg⟩ : ∃ g, g = (G i).1 := ⟨_, rfl⟩
  obtain ⟨r, hr⟩ : ∃ r, r = (G i).2 := ⟨_, rfl⟩
  rw [← hg] at g0
  rw [← hr] at g1
  have HGG := hide hg
  have HRR := hide hr
  clear hg hr
  go_upto_region 3 with fail
  obtain ⟨w0, rfl⟩ : ∃ X, X = w0' := ⟨_, rfl⟩
  obtain ⟨w1, hw1⟩ : ∃ X, X = w0.alloc (.cells #[.pointer (some ⟨g, 0, none⟩), .pointer (some ⟨r, 0, none⟩)] 28) := ⟨_, rfl⟩
  have B1 : Below w.heap.size w w1 := below_on B0 (hw1 ▸ below_alloc w0 _)
  have hx1 : w1.heap[w0.heap.size]? = some (.cells #[.pointer (some ⟨g, 0, none⟩), .pointer (some ⟨r, 0, none⟩)] 28 (0, 0)) := hw1 ▸ heap_alloc_new w0 _
  have hy1 : w1.heap[kx]? = some (.cells #[.int .i64 8, .int .i64 nn, .int .i64 a, .int .i64 ei, .int .i64 eg, .slice ag ng cg, .slice af nf cf] 43 (0, 0)) := by
    have := HKX.out; have := HS0.out
    rw [hw1]
    exact (heap_alloc_old w0 _ (by omega)).trans HX0.out
  rw [← hw1]
  clear hw1 c1 g0 g1
  obtain ⟨kp, hkp⟩ : ∃ k, k = w0.heap.size := ⟨_, rfl⟩
  rw [← hkp] at hx1 ⊢
  have hlab : ext own w.heap.size 6 kx = 6 ∧ ext own w.heap.size 6 kp = 6 := ⟨K6.new (w := w) (Nat.le_of_eq HKX.out.symm), K6.new (w := w) (by rw [hkp]; exact B0.size)⟩
  have HLX := hide hlab.1
  have HLP := hide hlab.2
  have p0 : w1.cell? ⟨kp, 0, none⟩ = some (.pointer (some ⟨g, 0, none⟩)) := by rw [cell_of_row w1 kp _ _ 28 (0, 0) hx1]; rfl
  have p1 : w1.cell? ⟨kp, 1, none⟩ = some (.pointer (some ⟨r, 0, none⟩)) := by rw [cell_of_row w1 kp _ _ 28 (0, 0) hx1]; rfl
  have q0 : w1.cell? ⟨kx, 0, none⟩ = some (.int .i64 8) := by rw [cell_of_row w1 kx _ _ 43 (0, 0) hy1]; rfl
  have q1 : w1.cell? ⟨kx, 1, none⟩ = some (.int .i64 nn) := by rw [cell_of_row w1 kx _ _ 43 (0, 0) hy1]; rfl
  have q2 : w1.cell? ⟨kx, 2, none⟩ = some (.int .i64 a) := by rw [cell_of_row w1 kx _ _ 43 (0, 0) hy1]; rfl
  have q3 : w1.cell? ⟨kx, 3, none⟩ = some (.int .i64 ei) := by rw [cell_of_row w1 kx _ _ 43 (0, 0) hy1]; rfl
  have q4 : w1.cell? ⟨kx, 4, none⟩ = some (.int .i64 eg) := by rw [cell_of_row w1 kx _ _ 43 (0, 0) hy1]; rfl
  have q5 : w1.cell? ⟨kx, 5, none⟩ = some (.slice ag ng cg) := by rw [cell_of_row w1 kx _ _ 43 (0, 0) hy1]; rfl
  have q6 : w1.cell? ⟨kx, 6, none⟩ = some (.slice af nf cf) := by rw [cell_of_row w1 kx _ _ 43 (0, 0) hy1]; rfl
  have H1 := hide (HH.out.later B1)
  have F1 := hide (HF.out.ext B1.size 6)
  obtain ⟨o1, ho1⟩ : ∃ o, o = ext own w.heap.size 6 := ⟨_, rfl⟩
  rw [← ho1] at H1 F1 HLX HLP
  clear hkp ho1 hx1 hy1 HX0 HS0 JP
  obtain ⟨n, gs, fr, hci⟩ : ∃ n gs fr, C i = (n, gs, fr) := ⟨_, _, _, rfl⟩
  have hcs : Pl w1 (Lb o1 w1 (2 * i)) g n gs fr := by
    have := H1.out.1 i hi
    rw [← HGG.out, hci] at this
    exact this
  have hds : Dl w1 (Lb o1 w1 (2 * i + 1)) r n gs fr := by
    have := H1.out.2.1 i hi
    rw [← HRR.out, hci] at this
    exact this
  have JS : Hid (Calls Try.prog 17 #[.pointer (some ⟨g, 0, none⟩)] w1 fun e w' => ∃ v1 v2, e = .returned (.tuple #[v1, v2]) ∧ w'.ownsRow w1.heap.size 3 1 v1 gs.length (ic gs) ∧ w'.ownsRow w1.heap.size 3 1 v2 fr.length (ic fr) ∧ Ap v1 v2 ∧ Below w1.heap.size w1 w') := state_any hcs
  have hok : Ok n gs fr := hcs.2
  have CR : Hid (∀ W, Below w1.heap.size w1 W → W.cell? ⟨r, 0, none⟩ = some (.int .i64 (n : Int)) ∧ W.cell? ⟨kp, 1, none⟩ = some (.pointer (some ⟨r, 0, none⟩))) := fun W hb => by
    obtain ⟨⟨vg, vo, vf, hm, -⟩, -⟩ := Dl.later hds hb
    exact ⟨hm.cell.1, (hb.cell (p := ⟨kp, 1, none⟩) (World.block_lt_of_cell? w1 _ p1)).trans p1⟩
  have hgl : gs.length ≤ 1000000 ∧ fr.length ≤ 1000000 := by
    have := hok.free_len; have := hok.2.2.1; have := hok.2.1
    omega
  obtain ⟨hgl1, hgl2⟩ := hgl
  have JF : Hid (∀ (W : World) (vA vB : Value) {B' : Nat}, W.ownsRow B' 3 1 vA gs.length (ic gs) → W.ownsRow B' 3 1 vB fr.length (ic fr) → Calls Try.prog 23 #[.int .i64 (n : Int), vA, vB] W fun e w' => ∃ (gp gq : Nat) (S T : Nat → Prop), e = .returned (.tuple #[.agg #[.pointer (some ⟨gp, 0, none⟩), .pointer (some ⟨gq, 0, none⟩)], .bool true]) ∧ Below W.heap.size W w' ∧ Pl w' S gp n gs fr ∧ Dl w' T gq n gs fr ∧ (∀ k, S k → W.heap.size ≤ k) ∧ (∀ k, T k → W.heap.size ≤ k) ∧ ∀ k, S k → ¬ T k) := fun W vA vB B' ha hb => by
    refine (lawfrom_any (n : Int) vA vB (up gs) (up fr) W (own_is ha) (own_is hb) (by simp [up]; omega) (by simp [up]; omega)).mono ?_
    rintro e w' ⟨p, q, rfl, hbw, ⟨-, -, hng⟩ | ⟨gp, gq, n', gs', fr', S, T, rfl, rfl, hm, hg', hf', hp, hd, hS, hT, hST⟩⟩
    · exact absurd ⟨n, gs, fr, rfl, rfl, rfl, hok⟩ hng
    · obtain rfl := up_inj hg'
      obtain rfl := up_inj hf'
      obtain rfl : n = n' := by omega
      exact ⟨gp, gq, S, T, rfl, hbw, hp, hd, hS, hT, hST⟩
  clear hok hcs hds hci
  go_wp2_with fail
  refine JS.out.mono ?_
  rintro e w2 ⟨v1, v2, rfl, ov1, ov2, -, B2⟩
  have FW1 : Hid (∀ W, Below w2.heap.size w2 W → Fw W v1 gs) := fun W hb => (own_fw ov1).later hb
  have FW2 : Hid (∀ W, Below w2.heap.size w2 W → Fw W v2 fr) := fun W hb => (own_fw ov2).later hb
  have CS : Hid (∀ W, Below w2.heap.size w2 W → W.cell? ⟨kp, 1, none⟩ = some (.pointer (some ⟨r, 0, none⟩)) ∧ W.cell? ⟨r, 0, none⟩ = some (.int .i64 (n : Int))) := fun W hb => ⟨(CR.out W (below_on B2 hb)).2, (CR.out W (below_on B2 hb)).1⟩
  clear JS CR ov1 ov2 p0 p1 q0 q1 q2 q3 q4 q5 q6
  go_upto_region 32 with fail
  go_cut [18, 19] (fun v18 v19 W => ∃ kc gp gq, v18 = .pointer (some ⟨kc, 0, none⟩) ∧ v19 = .bool true ∧ Hid (F8 w2 W kc gp gq n gs fr))
  case first =>
    rename_i JJ KK hJJ hKK
    refine wp_region_noPanic ?_
    refine wp_region_late (J := fun i => i != 16 && i != 17) (S := fun W => W.cell? ⟨kp, 1, none⟩ = some (.pointer (some ⟨r, 0, none⟩)) ∧ W.cell? ⟨r, 0, none⟩ = some (.int .i64 (n : Int))) (by kernel_rfl) (CS.out _ (below_drew w2)) (fun hHeld => ?_)
    obtain ⟨W0, hW0⟩ : ∃ X, X = w2.drew := ⟨_, rfl⟩
    have R0 : Hid (R8 w2 gs fr W0 none none none none none) := R8.start (hW0 ▸ below_drew w2)
    rw [← hW0] at hHeld ⊢
    clear hW0
    refine' wpAnyJ_takeW (i := 0) (oi := { dst := some 155, op := Op.fieldAddr 28 (Operand.tmp 6) 1, type := 0, pos := "ids.go:217", after := #[], guard := none }) (v := _) rfl (by kernel_rfl) (by kernel_rfl) (by kernel_rfl) (fun _ _ _ h => h) (Or.inl ⟨by rfl, ?hyA1⟩) ?reA1
    case hyA1 => (intro W hSw; (try dsimp only at hSw); go_simp; try with_reducible rfl)
    try simp only [Act.put, List.setIfInBounds_toArray, List.set_cons_zero, List.set_cons_succ]
    refine' wpAnyJ_take (i := 1) (oi := { dst := some 156, op := Op.load 26 (Operand.tmp 155), type := 26, pos := "ids.go:217", after := #[{ on := 0, ground := Ground.data }], guard := none }) (v := _) rfl (by kernel_rfl) (by kernel_rfl) (by kernel_rfl) (by kernel_rfl) (fun _ _ _ h => h) (Or.inl ⟨by rfl, ?hyA2⟩) (by assumption) ?reA2
    case hyA2 => (intro W hSw; (try dsimp only at hSw); go_simp; try with_reducible rfl)
    try simp only [Act.put, List.setIfInBounds_toArray, List.set_cons_zero, List.set_cons_succ]
    refine' wpAnyJ_takeW (i := 2) (oi := { dst := some 157, op := Op.nilCheck (Operand.tmp 156), type := 0, pos := "ids.go:217", after := #[{ on := 1, ground := Ground.data }], guard := none }) (v := _) rfl (by kernel_rfl) (by kernel_rfl) (by kernel_rfl) (fun _ _ _ h => h) (Or.inl ⟨by rfl, ?hyA3⟩) ?reA3
    case hyA3 => (intro W hSw; (try dsimp only at hSw); go_simp; try with_reducible rfl)
    try simp only [Act.put, List.setIfInBounds_toArray, List.set_cons_zero, List.set_cons_succ]
    refine' wpAnyJ_takeW (i := 3) (oi := { dst := some 158, op := Op.fieldAddr 62 (Operand.tmp 157) 0, type := 0, pos := "ids.go:217", after := #[{ on := 2, ground := Ground.data }], guard := none }) (v := _) rfl (by kernel_rfl) (by kernel_rfl) (by kernel_rfl) (fun _ _ _ h => h) (Or.inl ⟨by rfl, ?hyA4⟩) ?reA4
    case hyA4 => (intro W hSw; (try dsimp only at hSw); go_simp; try with_reducible rfl)
    try simp only [Act.put, List.setIfInBounds_toArray, List.set_cons_zero, List.set_cons_succ]
    refine' wpAnyJ_take (i := 4) (oi := { dst := some 159, op := Op.load 3 (Operand.tmp 158), type := 3, pos := "ids.go:217", after := #[{ on := 3, ground := Ground.data }], guard := none }) (v := _) rfl (by kernel_rfl) (by kernel_rfl) (by kernel_rfl) (by kernel_rfl) (fun _ _ _ h => h) (Or.inl ⟨by rfl, ?hyA5⟩) (by assumption) ?reA5
    case hyA5 => (intro W hSw; (try dsimp only at hSw); go_simp; try with_reducible rfl)
    try simp only [Act.put, List.setIfInBounds_toArray, List.set_cons_zero, List.set_cons_succ]
    refine' wpAnyJ_takeW (i := 6) (oi := { dst := some 161, op := Op.move (Operand.tmp 16), type := 33, pos := "ids.go:217", after := #[], guard := none }) (v := _) rfl (by kernel_rfl) (by kernel_rfl) (by kernel_rfl) (fun _ _ _ h => h) (Or.inl ⟨by rfl, ?hyA6⟩) ?reA6
    case hyA6 => (intro W hSw; (try dsimp only at hSw); go_simp; try with_reducible rfl)
    try simp only [Act.put, List.setIfInBounds_toArray, List.set_cons_zero, List.set_cons_succ]
    refine' wpAnyJ_takeW (i := 9) (oi := { dst := some 164, op := Op.move (Operand.tmp 17), type := 33, pos := "ids.go:217", after := #[], guard := none }) (v := _) rfl (by kernel_rfl) (by kernel_rfl) (by kernel_rfl) (fun _ _ _ h => h) (Or.inl ⟨by rfl, ?hyA7⟩) ?reA7
    case hyA7 => (intro W hSw; (try dsimp only at hSw); go_simp; try with_reducible rfl)
    try simp only [Act.put, List.setIfInBounds_toArray, List.set_cons_zero, List.set_cons_succ]
    refine wpAnyJ_ready (rs := [5, 8, 15]) (by kernel_rfl) (by simp) ?_
    refine AllReadyJ.cons (o := { dst := some 160, op := Op.buildSlice 33 0 #[], type := 33, pos := "ids.go:217", after := #[], guard := none }) rfl (fun K hK => ?_) ?_
    · go_simp
      refine hK.out _ _ (fun _ _ => CS.out _ (R0.out.al1).1) ?_
      clear hK K
      have R1 := hide R0.out.al1
      obtain ⟨W1, hW⟩ : ∃ X, X = W0.alloc (.cells #[] 3) := ⟨_, rfl⟩
      obtain ⟨k1, hk⟩ : ∃ k, k = W0.heap.size := ⟨_, rfl⟩
      rw [← hW, ← hk] at R1 ⊢
      clear hW hk R0
      try simp only [Act.put, List.setIfInBounds_toArray, List.set_cons_zero, List.set_cons_succ]
      refine wpAnyJ_ready (rs := [7, 8, 15]) (by kernel_rfl) (by simp) ?_
      refine AllReadyJ.cons (o := { dst := some 162, op := Op.call { callee := Callee.builtin Builtin.append, args := #[Operand.tmp 160, Operand.tmp 161], argTypes := #[33, 33] }, type := 33, pos := "ids.go:217", after := #[{ on := 5, ground := Ground.data }, { on := 6, ground := Ground.data }], guard := none }) rfl (fun K hK => ?_) ?_
      · refine step_append_fw _ rfl (.tmp 160) (.tmp 161) rfl w2.heap.size (.slice (some ⟨k1, 0, none⟩) 0 0) v1 [] gs (by simp [Act.eval]) (R1.out.own1) (by simp [Act.eval]) (FW1.out _ R1.out.1) (by simp; omega) R1.out.1.size ?_
        intro vA W2 x1 x2 x3
        have R2 := hide (R1.out.app1 x1 x2 x3)
        clear x1 x2 x3 R1
        refine hK.out _ _ (fun _ _ => CS.out _ R2.out.1) ?_
        clear hK K
        try simp only [Act.put, List.setIfInBounds_toArray, List.set_cons_zero, List.set_cons_succ]
        refine wpAnyJ_ready (rs := [8, 15]) (by kernel_rfl) (by simp) ?_
        refine AllReadyJ.cons (o := { dst := some 163, op := Op.buildSlice 33 0 #[], type := 33, pos := "ids.go:217", after := #[], guard := none }) rfl (fun K hK => ?_) ?_
        · go_simp
          refine hK.out _ _ (fun _ _ => CS.out _ (R2.out.al2).1) ?_
          clear hK K
          have R3 := hide R2.out.al2
          obtain ⟨W3, hW⟩ : ∃ X, X = W2.alloc (.cells #[] 3) := ⟨_, rfl⟩
          obtain ⟨k3, hk⟩ : ∃ k, k = W2.heap.size := ⟨_, rfl⟩
          rw [← hW, ← hk] at R3 ⊢
          clear hW hk R2
          try simp only [Act.put, List.setIfInBounds_toArray, List.set_cons_zero, List.set_cons_succ]
          refine wpAnyJ_ready (rs := [10, 15]) (by kernel_rfl) (by simp) ?_
          refine AllReadyJ.cons (o := { dst := some 165, op := Op.call { callee := Callee.builtin Builtin.append, args := #[Operand.tmp 163, Operand.tmp 164], argTypes := #[33, 33] }, type := 33, pos := "ids.go:217", after := #[{ on := 8, ground := Ground.data }, { on := 9, ground := Ground.data }, { on := 7, ground := Ground.chain }], guard := none }) rfl (fun K hK => ?_) ?_
          · refine step_append_fw _ rfl (.tmp 163) (.tmp 164) rfl w2.heap.size (.slice (some ⟨k3, 0, none⟩) 0 0) v2 [] fr (by simp [Act.eval]) (R3.out.own2) (by simp [Act.eval]) (FW2.out _ R3.out.1) (by simp; omega) R3.out.1.size ?_
            intro vB W4 x1 x2 x3
            have R4 := hide (R3.out.app2 x1 x2 x3)
            clear x1 x2 x3 R3
            refine hK.out _ _ (fun _ _ => CS.out _ R4.out.1) ?_
            clear hK K
            try simp only [Act.put, List.setIfInBounds_toArray, List.set_cons_zero, List.set_cons_succ]
            refine wpAnyJ_ready (rs := [11, 15]) (by kernel_rfl) (by simp) ?_
            refine AllReadyJ.cons (o := { dst := some 166, op := Op.call { callee := Callee.value (Operand.func 23), args := #[Operand.tmp 159, Operand.tmp 162, Operand.tmp 165], argTypes := #[3, 33, 33] }, type := 64, pos := "ids.go:217", after := #[{ on := 4, ground := Ground.data }, { on := 7, ground := Ground.data }, { on := 10, ground := Ground.data }, { on := 10, ground := Ground.chain }], guard := none }) rfl (fun K hK => ?_) ?_
            · go_simp
              refine (JF.out _ _ _ (R4.out.2.2.2.2.1 vA rfl) (R4.out.2.2.2.2.2.1 vB rfl)).mono ?_
              rintro e W5 ⟨gp, gq, S, T, rfl, hb, hp, hd, hS, hT, hST⟩
              have R5 := hide (R4.out.later hb)
              have Q5 := hide (R4.out.made hp hd hS hT hST)
              clear hb hp hd hS hT hST R4
              first | refine hK.out _ _ (fun _ _ => CS.out _ R5.out.1) ?_ | (go_wp2_with fail; refine hK.out _ _ (fun _ _ => CS.out _ R5.out.1) ?_)
              clear hK K
              try simp only [Act.put, List.setIfInBounds_toArray, List.set_cons_zero, List.set_cons_succ]
              refine' wpAnyJ_takeW (i := 12) (oi := { dst := some 154, op := Op.move (Operand.tmp 166), type := 64, pos := "ids.go:217", after := #[{ on := 11, ground := Ground.data }], guard := none }) (v := _) rfl (by kernel_rfl) (by kernel_rfl) (by kernel_rfl) (fun _ _ _ h => h) (Or.inl ⟨by rfl, ?hyA8⟩) ?reA8
              case hyA8 => (intro W hSw; (try dsimp only at hSw); go_simp; try with_reducible rfl)
              try simp only [Act.put, List.setIfInBounds_toArray, List.set_cons_zero, List.set_cons_succ]
              refine' wpAnyJ_takeW (i := 13) (oi := { dst := some 167, op := Op.extract (Operand.tmp 154) 0, type := 28, pos := "ids.go:217", after := #[{ on := 12, ground := Ground.data }], guard := none }) (v := _) rfl (by kernel_rfl) (by kernel_rfl) (by kernel_rfl) (fun _ _ _ h => h) (Or.inl ⟨by rfl, ?hyA9⟩) ?reA9
              case hyA9 => (intro W hSw; (try dsimp only at hSw); go_simp; try with_reducible rfl)
              try simp only [Act.put, List.setIfInBounds_toArray, List.set_cons_zero, List.set_cons_succ]
              refine' wpAnyJ_takeW (i := 14) (oi := { dst := some 168, op := Op.extract (Operand.tmp 154) 1, type := 4, pos := "ids.go:217", after := #[{ on := 12, ground := Ground.data }, { on := 16, ground := Ground.gcOnly Departure.lateStores }], guard := none }) (v := _) rfl (by kernel_rfl) (by kernel_rfl) (by kernel_rfl) (fun _ _ _ h => h) (Or.inl ⟨by rfl, ?hyA10⟩) ?reA10
              case hyA10 => (intro W hSw; (try dsimp only at hSw); go_simp; try with_reducible rfl)
              try simp only [Act.put, List.setIfInBounds_toArray, List.set_cons_zero, List.set_cons_succ]
              refine wpAnyJ_ready (rs := [15]) (by kernel_rfl) (by simp) ?_
              refine AllReadyJ.cons (o := { dst := some 18, op := Op.alloc 28, type := 0, pos := "ids.go:217", after := #[], guard := none }) rfl (fun K hK => ?_) AllReadyJ.nil
              go_simp
              refine hK.out _ _ (fun _ _ => CS.out _ (R5.out.al3).1) ?_
              clear hK K
              have R6 := hide R5.out.al3
              have Q6 := hide Q5.out.al3
              obtain ⟨W6, hW⟩ : ∃ X, X = W5.alloc (.cells #[.pointer none, .pointer none] 28) := ⟨_, rfl⟩
              obtain ⟨k6, hk⟩ : ∃ k, k = W5.heap.size := ⟨_, rfl⟩
              rw [← hW, ← hk] at R6 Q6 ⊢
              clear hW hk R5 Q5
              try simp only [Act.put, List.setIfInBounds_toArray, List.set_cons_zero, List.set_cons_succ]
              refine wpAnyJ_ready (rs := [16]) (by kernel_rfl) (by simp) ?_
              refine AllReadyJ.cons (o := { dst := none, op := Op.store 28 (Operand.tmp 18) (Operand.tmp 167), type := 0, pos := "ids.go:217", after := #[{ on := 15, ground := Ground.data }, { on := 13, ground := Ground.data }, { on := 11, ground := Ground.chain }, { on := 0, ground := Ground.phase }, { on := 1, ground := Ground.phase }, { on := 2, ground := Ground.phase }, { on := 3, ground := Ground.phase }, { on := 4, ground := Ground.phase }, { on := 5, ground := Ground.phase }, { on := 6, ground := Ground.phase }, { on := 7, ground := Ground.phase }, { on := 8, ground := Ground.phase }, { on := 9, ground := Ground.phase }, { on := 10, ground := Ground.phase }, { on := 11, ground := Ground.phase }, { on := 12, ground := Ground.phase }, { on := 13, ground := Ground.phase }, { on := 14, ground := Ground.textOnly Departure.lateStores }, { on := 15, ground := Ground.phase }], guard := none }) rfl (fun K hK => ?_) AllReadyJ.nil
              obtain ⟨b0, b1, f0, f1⟩ := row2' (R6.out.2.2.2.1 k6 rfl).2
              go_simp
              refine hK.out _ _ (fun h => absurd h (by decide)) ?_
              clear hK K
              try simp only [Act.put, List.setIfInBounds_toArray, List.set_cons_zero, List.set_cons_succ]
              refine' wpAnyJ_takeW (i := 17) (oi := { dst := some 19, op := Op.assign (Operand.tmp 168), type := 4, pos := "ids.go:217", after := #[{ on := 14, ground := Ground.data }, { on := 16, ground := Ground.chain }, { on := 0, ground := Ground.phase }, { on := 1, ground := Ground.phase }, { on := 2, ground := Ground.phase }, { on := 3, ground := Ground.phase }, { on := 4, ground := Ground.phase }, { on := 5, ground := Ground.phase }, { on := 6, ground := Ground.phase }, { on := 7, ground := Ground.phase }, { on := 8, ground := Ground.phase }, { on := 9, ground := Ground.phase }, { on := 10, ground := Ground.phase }, { on := 11, ground := Ground.phase }, { on := 12, ground := Ground.phase }, { on := 13, ground := Ground.phase }, { on := 14, ground := Ground.phase }, { on := 15, ground := Ground.phase }, { on := 16, ground := Ground.phase }], guard := none }) (v := _) rfl (by kernel_rfl) (by kernel_rfl) (by kernel_rfl) (fun _ _ _ h => h) (Or.inl ⟨by rfl, ?hyA11⟩) ?reA11
              case hyA11 => (intro W hSw; (try dsimp only at hSw); go_simp; try with_reducible rfl)
              try simp only [Act.put, List.setIfInBounds_toArray, List.set_cons_zero, List.set_cons_succ]
              refine wpAnyJ_done (by kernel_rfl) ?_ _
              refine NoPanic.normal ?_
              have F9 := hide (Q6.out.fin R6.out)
              refine hKK _ _ (Met.intro (hJJ _ _ ?_))
              repeat apply Exists.intro
              refine ⟨?_, rfl⟩
              exact ⟨k6, gp, gq, rfl, rfl, F9⟩
            refine AllReadyJ.cons (o := { dst := some 18, op := Op.alloc 28, type := 0, pos := "ids.go:217", after := #[], guard := none }) rfl (fun K hK => ?_) AllReadyJ.nil
            go_simp
            refine hK.out _ _ (fun _ _ => CS.out _ (R4.out.al3).1) ?_
            clear hK K
            have R8 := hide R4.out.al3
            obtain ⟨W8, hW⟩ : ∃ X, X = W4.alloc (.cells #[.pointer none, .pointer none] 28) := ⟨_, rfl⟩
            obtain ⟨k8, hk⟩ : ∃ k, k = W4.heap.size := ⟨_, rfl⟩
            rw [← hW, ← hk] at R8 ⊢
            clear hW hk R4
            try simp only [Act.put, List.setIfInBounds_toArray, List.set_cons_zero, List.set_cons_succ]
            refine wpAnyJ_ready (rs := [11]) (by kernel_rfl) (by simp) ?_
            refine AllReadyJ.cons (o := { dst := some 166, op := Op.call { callee := Callee.value (Operand.func 23), args := #[Operand.tmp 159, Operand.tmp 162, Operand.tmp 165], argTypes := #[3, 33, 33] }, type := 64, pos := "ids.go:217", after := #[{ on := 4, ground := Ground.data }, { on := 7, ground := Ground.data }, { on := 10, ground := Ground.data }, { on := 10, ground := Ground.chain }], guard := none }) rfl (fun K hK => ?_) AllReadyJ.nil
            go_simp
            refine (JF.out _ _ _ (R8.out.2.2.2.2.1 vA rfl) (R8.out.2.2.2.2.2.1 vB rfl)).mono ?_
            rintro e W9 ⟨gp, gq, S, T, rfl, hb, hp, hd, hS, hT, hST⟩
            have R9 := hide (R8.out.later hb)
            have Q9 := hide (R8.out.made hp hd hS hT hST)
            clear hb hp hd hS hT hST R8
            first | refine hK.out _ _ (fun _ _ => CS.out _ R9.out.1) ?_ | (go_wp2_with fail; refine hK.out _ _ (fun _ _ => CS.out _ R9.out.1) ?_)
            clear hK K
            try simp only [Act.put, List.setIfInBounds_toArray, List.set_cons_zero, List.set_cons_succ]
            refine' wpAnyJ_takeW (i := 12) (oi := { dst := some 154, op := Op.move (Operand.tmp 166), type := 64, pos := "ids.go:217", after := #[{ on := 11, ground := Ground.data }], guard := none }) (v := _) rfl (by kernel_rfl) (by kernel_rfl) (by kernel_rfl) (fun _ _ _ h => h) (Or.inl ⟨by rfl, ?hyA12⟩) ?reA12
            case hyA12 => (intro W hSw; (try dsimp only at hSw); go_simp; try with_reducible rfl)
            try simp only [Act.put, List.setIfInBounds_toArray, List.set_cons_zero, List.set_cons_succ]
            refine' wpAnyJ_takeW (i := 13) (oi := { dst := some 167, op := Op.extract (Operand.tmp 154) 0, type := 28, pos := "ids.go:217", after := #[{ on := 12, ground := Ground.data }], guard := none }) (v := _) rfl (by kernel_rfl) (by kernel_rfl) (by kernel_rfl) (fun _ _ _ h => h) (Or.inl ⟨by rfl, ?hyA13⟩) ?reA13
            case hyA13 => (intro W hSw; (try dsimp only at hSw); go_simp; try with_reducible rfl)
            try simp only [Act.put, List.setIfInBounds_toArray, List.set_cons_zero, List.set_cons_succ]
            refine' wpAnyJ_takeW (i := 14) (oi := { dst := some 168, op := Op.extract (Operand.tmp 154) 1, type := 4, pos := "ids.go:217", after := #[{ on := 12, ground := Ground.data }, { on := 16, ground := Ground.gcOnly Departure.lateStores }], guard := none }) (v := _) rfl (by kernel_rfl) (by kernel_rfl) (by kernel_rfl) (fun _ _ _ h => h) (Or.inl ⟨by rfl, ?hyA14⟩) ?reA14
            case hyA14 => (intro W hSw; (try dsimp only at hSw); go_simp; try with_reducible rfl)
            try simp only [Act.put, List.setIfInBounds_toArray, List.set_cons_zero, List.set_cons_succ]
            refine wpAnyJ_ready (rs := [16]) (by kernel_rfl) (by simp) ?_
            refine AllReadyJ.cons (o := { dst := none, op := Op.store 28 (Operand.tmp 18) (Operand.tmp 167), type := 0, pos := "ids.go:217", after := #[{ on := 15, ground := Ground.data }, { on := 13, ground := Ground.data }, { on := 11, ground := Ground.chain }, { on := 0, ground := Ground.phase }, { on := 1, ground := Ground.phase }, { on := 2, ground := Ground.phase }, { on := 3, ground := Ground.phase }, { on := 4, ground := Ground.phase }, { on := 5, ground := Ground.phase }, { on := 6, ground := Ground.phase }, { on := 7, ground := Ground.phase }, { on := 8, ground := Ground.phase }, { on := 9, ground := Ground.phase }, { on := 10, ground := Ground.phase }, { on := 11, ground := Ground.phase }, { on := 12, ground := Ground.phase }, { on := 13, ground := Ground.phase }, { on := 14, ground := Ground.textOnly Departure.lateStores }, { on := 15, ground := Ground.phase }], guard := none }) rfl (fun K hK => ?_) AllReadyJ.nil
            obtain ⟨b0, b1, f0, f1⟩ := row2' (R9.out.2.2.2.1 k8 rfl).2
            go_simp
            refine hK.out _ _ (fun h => absurd h (by decide)) ?_
            clear hK K
            try simp only [Act.put, List.setIfInBounds_toArray, List.set_cons_zero, List.set_cons_succ]
            refine' wpAnyJ_takeW (i := 17) (oi := { dst := some 19, op := Op.assign (Operand.tmp 168), type := 4, pos := "ids.go:217", after := #[{ on := 14, ground := Ground.data }, { on := 16, ground := Ground.chain }, { on := 0, ground := Ground.phase }, { on := 1, ground := Ground.phase }, { on := 2, ground := Ground.phase }, { on := 3, ground := Ground.phase }, { on := 4, ground := Ground.phase }, { on := 5, ground := Ground.phase }, { on := 6, ground := Ground.phase }, { on := 7, ground := Ground.phase }, { on := 8, ground := Ground.phase }, { on := 9, ground := Ground.phase }, { on := 10, ground := Ground.phase }, { on := 11, ground := Ground.phase }, { on := 12, ground := Ground.phase }, { on := 13, ground := Ground.phase }, { on := 14, ground := Ground.phase }, { on := 15, ground := Ground.phase }, { on := 16, ground := Ground.phase }], guard := none }) (v := _) rfl (by kernel_rfl) (by kernel_rfl) (by kernel_rfl) (fun _ _ _ h => h) (Or.inl ⟨by rfl, ?hyA15⟩) ?reA15
            case hyA15 => (intro W hSw; (try dsimp only at hSw); go_simp; try with_reducible rfl)
            try simp only [Act.put, List.setIfInBounds_toArray, List.set_cons_zero, List.set_cons_succ]
            refine wpAnyJ_done (by kernel_rfl) ?_ _
            refine NoPanic.normal ?_
            have F9 := hide (Q9.out.fin R9.out)
            refine hKK _ _ (Met.intro (hJJ _ _ ?_))
            repeat apply Exists.intro
            refine ⟨?_, rfl⟩
            exact ⟨k8, gp, gq, rfl, rfl, F9⟩
          refine AllReadyJ.cons (o := { dst := some 18, op := Op.alloc 28, type := 0, pos := "ids.go:217", after := #[], guard := none }) rfl (fun K hK => ?_) AllReadyJ.nil
          go_simp
          refine hK.out _ _ (fun _ _ => CS.out _ (R3.out.al3).1) ?_
          clear hK K
          have R11 := hide R3.out.al3
          obtain ⟨W11, hW⟩ : ∃ X, X = W3.alloc (.cells #[.pointer none, .pointer none] 28) := ⟨_, rfl⟩
          obtain ⟨k11, hk⟩ : ∃ k, k = W3.heap.size := ⟨_, rfl⟩
          rw [← hW, ← hk] at R11 ⊢
          clear hW hk R3
          try simp only [Act.put, List.setIfInBounds_toArray, List.set_cons_zero, List.set_cons_succ]
          refine wpAnyJ_ready (rs := [10]) (by kernel_rfl) (by simp) ?_
          refine AllReadyJ.cons (o := { dst := some 165, op := Op.call { callee := Callee.builtin Builtin.append, args := #[Operand.tmp 163, Operand.tmp 164], argTypes := #[33, 33] }, type := 33, pos := "ids.go:217", after := #[{ on := 8, ground := Ground.data }, { on := 9, ground := Ground.data }, { on := 7, ground := Ground.chain }], guard := none }) rfl (fun K hK => ?_) AllReadyJ.nil
          refine step_append_fw _ rfl (.tmp 163) (.tmp 164) rfl w2.heap.size (.slice (some ⟨k3, 0, none⟩) 0 0) v2 [] fr (by simp [Act.eval]) (R11.out.own2) (by simp [Act.eval]) (FW2.out _ R11.out.1) (by simp; omega) R11.out.1.size ?_
          intro vB W12 x1 x2 x3
          have R12 := hide (R11.out.app2 x1 x2 x3)
          clear x1 x2 x3 R11
          refine hK.out _ _ (fun _ _ => CS.out _ R12.out.1) ?_
          clear hK K
          try simp only [Act.put, List.setIfInBounds_toArray, List.set_cons_zero, List.set_cons_succ]
          refine wpAnyJ_ready (rs := [11]) (by kernel_rfl) (by simp) ?_
          refine AllReadyJ.cons (o := { dst := some 166, op := Op.call { callee := Callee.value (Operand.func 23), args := #[Operand.tmp 159, Operand.tmp 162, Operand.tmp 165], argTypes := #[3, 33, 33] }, type := 64, pos := "ids.go:217", after := #[{ on := 4, ground := Ground.data }, { on := 7, ground := Ground.data }, { on := 10, ground := Ground.data }, { on := 10, ground := Ground.chain }], guard := none }) rfl (fun K hK => ?_) AllReadyJ.nil
          go_simp
          refine (JF.out _ _ _ (R12.out.2.2.2.2.1 vA rfl) (R12.out.2.2.2.2.2.1 vB rfl)).mono ?_
          rintro e W13 ⟨gp, gq, S, T, rfl, hb, hp, hd, hS, hT, hST⟩
          have R13 := hide (R12.out.later hb)
          have Q13 := hide (R12.out.made hp hd hS hT hST)
          clear hb hp hd hS hT hST R12
          first | refine hK.out _ _ (fun _ _ => CS.out _ R13.out.1) ?_ | (go_wp2_with fail; refine hK.out _ _ (fun _ _ => CS.out _ R13.out.1) ?_)
          clear hK K
          try simp only [Act.put, List.setIfInBounds_toArray, List.set_cons_zero, List.set_cons_succ]
          refine' wpAnyJ_takeW (i := 12) (oi := { dst := some 154, op := Op.move (Operand.tmp 166), type := 64, pos := "ids.go:217", after := #[{ on := 11, ground := Ground.data }], guard := none }) (v := _) rfl (by kernel_rfl) (by kernel_rfl) (by kernel_rfl) (fun _ _ _ h => h) (Or.inl ⟨by rfl, ?hyA16⟩) ?reA16
          case hyA16 => (intro W hSw; (try dsimp only at hSw); go_simp; try with_reducible rfl)
          try simp only [Act.put, List.setIfInBounds_toArray, List.set_cons_zero, List.set_cons_succ]
          refine' wpAnyJ_takeW (i := 13) (oi := { dst := some 167, op := Op.extract (Operand.tmp 154) 0, type := 28, pos := "ids.go:217", after := #[{ on := 12, ground := Ground.data }], guard := none }) (v := _) rfl (by kernel_rfl) (by kernel_rfl) (by kernel_rfl) (fun _ _ _ h => h) (Or.inl ⟨by rfl, ?hyA17⟩) ?reA17
          case hyA17 => (intro W hSw; (try dsimp only at hSw); go_simp; try with_reducible rfl)
          try simp only [Act.put, List.setIfInBounds_toArray, List.set_cons_zero, List.set_cons_succ]
          refine' wpAnyJ_takeW (i := 14) (oi := { dst := some 168, op := Op.extract (Operand.tmp 154) 1, type := 4, pos := "ids.go:217", after := #[{ on := 12, ground := Ground.data }, { on := 16, ground := Ground.gcOnly Departure.lateStores }], guard := none }) (v := _) rfl (by kernel_rfl) (by kernel_rfl) (by kernel_rfl) (fun _ _ _ h => h) (Or.inl ⟨by rfl, ?hyA18⟩) ?reA18
          case hyA18 => (intro W hSw; (try dsimp only at hSw); go_simp; try with_reducible rfl)
          try simp only [Act.put, List.setIfInBounds_toArray, List.set_cons_zero, List.set_cons_succ]
          refine wpAnyJ_ready (rs := [16]) (by kernel_rfl) (by simp) ?_
          refine AllReadyJ.cons (o := { dst := none, op := Op.store 28 (Operand.tmp 18) (Operand.tmp 167), type := 0, pos := "ids.go:217", after := #[{ on := 15, ground := Ground.data }, { on := 13, ground := Ground.data }, { on := 11, ground := Ground.chain }, { on := 0, ground := Ground.phase }, { on := 1, ground := Ground.phase }, { on := 2, ground := Ground.phase }, { on := 3, ground := Ground.phase }, { on := 4, ground := Ground.phase }, { on := 5, ground := Ground.phase }, { on := 6, ground := Ground.phase }, { on := 7, ground := Ground.phase }, { on := 8, ground := Ground.phase }, { on := 9, ground := Ground.phase }, { on := 10, ground := Ground.phase }, { on := 11, ground := Ground.phase }, { on := 12, ground := Ground.phase }, { on := 13, ground := Ground.phase }, { on := 14, ground := Ground.textOnly Departure.lateStores }, { on := 15, ground := Ground.phase }], guard := none }) rfl (fun K hK => ?_) AllReadyJ.nil
          obtain ⟨b0, b1, f0, f1⟩ := row2' (R13.out.2.2.2.1 k11 rfl).2
          go_simp
          refine hK.out _ _ (fun h => absurd h (by decide)) ?_
          clear hK K
          try simp only [Act.put, List.setIfInBounds_toArray, List.set_cons_zero, List.set_cons_succ]
          refine' wpAnyJ_takeW (i := 17) (oi := { dst := some 19, op := Op.assign (Operand.tmp 168), type := 4, pos := "ids.go:217", after := #[{ on := 14, ground := Ground.data }, { on := 16, ground := Ground.chain }, { on := 0, ground := Ground.phase }, { on := 1, ground := Ground.phase }, { on := 2, ground := Ground.phase }, { on := 3, ground := Ground.phase }, { on := 4, ground := Ground.phase }, { on := 5, ground := Ground.phase }, { on := 6, ground := Ground.phase }, { on := 7, ground := Ground.phase }, { on := 8, ground := Ground.phase }, { on := 9, ground := Ground.phase }, { on := 10, ground := Ground.phase }, { on := 11, ground := Ground.phase }, { on := 12, ground := Ground.phase }, { on := 13, ground := Ground.phase }, { on := 14, ground := Ground.phase }, { on := 15, ground := Ground.phase }, { on := 16, ground := Ground.phase }], guard := none }) (v := _) rfl (by kernel_rfl) (by kernel_rfl) (by kernel_rfl) (fun _ _ _ h => h) (Or.inl ⟨by rfl, ?hyA19⟩) ?reA19
          case hyA19 => (intro W hSw; (try dsimp only at hSw); go_simp; try with_reducible rfl)
          try simp only [Act.put, List.setIfInBounds_toArray, List.set_cons_zero, List.set_cons_succ]
          refine wpAnyJ_done (by kernel_rfl) ?_ _
          refine NoPanic.normal ?_
          have F9 := hide (Q13.out.fin R13.out)
          refine hKK _ _ (Met.intro (hJJ _ _ ?_))
          repeat apply Exists.intro
          refine ⟨?_, rfl⟩
          exact ⟨k11, gp, gq, rfl, rfl, F9⟩
        refine AllReadyJ.cons (o := { dst := some 18, op := Op.alloc 28, type := 0, pos := "ids.go:217", after := #[], guard := none }) rfl (fun K hK => ?_) AllReadyJ.nil
        go_simp
        refine hK.out _ _ (fun _ _ => CS.out _ (R2.out.al3).1) ?_
        clear hK K
        have R15 := hide R2.out.al3
        obtain ⟨W15, hW⟩ : ∃ X, X = W2.alloc (.cells #[.pointer none, .pointer none] 28) := ⟨_, rfl⟩
        obtain ⟨k15, hk⟩ : ∃ k, k = W2.heap.size := ⟨_, rfl⟩
        rw [← hW, ← hk] at R15 ⊢
        clear hW hk R2
        try simp only [Act.put, List.setIfInBounds_toArray, List.set_cons_zero, List.set_cons_succ]
        refine wpAnyJ_ready (rs := [8]) (by kernel_rfl) (by simp) ?_
        refine AllReadyJ.cons (o := { dst := some 163, op := Op.buildSlice 33 0 #[], type := 33, pos := "ids.go:217", after := #[], guard := none }) rfl (fun K hK => ?_) AllReadyJ.nil
        go_simp
        refine hK.out _ _ (fun _ _ => CS.out _ (R15.out.al2).1) ?_
        clear hK K
        have R16 := hide R15.out.al2
        obtain ⟨W16, hW⟩ : ∃ X, X = W15.alloc (.cells #[] 3) := ⟨_, rfl⟩
        obtain ⟨k16, hk⟩ : ∃ k, k = W15.heap.size := ⟨_, rfl⟩
        rw [← hW, ← hk] at R16 ⊢
        clear hW hk R15
        try simp only [Act.put, List.setIfInBounds_toArray, List.set_cons_zero, List.set_cons_succ]
        refine wpAnyJ_ready (rs := [10]) (by kernel_rfl) (by simp) ?_
        refine AllReadyJ.cons (o := { dst := some 165, op := Op.call { callee := Callee.builtin Builtin.append, args := #[Operand.tmp 163, Operand.tmp 164], argTypes := #[33, 33] }, type := 33, pos := "ids.go:217", after := #[{ on := 8, ground := Ground.data }, { on := 9, ground := Ground.data }, { on := 7, ground := Ground.chain }], guard := none }) rfl (fun K hK => ?_) AllReadyJ.nil
        refine step_append_fw _ rfl (.tmp 163) (.tmp 164) rfl w2.heap.size (.slice (some ⟨k16, 0, none⟩) 0 0) v2 [] fr (by simp [Act.eval]) (R16.out.own2) (by simp [Act.eval]) (FW2.out _ R16.out.1) (by simp; omega) R16.out.1.size ?_
        intro vB W17 x1 x2 x3
        have R17 := hide (R16.out.app2 x1 x2 x3)
        clear x1 x2 x3 R16
        refine hK.out _ _ (fun _ _ => CS.out _ R17.out.1) ?_
        clear hK K
        try simp only [Act.put, List.setIfInBounds_toArray, List.set_cons_zero, List.set_cons_succ]
        refine wpAnyJ_ready (rs := [11]) (by kernel_rfl) (by simp) ?_
        refine AllReadyJ.cons (o := { dst := some 166, op := Op.call { callee := Callee.value (Operand.func 23), args := #[Operand.tmp 159, Operand.tmp 162, Operand.tmp 165], argTypes := #[3, 33, 33] }, type := 64, pos := "ids.go:217", after := #[{ on := 4, ground := Ground.data }, { on := 7, ground := Ground.data }, { on := 10, ground := Ground.data }, { on := 10, ground := Ground.chain }], guard := none }) rfl (fun K hK => ?_) AllReadyJ.nil
        go_simp
        refine (JF.out _ _ _ (R17.out.2.2.2.2.1 vA rfl) (R17.out.2.2.2.2.2.1 vB rfl)).mono ?_
        rintro e W18 ⟨gp, gq, S, T, rfl, hb, hp, hd, hS, hT, hST⟩
        have R18 := hide (R17.out.later hb)
        have Q18 := hide (R17.out.made hp hd hS hT hST)
        clear hb hp hd hS hT hST R17
        first | refine hK.out _ _ (fun _ _ => CS.out _ R18.out.1) ?_ | (go_wp2_with fail; refine hK.out _ _ (fun _ _ => CS.out _ R18.out.1) ?_)
        clear hK K
        try simp only [Act.put, List.setIfInBounds_toArray, List.set_cons_zero, List.set_cons_succ]
        refine' wpAnyJ_takeW (i := 12) (oi := { dst := some 154, op := Op.move (Operand.tmp 166), type := 64, pos := "ids.go:217", after := #[{ on := 11, ground := Ground.data }], guard := none }) (v := _) rfl (by kernel_rfl) (by kernel_rfl) (by kernel_rfl) (fun _ _ _ h => h) (Or.inl ⟨by rfl, ?hyA20⟩) ?reA20
        case hyA20 => (intro W hSw; (try dsimp only at hSw); go_simp; try with_reducible rfl)
        try simp only [Act.put, List.setIfInBounds_toArray, List.set_cons_zero, List.set_cons_succ]
        refine' wpAnyJ_takeW (i := 13) (oi := { dst := some 167, op := Op.extract (Operand.tmp 154) 0, type := 28, pos := "ids.go:217", after := #[{ on := 12, ground := Ground.data }], guard := none }) (v := _) rfl (by kernel_rfl) (by kernel_rfl) (by kernel_rfl) (fun _ _ _ h => h) (Or.inl ⟨by rfl, ?hyA21⟩) ?reA21
        case hyA21 => (intro W hSw; (try dsimp only at hSw); go_simp; try with_reducible rfl)
        try simp only [Act.put, List.setIfInBounds_toArray, List.set_cons_zero, List.set_cons_succ]
        refine' wpAnyJ_takeW (i := 14) (oi := { dst := some 168, op := Op.extract (Operand.tmp 154) 1, type := 4, pos := "ids.go:217", after := #[{ on := 12, ground := Ground.data }, { on := 16, ground := Ground.gcOnly Departure.lateStores }], guard := none }) (v := _) rfl (by kernel_rfl) (by kernel_rfl) (by kernel_rfl) (fun _ _ _ h => h) (Or.inl ⟨by rfl, ?hyA22⟩) ?reA22
        case hyA22 => (intro W hSw; (try dsimp only at hSw); go_simp; try with_reducible rfl)
        try simp only [Act.put, List.setIfInBounds_toArray, List.set_cons_zero, List.set_cons_succ]
        refine wpAnyJ_ready (rs := [16]) (by kernel_rfl) (by simp) ?_
        refine AllReadyJ.cons (o := { dst := none, op := Op.store 28 (Operand.tmp 18) (Operand.tmp 167), type := 0, pos := "ids.go:217", after := #[{ on := 15, ground := Ground.data }, { on := 13, ground := Ground.data }, { on := 11, ground := Ground.chain }, { on := 0, ground := Ground.phase }, { on := 1, ground := Ground.phase }, { on := 2, ground := Ground.phase }, { on := 3, ground := Ground.phase }, { on := 4, ground := Ground.phase }, { on := 5, ground := Ground.phase }, { on := 6, ground := Ground.phase }, { on := 7, ground := Ground.phase }, { on := 8, ground := Ground.phase }, { on := 9, ground := Ground.phase }, { on := 10, ground := Ground.phase }, { on := 11, ground := Ground.phase }, { on := 12, ground := Ground.phase }, { on := 13, ground := Ground.phase }, { on := 14, ground := Ground.textOnly Departure.lateStores }, { on := 15, ground := Ground.phase }], guard := none }) rfl (fun K hK => ?_) AllReadyJ.nil
        obtain ⟨b0, b1, f0, f1⟩ := row2' (R18.out.2.2.2.1 k15 rfl).2
        go_simp
        refine hK.out _ _ (fun h => absurd h (by decide)) ?_
        clear hK K
        try simp only [Act.put, List.setIfInBounds_toArray, List.set_cons_zero, List.set_cons_succ]
        refine' wpAnyJ_takeW (i := 17) (oi := { dst := some 19, op := Op.assign (Operand.tmp 168), type := 4, pos := "ids.go:217", after := #[{ on := 14, ground := Ground.data }, { on := 16, ground := Ground.chain }, { on := 0, ground := Ground.phase }, { on := 1, ground := Ground.phase }, { on := 2, ground := Ground.phase }, { on := 3, ground := Ground.phase }, { on := 4, ground := Ground.phase }, { on := 5, ground := Ground.phase }, { on := 6, ground := Ground.phase }, { on := 7, ground := Ground.phase }, { on := 8, ground := Ground.phase }, { on := 9, ground := Ground.phase }, { on := 10, ground := Ground.phase }, { on := 11, ground := Ground.phase }, { on := 12, ground := Ground.phase }, { on := 13, ground := Ground.phase }, { on := 14, ground := Ground.phase }, { on := 15, ground := Ground.phase }, { on := 16, ground := Ground.phase }], guard := none }) (v := _) rfl (by kernel_rfl) (by kernel_rfl) (by kernel_rfl) (fun _ _ _ h => h) (Or.inl ⟨by rfl, ?hyA23⟩) ?reA23
        case hyA23 => (intro W hSw; (try dsimp only at hSw); go_simp; try with_reducible rfl)
        try simp only [Act.put, List.setIfInBounds_toArray, List.set_cons_zero, List.set_cons_succ]
        refine wpAnyJ_done (by kernel_rfl) ?_ _
        refine NoPanic.normal ?_
        have F9 := hide (Q18.out.fin R18.out)
        refine hKK _ _ (Met.intro (hJJ _ _ ?_))
        repeat apply Exists.intro
        refine ⟨?_, rfl⟩
        exact ⟨k15, gp, gq, rfl, rfl, F9⟩
      refine AllReadyJ.cons (o := { dst := some 163, op := Op.buildSlice 33 0 #[], type := 33, pos := "ids.go:217", after := #[], guard := none }) rfl (fun K hK => ?_) ?_
      · go_simp
        refine hK.out _ _ (fun _ _ => CS.out _ (R1.out.al2).1) ?_
        clear hK K
        have R20 := hide R1.out.al2
        obtain ⟨W20, hW⟩ : ∃ X, X = W1.alloc (.cells #[] 3) := ⟨_, rfl⟩
        obtain ⟨k20, hk⟩ : ∃ k, k = W1.heap.size := ⟨_, rfl⟩
        rw [← hW, ← hk] at R20 ⊢
        clear hW hk R1
        try simp only [Act.put, List.setIfInBounds_toArray, List.set_cons_zero, List.set_cons_succ]
        refine wpAnyJ_ready (rs := [7, 15]) (by kernel_rfl) (by simp) ?_
        refine AllReadyJ.cons (o := { dst := some 162, op := Op.call { callee := Callee.builtin Builtin.append, args := #[Operand.tmp 160, Operand.tmp 161], argTypes := #[33, 33] }, type := 33, pos := "ids.go:217", after := #[{ on := 5, ground := Ground.data }, { on := 6, ground := Ground.data }], guard := none }) rfl (fun K hK => ?_) ?_
        · refine step_append_fw _ rfl (.tmp 160) (.tmp 161) rfl w2.heap.size (.slice (some ⟨k1, 0, none⟩) 0 0) v1 [] gs (by simp [Act.eval]) (R20.out.own1) (by simp [Act.eval]) (FW1.out _ R20.out.1) (by simp; omega) R20.out.1.size ?_
          intro vA W21 x1 x2 x3
          have R21 := hide (R20.out.app1 x1 x2 x3)
          clear x1 x2 x3 R20
          refine hK.out _ _ (fun _ _ => CS.out _ R21.out.1) ?_
          clear hK K
          try simp only [Act.put, List.setIfInBounds_toArray, List.set_cons_zero, List.set_cons_succ]
          refine wpAnyJ_ready (rs := [10, 15]) (by kernel_rfl) (by simp) ?_
          refine AllReadyJ.cons (o := { dst := some 165, op := Op.call { callee := Callee.builtin Builtin.append, args := #[Operand.tmp 163, Operand.tmp 164], argTypes := #[33, 33] }, type := 33, pos := "ids.go:217", after := #[{ on := 8, ground := Ground.data }, { on := 9, ground := Ground.data }, { on := 7, ground := Ground.chain }], guard := none }) rfl (fun K hK => ?_) ?_
          · refine step_append_fw _ rfl (.tmp 163) (.tmp 164) rfl w2.heap.size (.slice (some ⟨k20, 0, none⟩) 0 0) v2 [] fr (by simp [Act.eval]) (R21.out.own2) (by simp [Act.eval]) (FW2.out _ R21.out.1) (by simp; omega) R21.out.1.size ?_
            intro vB W22 x1 x2 x3
            have R22 := hide (R21.out.app2 x1 x2 x3)
            clear x1 x2 x3 R21
            refine hK.out _ _ (fun _ _ => CS.out _ R22.out.1) ?_
            clear hK K
            try simp only [Act.put, List.setIfInBounds_toArray, List.set_cons_zero, List.set_cons_succ]
            refine wpAnyJ_ready (rs := [11, 15]) (by kernel_rfl) (by simp) ?_
            refine AllReadyJ.cons (o := { dst := some 166, op := Op.call { callee := Callee.value (Operand.func 23), args := #[Operand.tmp 159, Operand.tmp 162, Operand.tmp 165], argTypes := #[3, 33, 33] }, type := 64, pos := "ids.go:217", after := #[{ on := 4, ground := Ground.data }, { on := 7, ground := Ground.data }, { on := 10, ground := Ground.data }, { on := 10, ground := Ground.chain }], guard := none }) rfl (fun K hK => ?_) ?_
            · go_simp
              refine (JF.out _ _ _ (R22.out.2.2.2.2.1 vA rfl) (R22.out.2.2.2.2.2.1 vB rfl)).mono ?_
              rintro e W23 ⟨gp, gq, S, T, rfl, hb, hp, hd, hS, hT, hST⟩
              have R23 := hide (R22.out.later hb)
              have Q23 := hide (R22.out.made hp hd hS hT hST)
              clear hb hp hd hS hT hST R22
              first | refine hK.out _ _ (fun _ _ => CS.out _ R23.out.1) ?_ | (go_wp2_with fail; refine hK.out _ _ (fun _ _ => CS.out _ R23.out.1) ?_)
              clear hK K
              try simp only [Act.put, List.setIfInBounds_toArray, List.set_cons_zero, List.set_cons_succ]
              refine' wpAnyJ_takeW (i := 12) (oi := { dst := some 154, op := Op.move (Operand.tmp 166), type := 64, pos := "ids.go:217", after := #[{ on := 11, ground := Ground.data }], guard := none }) (v := _) rfl (by kernel_rfl) (by kernel_rfl) (by kernel_rfl) (fun _ _ _ h => h) (Or.inl ⟨by rfl, ?hyA24⟩) ?reA24
              case hyA24 => (intro W hSw; (try dsimp only at hSw); go_simp; try with_reducible rfl)
              try simp only [Act.put, List.setIfInBounds_toArray, List.set_cons_zero, List.set_cons_succ]
              refine' wpAnyJ_takeW (i := 13) (oi := { dst := some 167, op := Op.extract (Operand.tmp 154) 0, type := 28, pos := "ids.go:217", after := #[{ on := 12, ground := Ground.data }], guard := none }) (v := _) rfl (by kernel_rfl) (by kernel_rfl) (by kernel_rfl) (fun _ _ _ h => h) (Or.inl ⟨by rfl, ?hyA25⟩) ?reA25
              case hyA25 => (intro W hSw; (try dsimp only at hSw); go_simp; try with_reducible rfl)
              try simp only [Act.put, List.setIfInBounds_toArray, List.set_cons_zero, List.set_cons_succ]
              refine' wpAnyJ_takeW (i := 14) (oi := { dst := some 168, op := Op.extract (Operand.tmp 154) 1, type := 4, pos := "ids.go:217", after := #[{ on := 12, ground := Ground.data }, { on := 16, ground := Ground.gcOnly Departure.lateStores }], guard := none }) (v := _) rfl (by kernel_rfl) (by kernel_rfl) (by kernel_rfl) (fun _ _ _ h => h) (Or.inl ⟨by rfl, ?hyA26⟩) ?reA26
              case hyA26 => (intro W hSw; (try dsimp only at hSw); go_simp; try with_reducible rfl)
              try simp only [Act.put, List.setIfInBounds_toArray, List.set_cons_zero, List.set_cons_succ]
              refine wpAnyJ_ready (rs := [15]) (by kernel_rfl) (by simp) ?_
              refine AllReadyJ.cons (o := { dst := some 18, op := Op.alloc 28, type := 0, pos := "ids.go:217", after := #[], guard := none }) rfl (fun K hK => ?_) AllReadyJ.nil
              go_simp
              refine hK.out _ _ (fun _ _ => CS.out _ (R23.out.al3).1) ?_
              clear hK K
              have R24 := hide R23.out.al3
              have Q24 := hide Q23.out.al3
              obtain ⟨W24, hW⟩ : ∃ X, X = W23.alloc (.cells #[.pointer none, .pointer none] 28) := ⟨_, rfl⟩
              obtain ⟨k24, hk⟩ : ∃ k, k = W23.heap.size := ⟨_, rfl⟩
              rw [← hW, ← hk] at R24 Q24 ⊢
              clear hW hk R23 Q23
              try simp only [Act.put, List.setIfInBounds_toArray, List.set_cons_zero, List.set_cons_succ]
              refine wpAnyJ_ready (rs := [16]) (by kernel_rfl) (by simp) ?_
              refine AllReadyJ.cons (o := { dst := none, op := Op.store 28 (Operand.tmp 18) (Operand.tmp 167), type := 0, pos := "ids.go:217", after := #[{ on := 15, ground := Ground.data }, { on := 13, ground := Ground.data }, { on := 11, ground := Ground.chain }, { on := 0, ground := Ground.phase }, { on := 1, ground := Ground.phase }, { on := 2, ground := Ground.phase }, { on := 3, ground := Ground.phase }, { on := 4, ground := Ground.phase }, { on := 5, ground := Ground.phase }, { on := 6, ground := Ground.phase }, { on := 7, ground := Ground.phase }, { on := 8, ground := Ground.phase }, { on := 9, ground := Ground.phase }, { on := 10, ground := Ground.phase }, { on := 11, ground := Ground.phase }, { on := 12, ground := Ground.phase }, { on := 13, ground := Ground.phase }, { on := 14, ground := Ground.textOnly Departure.lateStores }, { on := 15, ground := Ground.phase }], guard := none }) rfl (fun K hK => ?_) AllReadyJ.nil
              obtain ⟨b0, b1, f0, f1⟩ := row2' (R24.out.2.2.2.1 k24 rfl).2
              go_simp
              refine hK.out _ _ (fun h => absurd h (by decide)) ?_
              clear hK K
              try simp only [Act.put, List.setIfInBounds_toArray, List.set_cons_zero, List.set_cons_succ]
              refine' wpAnyJ_takeW (i := 17) (oi := { dst := some 19, op := Op.assign (Operand.tmp 168), type := 4, pos := "ids.go:217", after := #[{ on := 14, ground := Ground.data }, { on := 16, ground := Ground.chain }, { on := 0, ground := Ground.phase }, { on := 1, ground := Ground.phase }, { on := 2, ground := Ground.phase }, { on := 3, ground := Ground.phase }, { on := 4, ground := Ground.phase }, { on := 5, ground := Ground.phase }, { on := 6, ground := Ground.phase }, { on := 7, ground := Ground.phase }, { on := 8, ground := Ground.phase }, { on := 9, ground := Ground.phase }, { on := 10, ground := Ground.phase }, { on := 11, ground := Ground.phase }, { on := 12, ground := Ground.phase }, { on := 13, ground := Ground.phase }, { on := 14, ground := Ground.phase }, { on := 15, ground := Ground.phase }, { on := 16, ground := Ground.phase }], guard := none }) (v := _) rfl (by kernel_rfl) (by kernel_rfl) (by kernel_rfl) (fun _ _ _ h => h) (Or.inl ⟨by rfl, ?hyA27⟩) ?reA27
              case hyA27 => (intro W hSw; (try dsimp only at hSw); go_simp; try with_reducible rfl)
              try simp only [Act.put, List.setIfInBounds_toArray, List.set_cons_zero, List.set_cons_succ]
              refine wpAnyJ_done (by kernel_rfl) ?_ _
              refine NoPanic.normal ?_
              have F9 := hide (Q24.out.fin R24.out)
              refine hKK _ _ (Met.intro (hJJ _ _ ?_))
              repeat apply Exists.intro
              refine ⟨?_, rfl⟩
              exact ⟨k24, gp, gq, rfl, rfl, F9⟩
            refine AllReadyJ.cons (o := { dst := some 18, op := Op.alloc 28, type := 0, pos := "ids.go:217", after := #[], guard := none }) rfl (fun K hK => ?_) AllReadyJ.nil
            go_simp
            refine hK.out _ _ (fun _ _ => CS.out _ (R22.out.al3).1) ?_
            clear hK K
            have R26 := hide R22.out.al3
            obtain ⟨W26, hW⟩ : ∃ X, X = W22.alloc (.cells #[.pointer none, .pointer none] 28) := ⟨_, rfl⟩
            obtain ⟨k26, hk⟩ : ∃ k, k = W22.heap.size := ⟨_, rfl⟩
            rw [← hW, ← hk] at R26 ⊢
            clear hW hk R22
            try simp only [Act.put, List.setIfInBounds_toArray, List.set_cons_zero, List.set_cons_succ]
            refine wpAnyJ_ready (rs := [11]) (by kernel_rfl) (by simp) ?_
            refine AllReadyJ.cons (o := { dst := some 166, op := Op.call { callee := Callee.value (Operand.func 23), args := #[Operand.tmp 159, Operand.tmp 162, Operand.tmp 165], argTypes := #[3, 33, 33] }, type := 64, pos := "ids.go:217", after := #[{ on := 4, ground := Ground.data }, { on := 7, ground := Ground.data }, { on := 10, ground := Ground.data }, { on := 10, ground := Ground.chain }], guard := none }) rfl (fun K hK => ?_) AllReadyJ.nil
            go_simp
            refine (JF.out _ _ _ (R26.out.2.2.2.2.1 vA rfl) (R26.out.2.2.2.2.2.1 vB rfl)).mono ?_
            rintro e W27 ⟨gp, gq, S, T, rfl, hb, hp, hd, hS, hT, hST⟩
            have R27 := hide (R26.out.later hb)
            have Q27 := hide (R26.out.made hp hd hS hT hST)
            clear hb hp hd hS hT hST R26
            first | refine hK.out _ _ (fun _ _ => CS.out _ R27.out.1) ?_ | (go_wp2_with fail; refine hK.out _ _ (fun _ _ => CS.out _ R27.out.1) ?_)
            clear hK K
            try simp only [Act.put, List.setIfInBounds_toArray, List.set_cons_zero, List.set_cons_succ]
            refine' wpAnyJ_takeW (i := 12) (oi := { dst := some 154, op := Op.move (Operand.tmp 166), type := 64, pos := "ids.go:217", after := #[{ on := 11, ground := Ground.data }], guard := none }) (v := _) rfl (by kernel_rfl) (by kernel_rfl) (by kernel_rfl) (fun _ _ _ h => h) (Or.inl ⟨by rfl, ?hyA28⟩) ?reA28
            case hyA28 => (intro W hSw; (try dsimp only at hSw); go_simp; try with_reducible rfl)
            try simp only [Act.put, List.setIfInBounds_toArray, List.set_cons_zero, List.set_cons_succ]
            refine' wpAnyJ_takeW (i := 13) (oi := { dst := some 167, op := Op.extract (Operand.tmp 154) 0, type := 28, pos := "ids.go:217", after := #[{ on := 12, ground := Ground.data }], guard := none }) (v := _) rfl (by kernel_rfl) (by kernel_rfl) (by kernel_rfl) (fun _ _ _ h => h) (Or.inl ⟨by rfl, ?hyA29⟩) ?reA29
            case hyA29 => (intro W hSw; (try dsimp only at hSw); go_simp; try with_reducible rfl)
            try simp only [Act.put, List.setIfInBounds_toArray, List.set_cons_zero, List.set_cons_succ]
            refine' wpAnyJ_takeW (i := 14) (oi := { dst := some 168, op := Op.extract (Operand.tmp 154) 1, type := 4, pos := "ids.go:217", after := #[{ on := 12, ground := Ground.data }, { on := 16, ground := Ground.gcOnly Departure.lateStores }], guard := none }) (v := _) rfl (by kernel_rfl) (by kernel_rfl) (by kernel_rfl) (fun _ _ _ h => h) (Or.inl ⟨by rfl, ?hyA30⟩) ?reA30
            case hyA30 => (intro W hSw; (try dsimp only at hSw); go_simp; try with_reducible rfl)
            try simp only [Act.put, List.setIfInBounds_toArray, List.set_cons_zero, List.set_cons_succ]
            refine wpAnyJ_ready (rs := [16]) (by kernel_rfl) (by simp) ?_
            refine AllReadyJ.cons (o := { dst := none, op := Op.store 28 (Operand.tmp 18) (Operand.tmp 167), type := 0, pos := "ids.go:217", after := #[{ on := 15, ground := Ground.data }, { on := 13, ground := Ground.data }, { on := 11, ground := Ground.chain }, { on := 0, ground := Ground.phase }, { on := 1, ground := Ground.phase }, { on := 2, ground := Ground.phase }, { on := 3, ground := Ground.phase }, { on := 4, ground := Ground.phase }, { on := 5, ground := Ground.phase }, { on := 6, ground := Ground.phase }, { on := 7, ground := Ground.phase }, { on := 8, ground := Ground.phase }, { on := 9, ground := Ground.phase }, { on := 10, ground := Ground.phase }, { on := 11, ground := Ground.phase }, { on := 12, ground := Ground.phase }, { on := 13, ground := Ground.phase }, { on := 14, ground := Ground.textOnly Departure.lateStores }, { on := 15, ground := Ground.phase }], guard := none }) rfl (fun K hK => ?_) AllReadyJ.nil
            obtain ⟨b0, b1, f0, f1⟩ := row2' (R27.out.2.2.2.1 k26 rfl).2
            go_simp
            refine hK.out _ _ (fun h => absurd h (by decide)) ?_
            clear hK K
            try simp only [Act.put, List.setIfInBounds_toArray, List.set_cons_zero, List.set_cons_succ]
            refine' wpAnyJ_takeW (i := 17) (oi := { dst := some 19, op := Op.assign (Operand.tmp 168), type := 4, pos := "ids.go:217", after := #[{ on := 14, ground := Ground.data }, { on := 16, ground := Ground.chain }, { on := 0, ground := Ground.phase }, { on := 1, ground := Ground.phase }, { on := 2, ground := Ground.phase }, { on := 3, ground := Ground.phase }, { on := 4, ground := Ground.phase }, { on := 5, ground := Ground.phase }, { on := 6, ground := Ground.phase }, { on := 7, ground := Ground.phase }, { on := 8, ground := Ground.phase }, { on := 9, ground := Ground.phase }, { on := 10, ground := Ground.phase }, { on := 11, ground := Ground.phase }, { on := 12, ground := Ground.phase }, { on := 13, ground := Ground.phase }, { on := 14, ground := Ground.phase }, { on := 15, ground := Ground.phase }, { on := 16, ground := Ground.phase }], guard := none }) (v := _) rfl (by kernel_rfl) (by kernel_rfl) (by kernel_rfl) (fun _ _ _ h => h) (Or.inl ⟨by rfl, ?hyA31⟩) ?reA31
            case hyA31 => (intro W hSw; (try dsimp only at hSw); go_simp; try with_reducible rfl)
            try simp only [Act.put, List.setIfInBounds_toArray, List.set_cons_zero, List.set_cons_succ]
            refine wpAnyJ_done (by kernel_rfl) ?_ _
            refine NoPanic.normal ?_
            have F9 := hide (Q27.out.fin R27.out)
            refine hKK _ _ (Met.intro (hJJ _ _ ?_))
            repeat apply Exists.intro
            refine ⟨?_, rfl⟩
            exact ⟨k26, gp, gq, rfl, rfl, F9⟩
          refine AllReadyJ.cons (o := { dst := some 18, op := Op.alloc 28, type := 0, pos := "ids.go:217", after := #[], guard := none }) rfl (fun K hK => ?_) AllReadyJ.nil
          go_simp
          refine hK.out _ _ (fun _ _ => CS.out _ (R21.out.al3).1) ?_
          clear hK K
          have R29 := hide R21.out.al3
          obtain ⟨W29, hW⟩ : ∃ X, X = W21.alloc (.cells #[.pointer none, .pointer none] 28) := ⟨_, rfl⟩
          obtain ⟨k29, hk⟩ : ∃ k, k = W21.heap.size := ⟨_, rfl⟩
          rw [← hW, ← hk] at R29 ⊢
          clear hW hk R21
          try simp only [Act.put, List.setIfInBounds_toArray, List.set_cons_zero, List.set_cons_succ]
          refine wpAnyJ_ready (rs := [10]) (by kernel_rfl) (by simp) ?_
          refine AllReadyJ.cons (o := { dst := some 165, op := Op.call { callee := Callee.builtin Builtin.append, args := #[Operand.tmp 163, Operand.tmp 164], argTypes := #[33, 33] }, type := 33, pos := "ids.go:217", after := #[{ on := 8, ground := Ground.data }, { on := 9, ground := Ground.data }, { on := 7, ground := Ground.chain }], guard := none }) rfl (fun K hK => ?_) AllReadyJ.nil
          refine step_append_fw _ rfl (.tmp 163) (.tmp 164) rfl w2.heap.size (.slice (some ⟨k20, 0, none⟩) 0 0) v2 [] fr (by simp [Act.eval]) (R29.out.own2) (by simp [Act.eval]) (FW2.out _ R29.out.1) (by simp; omega) R29.out.1.size ?_
          intro vB W30 x1 x2 x3
          have R30 := hide (R29.out.app2 x1 x2 x3)
          clear x1 x2 x3 R29
          refine hK.out _ _ (fun _ _ => CS.out _ R30.out.1) ?_
          clear hK K
          try simp only [Act.put, List.setIfInBounds_toArray, List.set_cons_zero, List.set_cons_succ]
          refine wpAnyJ_ready (rs := [11]) (by kernel_rfl) (by simp) ?_
          refine AllReadyJ.cons (o := { dst := some 166, op := Op.call { callee := Callee.value (Operand.func 23), args := #[Operand.tmp 159, Operand.tmp 162, Operand.tmp 165], argTypes := #[3, 33, 33] }, type := 64, pos := "ids.go:217", after := #[{ on := 4, ground := Ground.data }, { on := 7, ground := Ground.data }, { on := 10, ground := Ground.data }, { on := 10, ground := Ground.chain }], guard := none }) rfl (fun K hK => ?_) AllReadyJ.nil
          go_simp
          refine (JF.out _ _ _ (R30.out.2.2.2.2.1 vA rfl) (R30.out.2.2.2.2.2.1 vB rfl)).mono ?_
          rintro e W31 ⟨gp, gq, S, T, rfl, hb, hp, hd, hS, hT, hST⟩
          have R31 := hide (R30.out.later hb)
          have Q31 := hide (R30.out.made hp hd hS hT hST)
          clear hb hp hd hS hT hST R30
          first | refine hK.out _ _ (fun _ _ => CS.out _ R31.out.1) ?_ | (go_wp2_with fail; refine hK.out _ _ (fun _ _ => CS.out _ R31.out.1) ?_)
          clear hK K
          try simp only [Act.put, List.setIfInBounds_toArray, List.set_cons_zero, List.set_cons_succ]
          refine' wpAnyJ_takeW (i := 12) (oi := { dst := some 154, op := Op.move (Operand.tmp 166), type := 64, pos := "ids.go:217", after := #[{ on := 11, ground := Ground.data }], guard := none }) (v := _) rfl (by kernel_rfl) (by kernel_rfl) (by kernel_rfl) (fun _ _ _ h => h) (Or.inl ⟨by rfl, ?hyA32⟩) ?reA32
          case hyA32 => (intro W hSw; (try dsimp only at hSw); go_simp; try with_reducible rfl)
          try simp only [Act.put, List.setIfInBounds_toArray, List.set_cons_zero, List.set_cons_succ]
          refine' wpAnyJ_takeW (i := 13) (oi := { dst := some 167, op := Op.extract (Operand.tmp 154) 0, type := 28, pos := "ids.go:217", after := #[{ on := 12, ground := Ground.data }], guard := none }) (v := _) rfl (by kernel_rfl) (by kernel_rfl) (by kernel_rfl) (fun _ _ _ h => h) (Or.inl ⟨by rfl, ?hyA33⟩) ?reA33
          case hyA33 => (intro W hSw; (try dsimp only at hSw); go_simp; try with_reducible rfl)
          try simp only [Act.put, List.setIfInBounds_toArray, List.set_cons_zero, List.set_cons_succ]
          refine' wpAnyJ_takeW (i := 14) (oi := { dst := some 168, op := Op.extract (Operand.tmp 154) 1, type := 4, pos := "ids.go:217", after := #[{ on := 12, ground := Ground.data }, { on := 16, ground := Ground.gcOnly Departure.lateStores }], guard := none }) (v := _) rfl (by kernel_rfl) (by kernel_rfl) (by kernel_rfl) (fun _ _ _ h => h) (Or.inl ⟨by rfl, ?hyA34⟩) ?reA34
          case hyA34 => (intro W hSw; (try dsimp only at hSw); go_simp; try with_reducible rfl)
          try simp only [Act.put, List.setIfInBounds_toArray, List.set_cons_zero, List.set_cons_succ]
          refine wpAnyJ_ready (rs := [16]) (by kernel_rfl) (by simp) ?_
          refine AllReadyJ.cons (o := { dst := none, op := Op.store 28 (Operand.tmp 18) (Operand.tmp 167), type := 0, pos := "ids.go:217", after := #[{ on := 15, ground := Ground.data }, { on := 13, ground := Ground.data }, { on := 11, ground := Ground.chain }, { on := 0, ground := Ground.phase }, { on := 1, ground := Ground.phase }, { on := 2, ground := Ground.phase }, { on := 3, ground := Ground.phase }, { on := 4, ground := Ground.phase }, { on := 5, ground := Ground.phase }, { on := 6, ground := Ground.phase }, { on := 7, ground := Ground.phase }, { on := 8, ground := Ground.phase }, { on := 9, ground := Ground.phase }, { on := 10, ground := Ground.phase }, { on := 11, ground := Ground.phase }, { on := 12, ground := Ground.phase }, { on := 13, ground := Ground.phase }, { on := 14, ground := Ground.textOnly Departure.lateStores }, { on := 15, ground := Ground.phase }], guard := none }) rfl (fun K hK => ?_) AllReadyJ.nil
          obtain ⟨b0, b1, f0, f1⟩ := row2' (R31.out.2.2.2.1 k29 rfl).2
          go_simp
          refine hK.out _ _ (fun h => absurd h (by decide)) ?_
          clear hK K
          try simp only [Act.put, List.setIfInBounds_toArray, List.set_cons_zero, List.set_cons_succ]
          refine' wpAnyJ_takeW (i := 17) (oi := { dst := some 19, op := Op.assign (Operand.tmp 168), type := 4, pos := "ids.go:217", after := #[{ on := 14, ground := Ground.data }, { on := 16, ground := Ground.chain }, { on := 0, ground := Ground.phase }, { on := 1, ground := Ground.phase }, { on := 2, ground := Ground.phase }, { on := 3, ground := Ground.phase }, { on := 4, ground := Ground.phase }, { on := 5, ground := Ground.phase }, { on := 6, ground := Ground.phase }, { on := 7, ground := Ground.phase }, { on := 8, ground := Ground.phase }, { on := 9, ground := Ground.phase }, { on := 10, ground := Ground.phase }, { on := 11, ground := Ground.phase }, { on := 12, ground := Ground.phase }, { on := 13, ground := Ground.phase }, { on := 14, ground := Ground.phase }, { on := 15, ground := Ground.phase }, { on := 16, ground := Ground.phase }], guard := none }) (v := _) rfl (by kernel_rfl) (by kernel_rfl) (by kernel_rfl) (fun _ _ _ h => h) (Or.inl ⟨by rfl, ?hyA35⟩) ?reA35
          case hyA35 => (intro W hSw; (try dsimp only at hSw); go_simp; try with_reducible rfl)
          try simp only [Act.put, List.setIfInBounds_toArray, List.set_cons_zero, List.set_cons_succ]
          refine wpAnyJ_done (by kernel_rfl) ?_ _
          refine NoPanic.normal ?_
          have F9 := hide (Q31.out.fin R31.out)
          refine hKK _ _ (Met.intro (hJJ _ _ ?_))
          repeat apply Exists.intro
          refine ⟨?_, rfl⟩
          exact ⟨k29, gp, gq, rfl, rfl, F9⟩
        refine AllReadyJ.cons (o := { dst := some 18, op := Op.alloc 28, type := 0, pos := "ids.go:217", after := #[], guard := none }) rfl (fun K hK => ?_) AllReadyJ.nil
        go_simp
        refine hK.out _ _ (fun _ _ => CS.out _ (R20.out.al3).1) ?_
        clear hK K
        have R33 := hide R20.out.al3
        obtain ⟨W33, hW⟩ : ∃ X, X = W20.alloc (.cells #[.pointer none, .pointer none] 28) := ⟨_, rfl⟩
        obtain ⟨k33, hk⟩ : ∃ k, k = W20.heap.size := ⟨_, rfl⟩
        rw [← hW, ← hk] at R33 ⊢
        clear hW hk R20
        try simp only [Act.put, List.setIfInBounds_toArray, List.set_cons_zero, List.set_cons_succ]
        refine wpAnyJ_ready (rs := [7]) (by kernel_rfl) (by simp) ?_
        refine AllReadyJ.cons (o := { dst := some 162, op := Op.call { callee := Callee.builtin Builtin.append, args := #[Operand.tmp 160, Operand.tmp 161], argTypes := #[33, 33] }, type := 33, pos := "ids.go:217", after := #[{ on := 5, ground := Ground.data }, { on := 6, ground := Ground.data }], guard := none }) rfl (fun K hK => ?_) AllReadyJ.nil
        refine step_append_fw _ rfl (.tmp 160) (.tmp 161) rfl w2.heap.size (.slice (some ⟨k1, 0, none⟩) 0 0) v1 [] gs (by simp [Act.eval]) (R33.out.own1) (by simp [Act.eval]) (FW1.out _ R33.out.1) (by simp; omega) R33.out.1.size ?_
        intro vA W34 x1 x2 x3
        have R34 := hide (R33.out.app1 x1 x2 x3)
        clear x1 x2 x3 R33
        refine hK.out _ _ (fun _ _ => CS.out _ R34.out.1) ?_
        clear hK K
        try simp only [Act.put, List.setIfInBounds_toArray, List.set_cons_zero, List.set_cons_succ]
        refine wpAnyJ_ready (rs := [10]) (by kernel_rfl) (by simp) ?_
        refine AllReadyJ.cons (o := { dst := some 165, op := Op.call { callee := Callee.builtin Builtin.append, args := #[Operand.tmp 163, Operand.tmp 164], argTypes := #[33, 33] }, type := 33, pos := "ids.go:217", after := #[{ on := 8, ground := Ground.data }, { on := 9, ground := Ground.data }, { on := 7, ground := Ground.chain }], guard := none }) rfl (fun K hK => ?_) AllReadyJ.nil
        refine step_append_fw _ rfl (.tmp 163) (.tmp 164) rfl w2.heap.size (.slice (some ⟨k20, 0, none⟩) 0 0) v2 [] fr (by simp [Act.eval]) (R34.out.own2) (by simp [Act.eval]) (FW2.out _ R34.out.1) (by simp; omega) R34.out.1.size ?_
        intro vB W35 x1 x2 x3
        have R35 := hide (R34.out.app2 x1 x2 x3)
        clear x1 x2 x3 R34
        refine hK.out _ _ (fun _ _ => CS.out _ R35.out.1) ?_
        clear hK K
        try simp only [Act.put, List.setIfInBounds_toArray, List.set_cons_zero, List.set_cons_succ]
        refine wpAnyJ_ready (rs := [11]) (by kernel_rfl) (by simp) ?_
        refine AllReadyJ.cons (o := { dst := some 166, op := Op.call { callee := Callee.value (Operand.func 23), args := #[Operand.tmp 159, Operand.tmp 162, Operand.tmp 165], argTypes := #[3, 33, 33] }, type := 64, pos := "ids.go:217", after := #[{ on := 4, ground := Ground.data }, { on := 7, ground := Ground.data }, { on := 10, ground := Ground.data }, { on := 10, ground := Ground.chain }], guard := none }) rfl (fun K hK => ?_) AllReadyJ.nil
        go_simp
        refine (JF.out _ _ _ (R35.out.2.2.2.2.1 vA rfl) (R35.out.2.2.2.2.2.1 vB rfl)).mono ?_
        rintro e W36 ⟨gp, gq, S, T, rfl, hb, hp, hd, hS, hT, hST⟩
        have R36 := hide (R35.out.later hb)
        have Q36 := hide (R35.out.made hp hd hS hT hST)
        clear hb hp hd hS hT hST R35
        first | refine hK.out _ _ (fun _ _ => CS.out _ R36.out.1) ?_ | (go_wp2_with fail; refine hK.out _ _ (fun _ _ => CS.out _ R36.out.1) ?_)
        clear hK K
        try simp only [Act.put, List.setIfInBounds_toArray, List.set_cons_zero, List.set_cons_succ]
        refine' wpAnyJ_takeW (i := 12) (oi := { dst := some 154, op := Op.move (Operand.tmp 166), type := 64, pos := "ids.go:217", after := #[{ on := 11, ground := Ground.data }], guard := none }) (v := _) rfl (by kernel_rfl) (by kernel_rfl) (by kernel_rfl) (fun _ _ _ h => h) (Or.inl ⟨by rfl, ?hyA36⟩) ?reA36
        case hyA36 => (intro W hSw; (try dsimp only at hSw); go_simp; try with_reducible rfl)
        try simp only [Act.put, List.setIfInBounds_toArray, List.set_cons_zero, List.set_cons_succ]
        refine' wpAnyJ_takeW (i := 13) (oi := { dst := some 167, op := Op.extract (Operand.tmp 154) 0, type := 28, pos := "ids.go:217", after := #[{ on := 12, ground := Ground.data }], guard := none }) (v := _) rfl (by kernel_rfl) (by kernel_rfl) (by kernel_rfl) (fun _ _ _ h => h) (Or.inl ⟨by rfl, ?hyA37⟩) ?reA37
        case hyA37 => (intro W hSw; (try dsimp only at hSw); go_simp; try with_reducible rfl)
        try simp only [Act.put, List.setIfInBounds_toArray, List.set_cons_zero, List.set_cons_succ]
        refine' wpAnyJ_takeW (i := 14) (oi := { dst := some 168, op := Op.extract (Operand.tmp 154) 1, type := 4, pos := "ids.go:217", after := #[{ on := 12, ground := Ground.data }, { on := 16, ground := Ground.gcOnly Departure.lateStores }], guard := none }) (v := _) rfl (by kernel_rfl) (by kernel_rfl) (by kernel_rfl) (fun _ _ _ h => h) (Or.inl ⟨by rfl, ?hyA38⟩) ?reA38
        case hyA38 => (intro W hSw; (try dsimp only at hSw); go_simp; try with_reducible rfl)
        try simp only [Act.put, List.setIfInBounds_toArray, List.set_cons_zero, List.set_cons_succ]
        refine wpAnyJ_ready (rs := [16]) (by kernel_rfl) (by simp) ?_
        refine AllReadyJ.cons (o := { dst := none, op := Op.store 28 (Operand.tmp 18) (Operand.tmp 167), type := 0, pos := "ids.go:217", after := #[{ on := 15, ground := Ground.data }, { on := 13, ground := Ground.data }, { on := 11, ground := Ground.chain }, { on := 0, ground := Ground.phase }, { on := 1, ground := Ground.phase }, { on := 2, ground := Ground.phase }, { on := 3, ground := Ground.phase }, { on := 4, ground := Ground.phase }, { on := 5, ground := Ground.phase }, { on := 6, ground := Ground.phase }, { on := 7, ground := Ground.phase }, { on := 8, ground := Ground.phase }, { on := 9, ground := Ground.phase }, { on := 10, ground := Ground.phase }, { on := 11, ground := Ground.phase }, { on := 12, ground := Ground.phase }, { on := 13, ground := Ground.phase }, { on := 14, ground := Ground.textOnly Departure.lateStores }, { on := 15, ground := Ground.phase }], guard := none }) rfl (fun K hK => ?_) AllReadyJ.nil
        obtain ⟨b0, b1, f0, f1⟩ := row2' (R36.out.2.2.2.1 k33 rfl).2
        go_simp
        refine hK.out _ _ (fun h => absurd h (by decide)) ?_
        clear hK K
        try simp only [Act.put, List.setIfInBounds_toArray, List.set_cons_zero, List.set_cons_succ]
        refine' wpAnyJ_takeW (i := 17) (oi := { dst := some 19, op := Op.assign (Operand.tmp 168), type := 4, pos := "ids.go:217", after := #[{ on := 14, ground := Ground.data }, { on := 16, ground := Ground.chain }, { on := 0, ground := Ground.phase }, { on := 1, ground := Ground.phase }, { on := 2, ground := Ground.phase }, { on := 3, ground := Ground.phase }, { on := 4, ground := Ground.phase }, { on := 5, ground := Ground.phase }, { on := 6, ground := Ground.phase }, { on := 7, ground := Ground.phase }, { on := 8, ground := Ground.phase }, { on := 9, ground := Ground.phase }, { on := 10, ground := Ground.phase }, { on := 11, ground := Ground.phase }, { on := 12, ground := Ground.phase }, { on := 13, ground := Ground.phase }, { on := 14, ground := Ground.phase }, { on := 15, ground := Ground.phase }, { on := 16, ground := Ground.phase }], guard := none }) (v := _) rfl (by kernel_rfl) (by kernel_rfl) (by kernel_rfl) (fun _ _ _ h => h) (Or.inl ⟨by rfl, ?hyA39⟩) ?reA39
        case hyA39 => (intro W hSw; (try dsimp only at hSw); go_simp; try with_reducible rfl)
        try simp only [Act.put, List.setIfInBounds_toArray, List.set_cons_zero, List.set_cons_succ]
        refine wpAnyJ_done (by kernel_rfl) ?_ _
        refine NoPanic.normal ?_
        have F9 := hide (Q36.out.fin R36.out)
        refine hKK _ _ (Met.intro (hJJ _ _ ?_))
        repeat apply Exists.intro
        refine ⟨?_, rfl⟩
        exact ⟨k33, gp, gq, rfl, rfl, F9⟩
      refine AllReadyJ.cons (o := { dst := some 18, op := Op.alloc 28, type := 0, pos := "ids.go:217", after := #[], guard := none }) rfl (fun K hK => ?_) AllReadyJ.nil
      go_simp
      refine hK.out _ _ (fun _ _ => CS.out _ (R1.out.al3).1) ?_
      clear hK K
      have R38 := hide R1.out.al3
      obtain ⟨W38, hW⟩ : ∃ X, X = W1.alloc (.cells #[.pointer none, .pointer none] 28) := ⟨_, rfl⟩
      obtain ⟨k38, hk⟩ : ∃ k, k = W1.heap.size := ⟨_, rfl⟩
      rw [← hW, ← hk] at R38 ⊢
      clear hW hk R1
      try simp only [Act.put, List.setIfInBounds_toArray, List.set_cons_zero, List.set_cons_succ]
      refine wpAnyJ_ready (rs := [7, 8]) (by kernel_rfl) (by simp) ?_
      refine AllReadyJ.cons (o := { dst := some 162, op := Op.call { callee := Callee.builtin Builtin.append, args := #[Operand.tmp 160, Operand.tmp 161], argTypes := #[33, 33] }, type := 33, pos := "ids.go:217", after := #[{ on := 5, ground := Ground.data }, { on := 6, ground := Ground.data }], guard := none }) rfl (fun K hK => ?_) ?_
      · refine step_append_fw _ rfl (.tmp 160) (.tmp 161) rfl w2.heap.size (.slice (some ⟨k1, 0, none⟩) 0 0) v1 [] gs (by simp [Act.eval]) (R38.out.own1) (by simp [Act.eval]) (FW1.out _ R38.out.1) (by simp; omega) R38.out.1.size ?_
        intro vA W39 x1 x2 x3
        have R39 := hide (R38.out.app1 x1 x2 x3)
        clear x1 x2 x3 R38
        refine hK.out _ _ (fun _ _ => CS.out _ R39.out.1) ?_
        clear hK K
        try simp only [Act.put, List.setIfInBounds_toArray, List.set_cons_zero, List.set_cons_succ]
        refine wpAnyJ_ready (rs := [8]) (by kernel_rfl) (by simp) ?_
        refine AllReadyJ.cons (o := { dst := some 163, op := Op.buildSlice 33 0 #[], type := 33, pos := "ids.go:217", after := #[], guard := none }) rfl (fun K hK => ?_) AllReadyJ.nil
        go_simp
        refine hK.out _ _ (fun _ _ => CS.out _ (R39.out.al2).1) ?_
        clear hK K
        have R40 := hide R39.out.al2
        obtain ⟨W40, hW⟩ : ∃ X, X = W39.alloc (.cells #[] 3) := ⟨_, rfl⟩
        obtain ⟨k40, hk⟩ : ∃ k, k = W39.heap.size := ⟨_, rfl⟩
        rw [← hW, ← hk] at R40 ⊢
        clear hW hk R39
        try simp only [Act.put, List.setIfInBounds_toArray, List.set_cons_zero, List.set_cons_succ]
        refine wpAnyJ_ready (rs := [10]) (by kernel_rfl) (by simp) ?_
        refine AllReadyJ.cons (o := { dst := some 165, op := Op.call { callee := Callee.builtin Builtin.append, args := #[Operand.tmp 163, Operand.tmp 164], argTypes := #[33, 33] }, type := 33, pos := "ids.go:217", after := #[{ on := 8, ground := Ground.data }, { on := 9, ground := Ground.data }, { on := 7, ground := Ground.chain }], guard := none }) rfl (fun K hK => ?_) AllReadyJ.nil
        refine step_append_fw _ rfl (.tmp 163) (.tmp 164) rfl w2.heap.size (.slice (some ⟨k40, 0, none⟩) 0 0) v2 [] fr (by simp [Act.eval]) (R40.out.own2) (by simp [Act.eval]) (FW2.out _ R40.out.1) (by simp; omega) R40.out.1.size ?_
        intro vB W41 x1 x2 x3
        have R41 := hide (R40.out.app2 x1 x2 x3)
        clear x1 x2 x3 R40
        refine hK.out _ _ (fun _ _ => CS.out _ R41.out.1) ?_
        clear hK K
        try simp only [Act.put, List.setIfInBounds_toArray, List.set_cons_zero, List.set_cons_succ]
        refine wpAnyJ_ready (rs := [11]) (by kernel_rfl) (by simp) ?_
        refine AllReadyJ.cons (o := { dst := some 166, op := Op.call { callee := Callee.value (Operand.func 23), args := #[Operand.tmp 159, Operand.tmp 162, Operand.tmp 165], argTypes := #[3, 33, 33] }, type := 64, pos := "ids.go:217", after := #[{ on := 4, ground := Ground.data }, { on := 7, ground := Ground.data }, { on := 10, ground := Ground.data }, { on := 10, ground := Ground.chain }], guard := none }) rfl (fun K hK => ?_) AllReadyJ.nil
        go_simp
        refine (JF.out _ _ _ (R41.out.2.2.2.2.1 vA rfl) (R41.out.2.2.2.2.2.1 vB rfl)).mono ?_
        rintro e W42 ⟨gp, gq, S, T, rfl, hb, hp, hd, hS, hT, hST⟩
        have R42 := hide (R41.out.later hb)
        have Q42 := hide (R41.out.made hp hd hS hT hST)
        clear hb hp hd hS hT hST R41
        first | refine hK.out _ _ (fun _ _ => CS.out _ R42.out.1) ?_ | (go_wp2_with fail; refine hK.out _ _ (fun _ _ => CS.out _ R42.out.1) ?_)
        clear hK K
        try simp only [Act.put, List.setIfInBounds_toArray, List.set_cons_zero, List.set_cons_succ]
        refine' wpAnyJ_takeW (i := 12) (oi := { dst := some 154, op := Op.move (Operand.tmp 166), type := 64, pos := "ids.go:217", after := #[{ on := 11, ground := Ground.data }], guard := none }) (v := _) rfl (by kernel_rfl) (by kernel_rfl) (by kernel_rfl) (fun _ _ _ h => h) (Or.inl ⟨by rfl, ?hyA40⟩) ?reA40
        case hyA40 => (intro W hSw; (try dsimp only at hSw); go_simp; try with_reducible rfl)
        try simp only [Act.put, List.setIfInBounds_toArray, List.set_cons_zero, List.set_cons_succ]
        refine' wpAnyJ_takeW (i := 13) (oi := { dst := some 167, op := Op.extract (Operand.tmp 154) 0, type := 28, pos := "ids.go:217", after := #[{ on := 12, ground := Ground.data }], guard := none }) (v := _) rfl (by kernel_rfl) (by kernel_rfl) (by kernel_rfl) (fun _ _ _ h => h) (Or.inl ⟨by rfl, ?hyA41⟩) ?reA41
        case hyA41 => (intro W hSw; (try dsimp only at hSw); go_simp; try with_reducible rfl)
        try simp only [Act.put, List.setIfInBounds_toArray, List.set_cons_zero, List.set_cons_succ]
        refine' wpAnyJ_takeW (i := 14) (oi := { dst := some 168, op := Op.extract (Operand.tmp 154) 1, type := 4, pos := "ids.go:217", after := #[{ on := 12, ground := Ground.data }, { on := 16, ground := Ground.gcOnly Departure.lateStores }], guard := none }) (v := _) rfl (by kernel_rfl) (by kernel_rfl) (by kernel_rfl) (fun _ _ _ h => h) (Or.inl ⟨by rfl, ?hyA42⟩) ?reA42
        case hyA42 => (intro W hSw; (try dsimp only at hSw); go_simp; try with_reducible rfl)
        try simp only [Act.put, List.setIfInBounds_toArray, List.set_cons_zero, List.set_cons_succ]
        refine wpAnyJ_ready (rs := [16]) (by kernel_rfl) (by simp) ?_
        refine AllReadyJ.cons (o := { dst := none, op := Op.store 28 (Operand.tmp 18) (Operand.tmp 167), type := 0, pos := "ids.go:217", after := #[{ on := 15, ground := Ground.data }, { on := 13, ground := Ground.data }, { on := 11, ground := Ground.chain }, { on := 0, ground := Ground.phase }, { on := 1, ground := Ground.phase }, { on := 2, ground := Ground.phase }, { on := 3, ground := Ground.phase }, { on := 4, ground := Ground.phase }, { on := 5, ground := Ground.phase }, { on := 6, ground := Ground.phase }, { on := 7, ground := Ground.phase }, { on := 8, ground := Ground.phase }, { on := 9, ground := Ground.phase }, { on := 10, ground := Ground.phase }, { on := 11, ground := Ground.phase }, { on := 12, ground := Ground.phase }, { on := 13, ground := Ground.phase }, { on := 14, ground := Ground.textOnly Departure.lateStores }, { on := 15, ground := Ground.phase }], guard := none }) rfl (fun K hK => ?_) AllReadyJ.nil
        obtain ⟨b0, b1, f0, f1⟩ := row2' (R42.out.2.2.2.1 k38 rfl).2
        go_simp
        refine hK.out _ _ (fun h => absurd h (by decide)) ?_
        clear hK K
        try simp only [Act.put, List.setIfInBounds_toArray, List.set_cons_zero, List.set_cons_succ]
        refine' wpAnyJ_takeW (i := 17) (oi := { dst := some 19, op := Op.assign (Operand.tmp 168), type := 4, pos := "ids.go:217", after := #[{ on := 14, ground := Ground.data }, { on := 16, ground := Ground.chain }, { on := 0, ground := Ground.phase }, { on := 1, ground := Ground.phase }, { on := 2, ground := Ground.phase }, { on := 3, ground := Ground.phase }, { on := 4, ground := Ground.phase }, { on := 5, ground := Ground.phase }, { on := 6, ground := Ground.phase }, { on := 7, ground := Ground.phase }, { on := 8, ground := Ground.phase }, { on := 9, ground := Ground.phase }, { on := 10, ground := Ground.phase }, { on := 11, ground := Ground.phase }, { on := 12, ground := Ground.phase }, { on := 13, ground := Ground.phase }, { on := 14, ground := Ground.phase }, { on := 15, ground := Ground.phase }, { on := 16, ground := Ground.phase }], guard := none }) (v := _) rfl (by kernel_rfl) (by kernel_rfl) (by kernel_rfl) (fun _ _ _ h => h) (Or.inl ⟨by rfl, ?hyA43⟩) ?reA43
        case hyA43 => (intro W hSw; (try dsimp only at hSw); go_simp; try with_reducible rfl)
        try simp only [Act.put, List.setIfInBounds_toArray, List.set_cons_zero, List.set_cons_succ]
        refine wpAnyJ_done (by kernel_rfl) ?_ _
        refine NoPanic.normal ?_
        have F9 := hide (Q42.out.fin R42.out)
        refine hKK _ _ (Met.intro (hJJ _ _ ?_))
        repeat apply Exists.intro
        refine ⟨?_, rfl⟩
        exact ⟨k38, gp, gq, rfl, rfl, F9⟩
      refine AllReadyJ.cons (o := { dst := some 163, op := Op.buildSlice 33 0 #[], type := 33, pos := "ids.go:217", after := #[], guard := none }) rfl (fun K hK => ?_) AllReadyJ.nil
      go_simp
      refine hK.out _ _ (fun _ _ => CS.out _ (R38.out.al2).1) ?_
      clear hK K
      have R44 := hide R38.out.al2
      obtain ⟨W44, hW⟩ : ∃ X, X = W38.alloc (.cells #[] 3) := ⟨_, rfl⟩
      obtain ⟨k44, hk⟩ : ∃ k, k = W38.heap.size := ⟨_, rfl⟩
      rw [← hW, ← hk] at R44 ⊢
      clear hW hk R38
      try simp only [Act.put, List.setIfInBounds_toArray, List.set_cons_zero, List.set_cons_succ]
      refine wpAnyJ_ready (rs := [7]) (by kernel_rfl) (by simp) ?_
      refine AllReadyJ.cons (o := { dst := some 162, op := Op.call { callee := Callee.builtin Builtin.append, args := #[Operand.tmp 160, Operand.tmp 161], argTypes := #[33, 33] }, type := 33, pos := "ids.go:217", after := #[{ on := 5, ground := Ground.data }, { on := 6, ground := Ground.data }], guard := none }) rfl (fun K hK => ?_) AllReadyJ.nil
      refine step_append_fw _ rfl (.tmp 160) (.tmp 161) rfl w2.heap.size (.slice (some ⟨k1, 0, none⟩) 0 0) v1 [] gs (by simp [Act.eval]) (R44.out.own1) (by simp [Act.eval]) (FW1.out _ R44.out.1) (by simp; omega) R44.out.1.size ?_
      intro vA W45 x1 x2 x3
      have R45 := hide (R44.out.app1 x1 x2 x3)
      clear x1 x2 x3 R44
      refine hK.out _ _ (fun _ _ => CS.out _ R45.out.1) ?_
      clear hK K
      try simp only [Act.put, List.setIfInBounds_toArray, List.set_cons_zero, List.set_cons_succ]
      refine wpAnyJ_ready (rs := [10]) (by kernel_rfl) (by simp) ?_
      refine AllReadyJ.cons (o := { dst := some 165, op := Op.call { callee := Callee.builtin Builtin.append, args := #[Operand.tmp 163, Operand.tmp 164], argTypes := #[33, 33] }, type := 33, pos := "ids.go:217", after := #[{ on := 8, ground := Ground.data }, { on := 9, ground := Ground.data }, { on := 7, ground := Ground.chain }], guard := none }) rfl (fun K hK => ?_) AllReadyJ.nil
      refine step_append_fw _ rfl (.tmp 163) (.tmp 164) rfl w2.heap.size (.slice (some ⟨k44, 0, none⟩) 0 0) v2 [] fr (by simp [Act.eval]) (R45.out.own2) (by simp [Act.eval]) (FW2.out _ R45.out.1) (by simp; omega) R45.out.1.size ?_
      intro vB W46 x1 x2 x3
      have R46 := hide (R45.out.app2 x1 x2 x3)
      clear x1 x2 x3 R45
      refine hK.out _ _ (fun _ _ => CS.out _ R46.out.1) ?_
      clear hK K
      try simp only [Act.put, List.setIfInBounds_toArray, List.set_cons_zero, List.set_cons_succ]
      refine wpAnyJ_ready (rs := [11]) (by kernel_rfl) (by simp) ?_
      refine AllReadyJ.cons (o := { dst := some 166, op := Op.call { callee := Callee.value (Operand.func 23), args := #[Operand.tmp 159, Operand.tmp 162, Operand.tmp 165], argTypes := #[3, 33, 33] }, type := 64, pos := "ids.go:217", after := #[{ on := 4, ground := Ground.data }, { on := 7, ground := Ground.data }, { on := 10, ground := Ground.data }, { on := 10, ground := Ground.chain }], guard := none }) rfl (fun K hK => ?_) AllReadyJ.nil
      go_simp
      refine (JF.out _ _ _ (R46.out.2.2.2.2.1 vA rfl) (R46.out.2.2.2.2.2.1 vB rfl)).mono ?_
      rintro e W47 ⟨gp, gq, S, T, rfl, hb, hp, hd, hS, hT, hST⟩
      have R47 := hide (R46.out.later hb)
      have Q47 := hide (R46.out.made hp hd hS hT hST)
      clear hb hp hd hS hT hST R46
      first | refine hK.out _ _ (fun _ _ => CS.out _ R47.out.1) ?_ | (go_wp2_with fail; refine hK.out _ _ (fun _ _ => CS.out _ R47.out.1) ?_)
      clear hK K
      try simp only [Act.put, List.setIfInBounds_toArray, List.set_cons_zero, List.set_cons_succ]
      refine' wpAnyJ_takeW (i := 12) (oi := { dst := some 154, op := Op.move (Operand.tmp 166), type := 64, pos := "ids.go:217", after := #[{ on := 11, ground := Ground.data }], guard := none }) (v := _) rfl (by kernel_rfl) (by kernel_rfl) (by kernel_rfl) (fun _ _ _ h => h) (Or.inl ⟨by rfl, ?hyA44⟩) ?reA44
      case hyA44 => (intro W hSw; (try dsimp only at hSw); go_simp; try with_reducible rfl)
      try simp only [Act.put, List.setIfInBounds_toArray, List.set_cons_zero, List.set_cons_succ]
      refine' wpAnyJ_takeW (i := 13) (oi := { dst := some 167, op := Op.extract (Operand.tmp 154) 0, type := 28, pos := "ids.go:217", after := #[{ on := 12, ground := Ground.data }], guard := none }) (v := _) rfl (by kernel_rfl) (by kernel_rfl) (by kernel_rfl) (fun _ _ _ h => h) (Or.inl ⟨by rfl, ?hyA45⟩) ?reA45
      case hyA45 => (intro W hSw; (try dsimp only at hSw); go_simp; try with_reducible rfl)
      try simp only [Act.put, List.setIfInBounds_toArray, List.set_cons_zero, List.set_cons_succ]
      refine' wpAnyJ_takeW (i := 14) (oi := { dst := some 168, op := Op.extract (Operand.tmp 154) 1, type := 4, pos := "ids.go:217", after := #[{ on := 12, ground := Ground.data }, { on := 16, ground := Ground.gcOnly Departure.lateStores }], guard := none }) (v := _) rfl (by kernel_rfl) (by kernel_rfl) (by kernel_rfl) (fun _ _ _ h => h) (Or.inl ⟨by rfl, ?hyA46⟩) ?reA46
      case hyA46 => (intro W hSw; (try dsimp only at hSw); go_simp; try with_reducible rfl)
      try simp only [Act.put, List.setIfInBounds_toArray, List.set_cons_zero, List.set_cons_succ]
      refine wpAnyJ_ready (rs := [16]) (by kernel_rfl) (by simp) ?_
      refine AllReadyJ.cons (o := { dst := none, op := Op.store 28 (Operand.tmp 18) (Operand.tmp 167), type := 0, pos := "ids.go:217", after := #[{ on := 15, ground := Ground.data }, { on := 13, ground := Ground.data }, { on := 11, ground := Ground.chain }, { on := 0, ground := Ground.phase }, { on := 1, ground := Ground.phase }, { on := 2, ground := Ground.phase }, { on := 3, ground := Ground.phase }, { on := 4, ground := Ground.phase }, { on := 5, ground := Ground.phase }, { on := 6, ground := Ground.phase }, { on := 7, ground := Ground.phase }, { on := 8, ground := Ground.phase }, { on := 9, ground := Ground.phase }, { on := 10, ground := Ground.phase }, { on := 11, ground := Ground.phase }, { on := 12, ground := Ground.phase }, { on := 13, ground := Ground.phase }, { on := 14, ground := Ground.textOnly Departure.lateStores }, { on := 15, ground := Ground.phase }], guard := none }) rfl (fun K hK => ?_) AllReadyJ.nil
      obtain ⟨b0, b1, f0, f1⟩ := row2' (R47.out.2.2.2.1 k38 rfl).2
      go_simp
      refine hK.out _ _ (fun h => absurd h (by decide)) ?_
      clear hK K
      try simp only [Act.put, List.setIfInBounds_toArray, List.set_cons_zero, List.set_cons_succ]
      refine' wpAnyJ_takeW (i := 17) (oi := { dst := some 19, op := Op.assign (Operand.tmp 168), type := 4, pos := "ids.go:217", after := #[{ on := 14, ground := Ground.data }, { on := 16, ground := Ground.chain }, { on := 0, ground := Ground.phase }, { on := 1, ground := Ground.phase }, { on := 2, ground := Ground.phase }, { on := 3, ground := Ground.phase }, { on := 4, ground := Ground.phase }, { on := 5, ground := Ground.phase }, { on := 6, ground := Ground.phase }, { on := 7, ground := Ground.phase }, { on := 8, ground := Ground.phase }, { on := 9, ground := Ground.phase }, { on := 10, ground := Ground.phase }, { on := 11, ground := Ground.phase }, { on := 12, ground := Ground.phase }, { on := 13, ground := Ground.phase }, { on := 14, ground := Ground.phase }, { on := 15, ground := Ground.phase }, { on := 16, ground := Ground.phase }], guard := none }) (v := _) rfl (by kernel_rfl) (by kernel_rfl) (by kernel_rfl) (fun _ _ _ h => h) (Or.inl ⟨by rfl, ?hyA47⟩) ?reA47
      case hyA47 => (intro W hSw; (try dsimp only at hSw); go_simp; try with_reducible rfl)
      try simp only [Act.put, List.setIfInBounds_toArray, List.set_cons_zero, List.set_cons_succ]
      refine wpAnyJ_done (by kernel_rfl) ?_ _
      refine NoPanic.normal ?_
      have F9 := hide (Q47.out.fin R47.out)
      refine hKK _ _ (Met.intro (hJJ _ _ ?_))
      repeat apply Exists.intro
      refine ⟨?_, rfl⟩
      exact ⟨k38, gp, gq, rfl, rfl, F9⟩
    refine AllReadyJ.cons (o := { dst := some 163, op := Op.buildSlice 33 0 #[], type := 33, pos := "ids.go:217", after := #[], guard := none }) rfl (fun K hK => ?_) ?_
    · go_simp
      refine hK.out _ _ (fun _ _ => CS.out _ (R0.out.al2).1) ?_
      clear hK K
      have R49 := hide R0.out.al2
      obtain ⟨W49, hW⟩ : ∃ X, X = W0.alloc (.cells #[] 3) := ⟨_, rfl⟩
      obtain ⟨k49, hk⟩ : ∃ k, k = W0.heap.size := ⟨_, rfl⟩
      rw [← hW, ← hk] at R49 ⊢
      clear hW hk R0
      try simp only [Act.put, List.setIfInBounds_toArray, List.set_cons_zero, List.set_cons_succ]
      refine wpAnyJ_ready (rs := [5, 15]) (by kernel_rfl) (by simp) ?_
      refine AllReadyJ.cons (o := { dst := some 160, op := Op.buildSlice 33 0 #[], type := 33, pos := "ids.go:217", after := #[], guard := none }) rfl (fun K hK => ?_) ?_
      · go_simp
        refine hK.out _ _ (fun _ _ => CS.out _ (R49.out.al1).1) ?_
        clear hK K
        have R50 := hide R49.out.al1
        obtain ⟨W50, hW⟩ : ∃ X, X = W49.alloc (.cells #[] 3) := ⟨_, rfl⟩
        obtain ⟨k50, hk⟩ : ∃ k, k = W49.heap.size := ⟨_, rfl⟩
        rw [← hW, ← hk] at R50 ⊢
        clear hW hk R49
        try simp only [Act.put, List.setIfInBounds_toArray, List.set_cons_zero, List.set_cons_succ]
        refine wpAnyJ_ready (rs := [7, 15]) (by kernel_rfl) (by simp) ?_
        refine AllReadyJ.cons (o := { dst := some 162, op := Op.call { callee := Callee.builtin Builtin.append, args := #[Operand.tmp 160, Operand.tmp 161], argTypes := #[33, 33] }, type := 33, pos := "ids.go:217", after := #[{ on := 5, ground := Ground.data }, { on := 6, ground := Ground.data }], guard := none }) rfl (fun K hK => ?_) ?_
        · refine step_append_fw _ rfl (.tmp 160) (.tmp 161) rfl w2.heap.size (.slice (some ⟨k50, 0, none⟩) 0 0) v1 [] gs (by simp [Act.eval]) (R50.out.own1) (by simp [Act.eval]) (FW1.out _ R50.out.1) (by simp; omega) R50.out.1.size ?_
          intro vA W51 x1 x2 x3
          have R51 := hide (R50.out.app1 x1 x2 x3)
          clear x1 x2 x3 R50
          refine hK.out _ _ (fun _ _ => CS.out _ R51.out.1) ?_
          clear hK K
          try simp only [Act.put, List.setIfInBounds_toArray, List.set_cons_zero, List.set_cons_succ]
          refine wpAnyJ_ready (rs := [10, 15]) (by kernel_rfl) (by simp) ?_
          refine AllReadyJ.cons (o := { dst := some 165, op := Op.call { callee := Callee.builtin Builtin.append, args := #[Operand.tmp 163, Operand.tmp 164], argTypes := #[33, 33] }, type := 33, pos := "ids.go:217", after := #[{ on := 8, ground := Ground.data }, { on := 9, ground := Ground.data }, { on := 7, ground := Ground.chain }], guard := none }) rfl (fun K hK => ?_) ?_
          · refine step_append_fw _ rfl (.tmp 163) (.tmp 164) rfl w2.heap.size (.slice (some ⟨k49, 0, none⟩) 0 0) v2 [] fr (by simp [Act.eval]) (R51.out.own2) (by simp [Act.eval]) (FW2.out _ R51.out.1) (by simp; omega) R51.out.1.size ?_
            intro vB W52 x1 x2 x3
            have R52 := hide (R51.out.app2 x1 x2 x3)
            clear x1 x2 x3 R51
            refine hK.out _ _ (fun _ _ => CS.out _ R52.out.1) ?_
            clear hK K
            try simp only [Act.put, List.setIfInBounds_toArray, List.set_cons_zero, List.set_cons_succ]
            refine wpAnyJ_ready (rs := [11, 15]) (by kernel_rfl) (by simp) ?_
            refine AllReadyJ.cons (o := { dst := some 166, op := Op.call { callee := Callee.value (Operand.func 23), args := #[Operand.tmp 159, Operand.tmp 162, Operand.tmp 165], argTypes := #[3, 33, 33] }, type := 64, pos := "ids.go:217", after := #[{ on := 4, ground := Ground.data }, { on := 7, ground := Ground.data }, { on := 10, ground := Ground.data }, { on := 10, ground := Ground.chain }], guard := none }) rfl (fun K hK => ?_) ?_
            · go_simp
              refine (JF.out _ _ _ (R52.out.2.2.2.2.1 vA rfl) (R52.out.2.2.2.2.2.1 vB rfl)).mono ?_
              rintro e W53 ⟨gp, gq, S, T, rfl, hb, hp, hd, hS, hT, hST⟩
              have R53 := hide (R52.out.later hb)
              have Q53 := hide (R52.out.made hp hd hS hT hST)
              clear hb hp hd hS hT hST R52
              first | refine hK.out _ _ (fun _ _ => CS.out _ R53.out.1) ?_ | (go_wp2_with fail; refine hK.out _ _ (fun _ _ => CS.out _ R53.out.1) ?_)
              clear hK K
              try simp only [Act.put, List.setIfInBounds_toArray, List.set_cons_zero, List.set_cons_succ]
              refine' wpAnyJ_takeW (i := 12) (oi := { dst := some 154, op := Op.move (Operand.tmp 166), type := 64, pos := "ids.go:217", after := #[{ on := 11, ground := Ground.data }], guard := none }) (v := _) rfl (by kernel_rfl) (by kernel_rfl) (by kernel_rfl) (fun _ _ _ h => h) (Or.inl ⟨by rfl, ?hyA48⟩) ?reA48
              case hyA48 => (intro W hSw; (try dsimp only at hSw); go_simp; try with_reducible rfl)
              try simp only [Act.put, List.setIfInBounds_toArray, List.set_cons_zero, List.set_cons_succ]
              refine' wpAnyJ_takeW (i := 13) (oi := { dst := some 167, op := Op.extract (Operand.tmp 154) 0, type := 28, pos := "ids.go:217", after := #[{ on := 12, ground := Ground.data }], guard := none }) (v := _) rfl (by kernel_rfl) (by kernel_rfl) (by kernel_rfl) (fun _ _ _ h => h) (Or.inl ⟨by rfl, ?hyA49⟩) ?reA49
              case hyA49 => (intro W hSw; (try dsimp only at hSw); go_simp; try with_reducible rfl)
              try simp only [Act.put, List.setIfInBounds_toArray, List.set_cons_zero, List.set_cons_succ]
              refine' wpAnyJ_takeW (i := 14) (oi := { dst := some 168, op := Op.extract (Operand.tmp 154) 1, type := 4, pos := "ids.go:217", after := #[{ on := 12, ground := Ground.data }, { on := 16, ground := Ground.gcOnly Departure.lateStores }], guard := none }) (v := _) rfl (by kernel_rfl) (by kernel_rfl) (by kernel_rfl) (fun _ _ _ h => h) (Or.inl ⟨by rfl, ?hyA50⟩) ?reA50
              case hyA50 => (intro W hSw; (try dsimp only at hSw); go_simp; try with_reducible rfl)
              try simp only [Act.put, List.setIfInBounds_toArray, List.set_cons_zero, List.set_cons_succ]
              refine wpAnyJ_ready (rs := [15]) (by kernel_rfl) (by simp) ?_
              refine AllReadyJ.cons (o := { dst := some 18, op := Op.alloc 28, type := 0, pos := "ids.go:217", after := #[], guard := none }) rfl (fun K hK => ?_) AllReadyJ.nil
              go_simp
              refine hK.out _ _ (fun _ _ => CS.out _ (R53.out.al3).1) ?_
              clear hK K
              have R54 := hide R53.out.al3
              have Q54 := hide Q53.out.al3
              obtain ⟨W54, hW⟩ : ∃ X, X = W53.alloc (.cells #[.pointer none, .pointer none] 28) := ⟨_, rfl⟩
              obtain ⟨k54, hk⟩ : ∃ k, k = W53.heap.size := ⟨_, rfl⟩
              rw [← hW, ← hk] at R54 Q54 ⊢
              clear hW hk R53 Q53
              try simp only [Act.put, List.setIfInBounds_toArray, List.set_cons_zero, List.set_cons_succ]
              refine wpAnyJ_ready (rs := [16]) (by kernel_rfl) (by simp) ?_
              refine AllReadyJ.cons (o := { dst := none, op := Op.store 28 (Operand.tmp 18) (Operand.tmp 167), type := 0, pos := "ids.go:217", after := #[{ on := 15, ground := Ground.data }, { on := 13, ground := Ground.data }, { on := 11, ground := Ground.chain }, { on := 0, ground := Ground.phase }, { on := 1, ground := Ground.phase }, { on := 2, ground := Ground.phase }, { on := 3, ground := Ground.phase }, { on := 4, ground := Ground.phase }, { on := 5, ground := Ground.phase }, { on := 6, ground := Ground.phase }, { on := 7, ground := Ground.phase }, { on := 8, ground := Ground.phase }, { on := 9, ground := Ground.phase }, { on := 10, ground := Ground.phase }, { on := 11, ground := Ground.phase }, { on := 12, ground := Ground.phase }, { on := 13, ground := Ground.phase }, { on := 14, ground := Ground.textOnly Departure.lateStores }, { on := 15, ground := Ground.phase }], guard := none }) rfl (fun K hK => ?_) AllReadyJ.nil
              obtain ⟨b0, b1, f0, f1⟩ := row2' (R54.out.2.2.2.1 k54 rfl).2
              go_simp
              refine hK.out _ _ (fun h => absurd h (by decide)) ?_
              clear hK K
              try simp only [Act.put, List.setIfInBounds_toArray, List.set_cons_zero, List.set_cons_succ]
              refine' wpAnyJ_takeW (i := 17) (oi := { dst := some 19, op := Op.assign (Operand.tmp 168), type := 4, pos := "ids.go:217", after := #[{ on := 14, ground := Ground.data }, { on := 16, ground := Ground.chain }, { on := 0, ground := Ground.phase }, { on := 1, ground := Ground.phase }, { on := 2, ground := Ground.phase }, { on := 3, ground := Ground.phase }, { on := 4, ground := Ground.phase }, { on := 5, ground := Ground.phase }, { on := 6, ground := Ground.phase }, { on := 7, ground := Ground.phase }, { on := 8, ground := Ground.phase }, { on := 9, ground := Ground.phase }, { on := 10, ground := Ground.phase }, { on := 11, ground := Ground.phase }, { on := 12, ground := Ground.phase }, { on := 13, ground := Ground.phase }, { on := 14, ground := Ground.phase }, { on := 15, ground := Ground.phase }, { on := 16, ground := Ground.phase }], guard := none }) (v := _) rfl (by kernel_rfl) (by kernel_rfl) (by kernel_rfl) (fun _ _ _ h => h) (Or.inl ⟨by rfl, ?hyA51⟩) ?reA51
              case hyA51 => (intro W hSw; (try dsimp only at hSw); go_simp; try with_reducible rfl)
              try simp only [Act.put, List.setIfInBounds_toArray, List.set_cons_zero, List.set_cons_succ]
              refine wpAnyJ_done (by kernel_rfl) ?_ _
              refine NoPanic.normal ?_
              have F9 := hide (Q54.out.fin R54.out)
              refine hKK _ _ (Met.intro (hJJ _ _ ?_))
              repeat apply Exists.intro
              refine ⟨?_, rfl⟩
              exact ⟨k54, gp, gq, rfl, rfl, F9⟩
            refine AllReadyJ.cons (o := { dst := some 18, op := Op.alloc 28, type := 0, pos := "ids.go:217", after := #[], guard := none }) rfl (fun K hK => ?_) AllReadyJ.nil
            go_simp
            refine hK.out _ _ (fun _ _ => CS.out _ (R52.out.al3).1) ?_
            clear hK K
            have R56 := hide R52.out.al3
            obtain ⟨W56, hW⟩ : ∃ X, X = W52.alloc (.cells #[.pointer none, .pointer none] 28) := ⟨_, rfl⟩
            obtain ⟨k56, hk⟩ : ∃ k, k = W52.heap.size := ⟨_, rfl⟩
            rw [← hW, ← hk] at R56 ⊢
            clear hW hk R52
            try simp only [Act.put, List.setIfInBounds_toArray, List.set_cons_zero, List.set_cons_succ]
            refine wpAnyJ_ready (rs := [11]) (by kernel_rfl) (by simp) ?_
            refine AllReadyJ.cons (o := { dst := some 166, op := Op.call { callee := Callee.value (Operand.func 23), args := #[Operand.tmp 159, Operand.tmp 162, Operand.tmp 165], argTypes := #[3, 33, 33] }, type := 64, pos := "ids.go:217", after := #[{ on := 4, ground := Ground.data }, { on := 7, ground := Ground.data }, { on := 10, ground := Ground.data }, { on := 10, ground := Ground.chain }], guard := none }) rfl (fun K hK => ?_) AllReadyJ.nil
            go_simp
            refine (JF.out _ _ _ (R56.out.2.2.2.2.1 vA rfl) (R56.out.2.2.2.2.2.1 vB rfl)).mono ?_
            rintro e W57 ⟨gp, gq, S, T, rfl, hb, hp, hd, hS, hT, hST⟩
            have R57 := hide (R56.out.later hb)
            have Q57 := hide (R56.out.made hp hd hS hT hST)
            clear hb hp hd hS hT hST R56
            first | refine hK.out _ _ (fun _ _ => CS.out _ R57.out.1) ?_ | (go_wp2_with fail; refine hK.out _ _ (fun _ _ => CS.out _ R57.out.1) ?_)
            clear hK K
            try simp only [Act.put, List.setIfInBounds_toArray, List.set_cons_zero, List.set_cons_succ]
            refine' wpAnyJ_takeW (i := 12) (oi := { dst := some 154, op := Op.move (Operand.tmp 166), type := 64, pos := "ids.go:217", after := #[{ on := 11, ground := Ground.data }], guard := none }) (v := _) rfl (by kernel_rfl) (by kernel_rfl) (by kernel_rfl) (fun _ _ _ h => h) (Or.inl ⟨by rfl, ?hyA52⟩) ?reA52
            case hyA52 => (intro W hSw; (try dsimp only at hSw); go_simp; try with_reducible rfl)
            try simp only [Act.put, List.setIfInBounds_toArray, List.set_cons_zero, List.set_cons_succ]
            refine' wpAnyJ_takeW (i := 13) (oi := { dst := some 167, op := Op.extract (Operand.tmp 154) 0, type := 28, pos := "ids.go:217", after := #[{ on := 12, ground := Ground.data }], guard := none }) (v := _) rfl (by kernel_rfl) (by kernel_rfl) (by kernel_rfl) (fun _ _ _ h => h) (Or.inl ⟨by rfl, ?hyA53⟩) ?reA53
            case hyA53 => (intro W hSw; (try dsimp only at hSw); go_simp; try with_reducible rfl)
            try simp only [Act.put, List.setIfInBounds_toArray, List.set_cons_zero, List.set_cons_succ]
            refine' wpAnyJ_takeW (i := 14) (oi := { dst := some 168, op := Op.extract (Operand.tmp 154) 1, type := 4, pos := "ids.go:217", after := #[{ on := 12, ground := Ground.data }, { on := 16, ground := Ground.gcOnly Departure.lateStores }], guard := none }) (v := _) rfl (by kernel_rfl) (by kernel_rfl) (by kernel_rfl) (fun _ _ _ h => h) (Or.inl ⟨by rfl, ?hyA54⟩) ?reA54
            case hyA54 => (intro W hSw; (try dsimp only at hSw); go_simp; try with_reducible rfl)
            try simp only [Act.put, List.setIfInBounds_toArray, List.set_cons_zero, List.set_cons_succ]
            refine wpAnyJ_ready (rs := [16]) (by kernel_rfl) (by simp) ?_
            refine AllReadyJ.cons (o := { dst := none, op := Op.store 28 (Operand.tmp 18) (Operand.tmp 167), type := 0, pos := "ids.go:217", after := #[{ on := 15, ground := Ground.data }, { on := 13, ground := Ground.data }, { on := 11, ground := Ground.chain }, { on := 0, ground := Ground.phase }, { on := 1, ground := Ground.phase }, { on := 2, ground := Ground.phase }, { on := 3, ground := Ground.phase }, { on := 4, ground := Ground.phase }, { on := 5, ground := Ground.phase }, { on := 6, ground := Ground.phase }, { on := 7, ground := Ground.phase }, { on := 8, ground := Ground.phase }, { on := 9, ground := Ground.phase }, { on := 10, ground := Ground.phase }, { on := 11, ground := Ground.phase }, { on := 12, ground := Ground.phase }, { on := 13, ground := Ground.phase }, { on := 14, ground := Ground.textOnly Departure.lateStores }, { on := 15, ground := Ground.phase }], guard := none }) rfl (fun K hK => ?_) AllReadyJ.nil
            obtain ⟨b0, b1, f0, f1⟩ := row2' (R57.out.2.2.2.1 k56 rfl).2
            go_simp
            refine hK.out _ _ (fun h => absurd h (by decide)) ?_
            clear hK K
            try simp only [Act.put, List.setIfInBounds_toArray, List.set_cons_zero, List.set_cons_succ]
            refine' wpAnyJ_takeW (i := 17) (oi := { dst := some 19, op := Op.assign (Operand.tmp 168), type := 4, pos := "ids.go:217", after := #[{ on := 14, ground := Ground.data }, { on := 16, ground := Ground.chain }, { on := 0, ground := Ground.phase }, { on := 1, ground := Ground.phase }, { on := 2, ground := Ground.phase }, { on := 3, ground := Ground.phase }, { on := 4, ground := Ground.phase }, { on := 5, ground := Ground.phase }, { on := 6, ground := Ground.phase }, { on := 7, ground := Ground.phase }, { on := 8, ground := Ground.phase }, { on := 9, ground := Ground.phase }, { on := 10, ground := Ground.phase }, { on := 11, ground := Ground.phase }, { on := 12, ground := Ground.phase }, { on := 13, ground := Ground.phase }, { on := 14, ground := Ground.phase }, { on := 15, ground := Ground.phase }, { on := 16, ground := Ground.phase }], guard := none }) (v := _) rfl (by kernel_rfl) (by kernel_rfl) (by kernel_rfl) (fun _ _ _ h => h) (Or.inl ⟨by rfl, ?hyA55⟩) ?reA55
            case hyA55 => (intro W hSw; (try dsimp only at hSw); go_simp; try with_reducible rfl)
            try simp only [Act.put, List.setIfInBounds_toArray, List.set_cons_zero, List.set_cons_succ]
            refine wpAnyJ_done (by kernel_rfl) ?_ _
            refine NoPanic.normal ?_
            have F9 := hide (Q57.out.fin R57.out)
            refine hKK _ _ (Met.intro (hJJ _ _ ?_))
            repeat apply Exists.intro
            refine ⟨?_, rfl⟩
            exact ⟨k56, gp, gq, rfl, rfl, F9⟩
          refine AllReadyJ.cons (o := { dst := some 18, op := Op.alloc 28, type := 0, pos := "ids.go:217", after := #[], guard := none }) rfl (fun K hK => ?_) AllReadyJ.nil
          go_simp
          refine hK.out _ _ (fun _ _ => CS.out _ (R51.out.al3).1) ?_
          clear hK K
          have R59 := hide R51.out.al3
          obtain ⟨W59, hW⟩ : ∃ X, X = W51.alloc (.cells #[.pointer none, .pointer none] 28) := ⟨_, rfl⟩
          obtain ⟨k59, hk⟩ : ∃ k, k = W51.heap.size := ⟨_, rfl⟩
          rw [← hW, ← hk] at R59 ⊢
          clear hW hk R51
          try simp only [Act.put, List.setIfInBounds_toArray, List.set_cons_zero, List.set_cons_succ]
          refine wpAnyJ_ready (rs := [10]) (by kernel_rfl) (by simp) ?_
          refine AllReadyJ.cons (o := { dst := some 165, op := Op.call { callee := Callee.builtin Builtin.append, args := #[Operand.tmp 163, Operand.tmp 164], argTypes := #[33, 33] }, type := 33, pos := "ids.go:217", after := #[{ on := 8, ground := Ground.data }, { on := 9, ground := Ground.data }, { on := 7, ground := Ground.chain }], guard := none }) rfl (fun K hK => ?_) AllReadyJ.nil
          refine step_append_fw _ rfl (.tmp 163) (.tmp 164) rfl w2.heap.size (.slice (some ⟨k49, 0, none⟩) 0 0) v2 [] fr (by simp [Act.eval]) (R59.out.own2) (by simp [Act.eval]) (FW2.out _ R59.out.1) (by simp; omega) R59.out.1.size ?_
          intro vB W60 x1 x2 x3
          have R60 := hide (R59.out.app2 x1 x2 x3)
          clear x1 x2 x3 R59
          refine hK.out _ _ (fun _ _ => CS.out _ R60.out.1) ?_
          clear hK K
          try simp only [Act.put, List.setIfInBounds_toArray, List.set_cons_zero, List.set_cons_succ]
          refine wpAnyJ_ready (rs := [11]) (by kernel_rfl) (by simp) ?_
          refine AllReadyJ.cons (o := { dst := some 166, op := Op.call { callee := Callee.value (Operand.func 23), args := #[Operand.tmp 159, Operand.tmp 162, Operand.tmp 165], argTypes := #[3, 33, 33] }, type := 64, pos := "ids.go:217", after := #[{ on := 4, ground := Ground.data }, { on := 7, ground := Ground.data }, { on := 10, ground := Ground.data }, { on := 10, ground := Ground.chain }], guard := none }) rfl (fun K hK => ?_) AllReadyJ.nil
          go_simp
          refine (JF.out _ _ _ (R60.out.2.2.2.2.1 vA rfl) (R60.out.2.2.2.2.2.1 vB rfl)).mono ?_
          rintro e W61 ⟨gp, gq, S, T, rfl, hb, hp, hd, hS, hT, hST⟩
          have R61 := hide (R60.out.later hb)
          have Q61 := hide (R60.out.made hp hd hS hT hST)
          clear hb hp hd hS hT hST R60
          first | refine hK.out _ _ (fun _ _ => CS.out _ R61.out.1) ?_ | (go_wp2_with fail; refine hK.out _ _ (fun _ _ => CS.out _ R61.out.1) ?_)
          clear hK K
          try simp only [Act.put, List.setIfInBounds_toArray, List.set_cons_zero, List.set_cons_succ]
          refine' wpAnyJ_takeW (i := 12) (oi := { dst := some 154, op := Op.move (Operand.tmp 166), type := 64, pos := "ids.go:217", after := #[{ on := 11, ground := Ground.data }], guard := none }) (v := _) rfl (by kernel_rfl) (by kernel_rfl) (by kernel_rfl) (fun _ _ _ h => h) (Or.inl ⟨by rfl, ?hyA56⟩) ?reA56
          case hyA56 => (intro W hSw; (try dsimp only at hSw); go_simp; try with_reducible rfl)
          try simp only [Act.put, List.setIfInBounds_toArray, List.set_cons_zero, List.set_cons_succ]
          refine' wpAnyJ_takeW (i := 13) (oi := { dst := some 167, op := Op.extract (Operand.tmp 154) 0, type := 28, pos := "ids.go:217", after := #[{ on := 12, ground := Ground.data }], guard := none }) (v := _) rfl (by kernel_rfl) (by kernel_rfl) (by kernel_rfl) (fun _ _ _ h => h) (Or.inl ⟨by rfl, ?hyA57⟩) ?reA57
          case hyA57 => (intro W hSw; (try dsimp only at hSw); go_simp; try with_reducible rfl)
          try simp only [Act.put, List.setIfInBounds_toArray, List.set_cons_zero, List.set_cons_succ]
          refine' wpAnyJ_takeW (i := 14) (oi := { dst := some 168, op := Op.extract (Operand.tmp 154) 1, type := 4, pos := "ids.go:217", after := #[{ on := 12, ground := Ground.data }, { on := 16, ground := Ground.gcOnly Departure.lateStores }], guard := none }) (v := _) rfl (by kernel_rfl) (by kernel_rfl) (by kernel_rfl) (fun _ _ _ h => h) (Or.inl ⟨by rfl, ?hyA58⟩) ?reA58
          case hyA58 => (intro W hSw; (try dsimp only at hSw); go_simp; try with_reducible rfl)
          try simp only [Act.put, List.setIfInBounds_toArray, List.set_cons_zero, List.set_cons_succ]
          refine wpAnyJ_ready (rs := [16]) (by kernel_rfl) (by simp) ?_
          refine AllReadyJ.cons (o := { dst := none, op := Op.store 28 (Operand.tmp 18) (Operand.tmp 167), type := 0, pos := "ids.go:217", after := #[{ on := 15, ground := Ground.data }, { on := 13, ground := Ground.data }, { on := 11, ground := Ground.chain }, { on := 0, ground := Ground.phase }, { on := 1, ground := Ground.phase }, { on := 2, ground := Ground.phase }, { on := 3, ground := Ground.phase }, { on := 4, ground := Ground.phase }, { on := 5, ground := Ground.phase }, { on := 6, ground := Ground.phase }, { on := 7, ground := Ground.phase }, { on := 8, ground := Ground.phase }, { on := 9, ground := Ground.phase }, { on := 10, ground := Ground.phase }, { on := 11, ground := Ground.phase }, { on := 12, ground := Ground.phase }, { on := 13, ground := Ground.phase }, { on := 14, ground := Ground.textOnly Departure.lateStores }, { on := 15, ground := Ground.phase }], guard := none }) rfl (fun K hK => ?_) AllReadyJ.nil
          obtain ⟨b0, b1, f0, f1⟩ := row2' (R61.out.2.2.2.1 k59 rfl).2
          go_simp
          refine hK.out _ _ (fun h => absurd h (by decide)) ?_
          clear hK K
          try simp only [Act.put, List.setIfInBounds_toArray, List.set_cons_zero, List.set_cons_succ]
          refine' wpAnyJ_takeW (i := 17) (oi := { dst := some 19, op := Op.assign (Operand.tmp 168), type := 4, pos := "ids.go:217", after := #[{ on := 14, ground := Ground.data }, { on := 16, ground := Ground.chain }, { on := 0, ground := Ground.phase }, { on := 1, ground := Ground.phase }, { on := 2, ground := Ground.phase }, { on := 3, ground := Ground.phase }, { on := 4, ground := Ground.phase }, { on := 5, ground := Ground.phase }, { on := 6, ground := Ground.phase }, { on := 7, ground := Ground.phase }, { on := 8, ground := Ground.phase }, { on := 9, ground := Ground.phase }, { on := 10, ground := Ground.phase }, { on := 11, ground := Ground.phase }, { on := 12, ground := Ground.phase }, { on := 13, ground := Ground.phase }, { on := 14, ground := Ground.phase }, { on := 15, ground := Ground.phase }, { on := 16, ground := Ground.phase }], guard := none }) (v := _) rfl (by kernel_rfl) (by kernel_rfl) (by kernel_rfl) (fun _ _ _ h => h) (Or.inl ⟨by rfl, ?hyA59⟩) ?reA59
          case hyA59 => (intro W hSw; (try dsimp only at hSw); go_simp; try with_reducible rfl)
          try simp only [Act.put, List.setIfInBounds_toArray, List.set_cons_zero, List.set_cons_succ]
          refine wpAnyJ_done (by kernel_rfl) ?_ _
          refine NoPanic.normal ?_
          have F9 := hide (Q61.out.fin R61.out)
          refine hKK _ _ (Met.intro (hJJ _ _ ?_))
          repeat apply Exists.intro
          refine ⟨?_, rfl⟩
          exact ⟨k59, gp, gq, rfl, rfl, F9⟩
        refine AllReadyJ.cons (o := { dst := some 18, op := Op.alloc 28, type := 0, pos := "ids.go:217", after := #[], guard := none }) rfl (fun K hK => ?_) AllReadyJ.nil
        go_simp
        refine hK.out _ _ (fun _ _ => CS.out _ (R50.out.al3).1) ?_
        clear hK K
        have R63 := hide R50.out.al3
        obtain ⟨W63, hW⟩ : ∃ X, X = W50.alloc (.cells #[.pointer none, .pointer none] 28) := ⟨_, rfl⟩
        obtain ⟨k63, hk⟩ : ∃ k, k = W50.heap.size := ⟨_, rfl⟩
        rw [← hW, ← hk] at R63 ⊢
        clear hW hk R50
        try simp only [Act.put, List.setIfInBounds_toArray, List.set_cons_zero, List.set_cons_succ]
        refine wpAnyJ_ready (rs := [7]) (by kernel_rfl) (by simp) ?_
        refine AllReadyJ.cons (o := { dst := some 162, op := Op.call { callee := Callee.builtin Builtin.append, args := #[Operand.tmp 160, Operand.tmp 161], argTypes := #[33, 33] }, type := 33, pos := "ids.go:217", after := #[{ on := 5, ground := Ground.data }, { on := 6, ground := Ground.data }], guard := none }) rfl (fun K hK => ?_) AllReadyJ.nil
        refine step_append_fw _ rfl (.tmp 160) (.tmp 161) rfl w2.heap.size (.slice (some ⟨k50, 0, none⟩) 0 0) v1 [] gs (by simp [Act.eval]) (R63.out.own1) (by simp [Act.eval]) (FW1.out _ R63.out.1) (by simp; omega) R63.out.1.size ?_
        intro vA W64 x1 x2 x3
        have R64 := hide (R63.out.app1 x1 x2 x3)
        clear x1 x2 x3 R63
        refine hK.out _ _ (fun _ _ => CS.out _ R64.out.1) ?_
        clear hK K
        try simp only [Act.put, List.setIfInBounds_toArray, List.set_cons_zero, List.set_cons_succ]
        refine wpAnyJ_ready (rs := [10]) (by kernel_rfl) (by simp) ?_
        refine AllReadyJ.cons (o := { dst := some 165, op := Op.call { callee := Callee.builtin Builtin.append, args := #[Operand.tmp 163, Operand.tmp 164], argTypes := #[33, 33] }, type := 33, pos := "ids.go:217", after := #[{ on := 8, ground := Ground.data }, { on := 9, ground := Ground.data }, { on := 7, ground := Ground.chain }], guard := none }) rfl (fun K hK => ?_) AllReadyJ.nil
        refine step_append_fw _ rfl (.tmp 163) (.tmp 164) rfl w2.heap.size (.slice (some ⟨k49, 0, none⟩) 0 0) v2 [] fr (by simp [Act.eval]) (R64.out.own2) (by simp [Act.eval]) (FW2.out _ R64.out.1) (by simp; omega) R64.out.1.size ?_
        intro vB W65 x1 x2 x3
        have R65 := hide (R64.out.app2 x1 x2 x3)
        clear x1 x2 x3 R64
        refine hK.out _ _ (fun _ _ => CS.out _ R65.out.1) ?_
        clear hK K
        try simp only [Act.put, List.setIfInBounds_toArray, List.set_cons_zero, List.set_cons_succ]
        refine wpAnyJ_ready (rs := [11]) (by kernel_rfl) (by simp) ?_
        refine AllReadyJ.cons (o := { dst := some 166, op := Op.call { callee := Callee.value (Operand.func 23), args := #[Operand.tmp 159, Operand.tmp 162, Operand.tmp 165], argTypes := #[3, 33, 33] }, type := 64, pos := "ids.go:217", after := #[{ on := 4, ground := Ground.data }, { on := 7, ground := Ground.data }, { on := 10, ground := Ground.data }, { on := 10, ground := Ground.chain }], guard := none }) rfl (fun K hK => ?_) AllReadyJ.nil
        go_simp
        refine (JF.out _ _ _ (R65.out.2.2.2.2.1 vA rfl) (R65.out.2.2.2.2.2.1 vB rfl)).mono ?_
        rintro e W66 ⟨gp, gq, S, T, rfl, hb, hp, hd, hS, hT, hST⟩
        have R66 := hide (R65.out.later hb)
        have Q66 := hide (R65.out.made hp hd hS hT hST)
        clear hb hp hd hS hT hST R65
        first | refine hK.out _ _ (fun _ _ => CS.out _ R66.out.1) ?_ | (go_wp2_with fail; refine hK.out _ _ (fun _ _ => CS.out _ R66.out.1) ?_)
        clear hK K
        try simp only [Act.put, List.setIfInBounds_toArray, List.set_cons_zero, List.set_cons_succ]
        refine' wpAnyJ_takeW (i := 12) (oi := { dst := some 154, op := Op.move (Operand.tmp 166), type := 64, pos := "ids.go:217", after := #[{ on := 11, ground := Ground.data }], guard := none }) (v := _) rfl (by kernel_rfl) (by kernel_rfl) (by kernel_rfl) (fun _ _ _ h => h) (Or.inl ⟨by rfl, ?hyA60⟩) ?reA60
        case hyA60 => (intro W hSw; (try dsimp only at hSw); go_simp; try with_reducible rfl)
        try simp only [Act.put, List.setIfInBounds_toArray, List.set_cons_zero, List.set_cons_succ]
        refine' wpAnyJ_takeW (i := 13) (oi := { dst := some 167, op := Op.extract (Operand.tmp 154) 0, type := 28, pos := "ids.go:217", after := #[{ on := 12, ground := Ground.data }], guard := none }) (v := _) rfl (by kernel_rfl) (by kernel_rfl) (by kernel_rfl) (fun _ _ _ h => h) (Or.inl ⟨by rfl, ?hyA61⟩) ?reA61
        case hyA61 => (intro W hSw; (try dsimp only at hSw); go_simp; try with_reducible rfl)
        try simp only [Act.put, List.setIfInBounds_toArray, List.set_cons_zero, List.set_cons_succ]
        refine' wpAnyJ_takeW (i := 14) (oi := { dst := some 168, op := Op.extract (Operand.tmp 154) 1, type := 4, pos := "ids.go:217", after := #[{ on := 12, ground := Ground.data }, { on := 16, ground := Ground.gcOnly Departure.lateStores }], guard := none }) (v := _) rfl (by kernel_rfl) (by kernel_rfl) (by kernel_rfl) (fun _ _ _ h => h) (Or.inl ⟨by rfl, ?hyA62⟩) ?reA62
        case hyA62 => (intro W hSw; (try dsimp only at hSw); go_simp; try with_reducible rfl)
        try simp only [Act.put, List.setIfInBounds_toArray, List.set_cons_zero, List.set_cons_succ]
        refine wpAnyJ_ready (rs := [16]) (by kernel_rfl) (by simp) ?_
        refine AllReadyJ.cons (o := { dst := none, op := Op.store 28 (Operand.tmp 18) (Operand.tmp 167), type := 0, pos := "ids.go:217", after := #[{ on := 15, ground := Ground.data }, { on := 13, ground := Ground.data }, { on := 11, ground := Ground.chain }, { on := 0, ground := Ground.phase }, { on := 1, ground := Ground.phase }, { on := 2, ground := Ground.phase }, { on := 3, ground := Ground.phase }, { on := 4, ground := Ground.phase }, { on := 5, ground := Ground.phase }, { on := 6, ground := Ground.phase }, { on := 7, ground := Ground.phase }, { on := 8, ground := Ground.phase }, { on := 9, ground := Ground.phase }, { on := 10, ground := Ground.phase }, { on := 11, ground := Ground.phase }, { on := 12, ground := Ground.phase }, { on := 13, ground := Ground.phase }, { on := 14, ground := Ground.textOnly Departure.lateStores }, { on := 15, ground := Ground.phase }], guard := none }) rfl (fun K hK => ?_) AllReadyJ.nil
        obtain ⟨b0, b1, f0, f1⟩ := row2' (R66.out.2.2.2.1 k63 rfl).2
        go_simp
        refine hK.out _ _ (fun h => absurd h (by decide)) ?_
        clear hK K
        try simp only [Act.put, List.setIfInBounds_toArray, List.set_cons_zero, List.set_cons_succ]
        refine' wpAnyJ_takeW (i := 17) (oi := { dst := some 19, op := Op.assign (Operand.tmp 168), type := 4, pos := "ids.go:217", after := #[{ on := 14, ground := Ground.data }, { on := 16, ground := Ground.chain }, { on := 0, ground := Ground.phase }, { on := 1, ground := Ground.phase }, { on := 2, ground := Ground.phase }, { on := 3, ground := Ground.phase }, { on := 4, ground := Ground.phase }, { on := 5, ground := Ground.phase }, { on := 6, ground := Ground.phase }, { on := 7, ground := Ground.phase }, { on := 8, ground := Ground.phase }, { on := 9, ground := Ground.phase }, { on := 10, ground := Ground.phase }, { on := 11, ground := Ground.phase }, { on := 12, ground := Ground.phase }, { on := 13, ground := Ground.phase }, { on := 14, ground := Ground.phase }, { on := 15, ground := Ground.phase }, { on := 16, ground := Ground.phase }], guard := none }) (v := _) rfl (by kernel_rfl) (by kernel_rfl) (by kernel_rfl) (fun _ _ _ h => h) (Or.inl ⟨by rfl, ?hyA63⟩) ?reA63
        case hyA63 => (intro W hSw; (try dsimp only at hSw); go_simp; try with_reducible rfl)
        try simp only [Act.put, List.setIfInBounds_toArray, List.set_cons_zero, List.set_cons_succ]
        refine wpAnyJ_done (by kernel_rfl) ?_ _
        refine NoPanic.normal ?_
        have F9 := hide (Q66.out.fin R66.out)
        refine hKK _ _ (Met.intro (hJJ _ _ ?_))
        repeat apply Exists.intro
        refine ⟨?_, rfl⟩
        exact ⟨k63, gp, gq, rfl, rfl, F9⟩
      refine AllReadyJ.cons (o := { dst := some 18, op := Op.alloc 28, type := 0, pos := "ids.go:217", after := #[], guard := none }) rfl (fun K hK => ?_) AllReadyJ.nil
      go_simp
      refine hK.out _ _ (fun _ _ => CS.out _ (R49.out.al3).1) ?_
      clear hK K
      have R68 := hide R49.out.al3
      obtain ⟨W68, hW⟩ : ∃ X, X = W49.alloc (.cells #[.pointer none, .pointer none] 28) := ⟨_, rfl⟩
      obtain ⟨k68, hk⟩ : ∃ k, k = W49.heap.size := ⟨_, rfl⟩
      rw [← hW, ← hk] at R68 ⊢
      clear hW hk R49
      try simp only [Act.put, List.setIfInBounds_toArray, List.set_cons_zero, List.set_cons_succ]
      refine wpAnyJ_ready (rs := [5]) (by kernel_rfl) (by simp) ?_
      refine AllReadyJ.cons (o := { dst := some 160, op := Op.buildSlice 33 0 #[], type := 33, pos := "ids.go:217", after := #[], guard := none }) rfl (fun K hK => ?_) AllReadyJ.nil
      go_simp
      refine hK.out _ _ (fun _ _ => CS.out _ (R68.out.al1).1) ?_
      clear hK K
      have R69 := hide R68.out.al1
      obtain ⟨W69, hW⟩ : ∃ X, X = W68.alloc (.cells #[] 3) := ⟨_, rfl⟩
      obtain ⟨k69, hk⟩ : ∃ k, k = W68.heap.size := ⟨_, rfl⟩
      rw [← hW, ← hk] at R69 ⊢
      clear hW hk R68
      try simp only [Act.put, List.setIfInBounds_toArray, List.set_cons_zero, List.set_cons_succ]
      refine wpAnyJ_ready (rs := [7]) (by kernel_rfl) (by simp) ?_
      refine AllReadyJ.cons (o := { dst := some 162, op := Op.call { callee := Callee.builtin Builtin.append, args := #[Operand.tmp 160, Operand.tmp 161], argTypes := #[33, 33] }, type := 33, pos := "ids.go:217", after := #[{ on := 5, ground := Ground.data }, { on := 6, ground := Ground.data }], guard := none }) rfl (fun K hK => ?_) AllReadyJ.nil
      refine step_append_fw _ rfl (.tmp 160) (.tmp 161) rfl w2.heap.size (.slice (some ⟨k69, 0, none⟩) 0 0) v1 [] gs (by simp [Act.eval]) (R69.out.own1) (by simp [Act.eval]) (FW1.out _ R69.out.1) (by simp; omega) R69.out.1.size ?_
      intro vA W70 x1 x2 x3
      have R70 := hide (R69.out.app1 x1 x2 x3)
      clear x1 x2 x3 R69
      refine hK.out _ _ (fun _ _ => CS.out _ R70.out.1) ?_
      clear hK K
      try simp only [Act.put, List.setIfInBounds_toArray, List.set_cons_zero, List.set_cons_succ]
      refine wpAnyJ_ready (rs := [10]) (by kernel_rfl) (by simp) ?_
      refine AllReadyJ.cons (o := { dst := some 165, op := Op.call { callee := Callee.builtin Builtin.append, args := #[Operand.tmp 163, Operand.tmp 164], argTypes := #[33, 33] }, type := 33, pos := "ids.go:217", after := #[{ on := 8, ground := Ground.data }, { on := 9, ground := Ground.data }, { on := 7, ground := Ground.chain }], guard := none }) rfl (fun K hK => ?_) AllReadyJ.nil
      refine step_append_fw _ rfl (.tmp 163) (.tmp 164) rfl w2.heap.size (.slice (some ⟨k49, 0, none⟩) 0 0) v2 [] fr (by simp [Act.eval]) (R70.out.own2) (by simp [Act.eval]) (FW2.out _ R70.out.1) (by simp; omega) R70.out.1.size ?_
      intro vB W71 x1 x2 x3
      have R71 := hide (R70.out.app2 x1 x2 x3)
      clear x1 x2 x3 R70
      refine hK.out _ _ (fun _ _ => CS.out _ R71.out.1) ?_
      clear hK K
      try simp only [Act.put, List.setIfInBounds_toArray, List.set_cons_zero, List.set_cons_succ]
      refine wpAnyJ_ready (rs := [11]) (by kernel_rfl) (by simp) ?_
      refine AllReadyJ.cons (o := { dst := some 166, op := Op.call { callee := Callee.value (Operand.func 23), args := #[Operand.tmp 159, Operand.tmp 162, Operand.tmp 165], argTypes := #[3, 33, 33] }, type := 64, pos := "ids.go:217", after := #[{ on := 4, ground := Ground.data }, { on := 7, ground := Ground.data }, { on := 10, ground := Ground.data }, { on := 10, ground := Ground.chain }], guard := none }) rfl (fun K hK => ?_) AllReadyJ.nil
      go_simp
      refine (JF.out _ _ _ (R71.out.2.2.2.2.1 vA rfl) (R71.out.2.2.2.2.2.1 vB rfl)).mono ?_
      rintro e W72 ⟨gp, gq, S, T, rfl, hb, hp, hd, hS, hT, hST⟩
      have R72 := hide (R71.out.later hb)
      have Q72 := hide (R71.out.made hp hd hS hT hST)
      clear hb hp hd hS hT hST R71
      first | refine hK.out _ _ (fun _ _ => CS.out _ R72.out.1) ?_ | (go_wp2_with fail; refine hK.out _ _ (fun _ _ => CS.out _ R72.out.1) ?_)
      clear hK K
      try simp only [Act.put, List.setIfInBounds_toArray, List.set_cons_zero, List.set_cons_succ]
      refine' wpAnyJ_takeW (i := 12) (oi := { dst := some 154, op := Op.move (Operand.tmp 166), type := 64, pos := "ids.go:217", after := #[{ on := 11, ground := Ground.data }], guard := none }) (v := _) rfl (by kernel_rfl) (by kernel_rfl) (by kernel_rfl) (fun _ _ _ h => h) (Or.inl ⟨by rfl, ?hyA64⟩) ?reA64
      case hyA64 => (intro W hSw; (try dsimp only at hSw); go_simp; try with_reducible rfl)
      try simp only [Act.put, List.setIfInBounds_toArray, List.set_cons_zero, List.set_cons_succ]
      refine' wpAnyJ_takeW (i := 13) (oi := { dst := some 167, op := Op.extract (Operand.tmp 154) 0, type := 28, pos := "ids.go:217", after := #[{ on := 12, ground := Ground.data }], guard := none }) (v := _) rfl (by kernel_rfl) (by kernel_rfl) (by kernel_rfl) (fun _ _ _ h => h) (Or.inl ⟨by rfl, ?hyA65⟩) ?reA65
      case hyA65 => (intro W hSw; (try dsimp only at hSw); go_simp; try with_reducible rfl)
      try simp only [Act.put, List.setIfInBounds_toArray, List.set_cons_zero, List.set_cons_succ]
      refine' wpAnyJ_takeW (i := 14) (oi := { dst := some 168, op := Op.extract (Operand.tmp 154) 1, type := 4, pos := "ids.go:217", after := #[{ on := 12, ground := Ground.data }, { on := 16, ground := Ground.gcOnly Departure.lateStores }], guard := none }) (v := _) rfl (by kernel_rfl) (by kernel_rfl) (by kernel_rfl) (fun _ _ _ h => h) (Or.inl ⟨by rfl, ?hyA66⟩) ?reA66
      case hyA66 => (intro W hSw; (try dsimp only at hSw); go_simp; try with_reducible rfl)
      try simp only [Act.put, List.setIfInBounds_toArray, List.set_cons_zero, List.set_cons_succ]
      refine wpAnyJ_ready (rs := [16]) (by kernel_rfl) (by simp) ?_
      refine AllReadyJ.cons (o := { dst := none, op := Op.store 28 (Operand.tmp 18) (Operand.tmp 167), type := 0, pos := "ids.go:217", after := #[{ on := 15, ground := Ground.data }, { on := 13, ground := Ground.data }, { on := 11, ground := Ground.chain }, { on := 0, ground := Ground.phase }, { on := 1, ground := Ground.phase }, { on := 2, ground := Ground.phase }, { on := 3, ground := Ground.phase }, { on := 4, ground := Ground.phase }, { on := 5, ground := Ground.phase }, { on := 6, ground := Ground.phase }, { on := 7, ground := Ground.phase }, { on := 8, ground := Ground.phase }, { on := 9, ground := Ground.phase }, { on := 10, ground := Ground.phase }, { on := 11, ground := Ground.phase }, { on := 12, ground := Ground.phase }, { on := 13, ground := Ground.phase }, { on := 14, ground := Ground.textOnly Departure.lateStores }, { on := 15, ground := Ground.phase }], guard := none }) rfl (fun K hK => ?_) AllReadyJ.nil
      obtain ⟨b0, b1, f0, f1⟩ := row2' (R72.out.2.2.2.1 k68 rfl).2
      go_simp
      refine hK.out _ _ (fun h => absurd h (by decide)) ?_
      clear hK K
      try simp only [Act.put, List.setIfInBounds_toArray, List.set_cons_zero, List.set_cons_succ]
      refine' wpAnyJ_takeW (i := 17) (oi := { dst := some 19, op := Op.assign (Operand.tmp 168), type := 4, pos := "ids.go:217", after := #[{ on := 14, ground := Ground.data }, { on := 16, ground := Ground.chain }, { on := 0, ground := Ground.phase }, { on := 1, ground := Ground.phase }, { on := 2, ground := Ground.phase }, { on := 3, ground := Ground.phase }, { on := 4, ground := Ground.phase }, { on := 5, ground := Ground.phase }, { on := 6, ground := Ground.phase }, { on := 7, ground := Ground.phase }, { on := 8, ground := Ground.phase }, { on := 9, ground := Ground.phase }, { on := 10, ground := Ground.phase }, { on := 11, ground := Ground.phase }, { on := 12, ground := Ground.phase }, { on := 13, ground := Ground.phase }, { on := 14, ground := Ground.phase }, { on := 15, ground := Ground.phase }, { on := 16, ground := Ground.phase }], guard := none }) (v := _) rfl (by kernel_rfl) (by kernel_rfl) (by kernel_rfl) (fun _ _ _ h => h) (Or.inl ⟨by rfl, ?hyA67⟩) ?reA67
      case hyA67 => (intro W hSw; (try dsimp only at hSw); go_simp; try with_reducible rfl)
      try simp only [Act.put, List.setIfInBounds_toArray, List.set_cons_zero, List.set_cons_succ]
      refine wpAnyJ_done (by kernel_rfl) ?_ _
      refine NoPanic.normal ?_
      have F9 := hide (Q72.out.fin R72.out)
      refine hKK _ _ (Met.intro (hJJ _ _ ?_))
      repeat apply Exists.intro
      refine ⟨?_, rfl⟩
      exact ⟨k68, gp, gq, rfl, rfl, F9⟩
    refine AllReadyJ.cons (o := { dst := some 18, op := Op.alloc 28, type := 0, pos := "ids.go:217", after := #[], guard := none }) rfl (fun K hK => ?_) AllReadyJ.nil
    go_simp
    refine hK.out _ _ (fun _ _ => CS.out _ (R0.out.al3).1) ?_
    clear hK K
    have R74 := hide R0.out.al3
    obtain ⟨W74, hW⟩ : ∃ X, X = W0.alloc (.cells #[.pointer none, .pointer none] 28) := ⟨_, rfl⟩
    obtain ⟨k74, hk⟩ : ∃ k, k = W0.heap.size := ⟨_, rfl⟩
    rw [← hW, ← hk] at R74 ⊢
    clear hW hk R0
    try simp only [Act.put, List.setIfInBounds_toArray, List.set_cons_zero, List.set_cons_succ]
    refine wpAnyJ_ready (rs := [5, 8]) (by kernel_rfl) (by simp) ?_
    refine AllReadyJ.cons (o := { dst := some 160, op := Op.buildSlice 33 0 #[], type := 33, pos := "ids.go:217", after := #[], guard := none }) rfl (fun K hK => ?_) ?_
    · go_simp
      refine hK.out _ _ (fun _ _ => CS.out _ (R74.out.al1).1) ?_
      clear hK K
      have R75 := hide R74.out.al1
      obtain ⟨W75, hW⟩ : ∃ X, X = W74.alloc (.cells #[] 3) := ⟨_, rfl⟩
      obtain ⟨k75, hk⟩ : ∃ k, k = W74.heap.size := ⟨_, rfl⟩
      rw [← hW, ← hk] at R75 ⊢
      clear hW hk R74
      try simp only [Act.put, List.setIfInBounds_toArray, List.set_cons_zero, List.set_cons_succ]
      refine wpAnyJ_ready (rs := [7, 8]) (by kernel_rfl) (by simp) ?_
      refine AllReadyJ.cons (o := { dst := some 162, op := Op.call { callee := Callee.builtin Builtin.append, args := #[Operand.tmp 160, Operand.tmp 161], argTypes := #[33, 33] }, type := 33, pos := "ids.go:217", after := #[{ on := 5, ground := Ground.data }, { on := 6, ground := Ground.data }], guard := none }) rfl (fun K hK => ?_) ?_
      · refine step_append_fw _ rfl (.tmp 160) (.tmp 161) rfl w2.heap.size (.slice (some ⟨k75, 0, none⟩) 0 0) v1 [] gs (by simp [Act.eval]) (R75.out.own1) (by simp [Act.eval]) (FW1.out _ R75.out.1) (by simp; omega) R75.out.1.size ?_
        intro vA W76 x1 x2 x3
        have R76 := hide (R75.out.app1 x1 x2 x3)
        clear x1 x2 x3 R75
        refine hK.out _ _ (fun _ _ => CS.out _ R76.out.1) ?_
        clear hK K
        try simp only [Act.put, List.setIfInBounds_toArray, List.set_cons_zero, List.set_cons_succ]
        refine wpAnyJ_ready (rs := [8]) (by kernel_rfl) (by simp) ?_
        refine AllReadyJ.cons (o := { dst := some 163, op := Op.buildSlice 33 0 #[], type := 33, pos := "ids.go:217", after := #[], guard := none }) rfl (fun K hK => ?_) AllReadyJ.nil
        go_simp
        refine hK.out _ _ (fun _ _ => CS.out _ (R76.out.al2).1) ?_
        clear hK K
        have R77 := hide R76.out.al2
        obtain ⟨W77, hW⟩ : ∃ X, X = W76.alloc (.cells #[] 3) := ⟨_, rfl⟩
        obtain ⟨k77, hk⟩ : ∃ k, k = W76.heap.size := ⟨_, rfl⟩
        rw [← hW, ← hk] at R77 ⊢
        clear hW hk R76
        try simp only [Act.put, List.setIfInBounds_toArray, List.set_cons_zero, List.set_cons_succ]
        refine wpAnyJ_ready (rs := [10]) (by kernel_rfl) (by simp) ?_
        refine AllReadyJ.cons (o := { dst := some 165, op := Op.call { callee := Callee.builtin Builtin.append, args := #[Operand.tmp 163, Operand.tmp 164], argTypes := #[33, 33] }, type := 33, pos := "ids.go:217", after := #[{ on := 8, ground := Ground.data }, { on := 9, ground := Ground.data }, { on := 7, ground := Ground.chain }], guard := none }) rfl (fun K hK => ?_) AllReadyJ.nil
        refine step_append_fw _ rfl (.tmp 163) (.tmp 164) rfl w2.heap.size (.slice (some ⟨k77, 0, none⟩) 0 0) v2 [] fr (by simp [Act.eval]) (R77.out.own2) (by simp [Act.eval]) (FW2.out _ R77.out.1) (by simp; omega) R77.out.1.size ?_
        intro vB W78 x1 x2 x3
        have R78 := hide (R77.out.app2 x1 x2 x3)
        clear x1 x2 x3 R77
        refine hK.out _ _ (fun _ _ => CS.out _ R78.out.1) ?_
        clear hK K
        try simp only [Act.put, List.setIfInBounds_toArray, List.set_cons_zero, List.set_cons_succ]
        refine wpAnyJ_ready (rs := [11]) (by kernel_rfl) (by simp) ?_
        refine AllReadyJ.cons (o := { dst := some 166, op := Op.call { callee := Callee.value (Operand.func 23), args := #[Operand.tmp 159, Operand.tmp 162, Operand.tmp 165], argTypes := #[3, 33, 33] }, type := 64, pos := "ids.go:217", after := #[{ on := 4, ground := Ground.data }, { on := 7, ground := Ground.data }, { on := 10, ground := Ground.data }, { on := 10, ground := Ground.chain }], guard := none }) rfl (fun K hK => ?_) AllReadyJ.nil
        go_simp
        refine (JF.out _ _ _ (R78.out.2.2.2.2.1 vA rfl) (R78.out.2.2.2.2.2.1 vB rfl)).mono ?_
        rintro e W79 ⟨gp, gq, S, T, rfl, hb, hp, hd, hS, hT, hST⟩
        have R79 := hide (R78.out.later hb)
        have Q79 := hide (R78.out.made hp hd hS hT hST)
        clear hb hp hd hS hT hST R78
        first | refine hK.out _ _ (fun _ _ => CS.out _ R79.out.1) ?_ | (go_wp2_with fail; refine hK.out _ _ (fun _ _ => CS.out _ R79.out.1) ?_)
        clear hK K
        try simp only [Act.put, List.setIfInBounds_toArray, List.set_cons_zero, List.set_cons_succ]
        refine' wpAnyJ_takeW (i := 12) (oi := { dst := some 154, op := Op.move (Operand.tmp 166), type := 64, pos := "ids.go:217", after := #[{ on := 11, ground := Ground.data }], guard := none }) (v := _) rfl (by kernel_rfl) (by kernel_rfl) (by kernel_rfl) (fun _ _ _ h => h) (Or.inl ⟨by rfl, ?hyA68⟩) ?reA68
        case hyA68 => (intro W hSw; (try dsimp only at hSw); go_simp; try with_reducible rfl)
        try simp only [Act.put, List.setIfInBounds_toArray, List.set_cons_zero, List.set_cons_succ]
        refine' wpAnyJ_takeW (i := 13) (oi := { dst := some 167, op := Op.extract (Operand.tmp 154) 0, type := 28, pos := "ids.go:217", after := #[{ on := 12, ground := Ground.data }], guard := none }) (v := _) rfl (by kernel_rfl) (by kernel_rfl) (by kernel_rfl) (fun _ _ _ h => h) (Or.inl ⟨by rfl, ?hyA69⟩) ?reA69
        case hyA69 => (intro W hSw; (try dsimp only at hSw); go_simp; try with_reducible rfl)
        try simp only [Act.put, List.setIfInBounds_toArray, List.set_cons_zero, List.set_cons_succ]
        refine' wpAnyJ_takeW (i := 14) (oi := { dst := some 168, op := Op.extract (Operand.tmp 154) 1, type := 4, pos := "ids.go:217", after := #[{ on := 12, ground := Ground.data }, { on := 16, ground := Ground.gcOnly Departure.lateStores }], guard := none }) (v := _) rfl (by kernel_rfl) (by kernel_rfl) (by kernel_rfl) (fun _ _ _ h => h) (Or.inl ⟨by rfl, ?hyA70⟩) ?reA70
        case hyA70 => (intro W hSw; (try dsimp only at hSw); go_simp; try with_reducible rfl)
        try simp only [Act.put, List.setIfInBounds_toArray, List.set_cons_zero, List.set_cons_succ]
        refine wpAnyJ_ready (rs := [16]) (by kernel_rfl) (by simp) ?_
        refine AllReadyJ.cons (o := { dst := none, op := Op.store 28 (Operand.tmp 18) (Operand.tmp 167), type := 0, pos := "ids.go:217", after := #[{ on := 15, ground := Ground.data }, { on := 13, ground := Ground.data }, { on := 11, ground := Ground.chain }, { on := 0, ground := Ground.phase }, { on := 1, ground := Ground.phase }, { on := 2, ground := Ground.phase }, { on := 3, ground := Ground.phase }, { on := 4, ground := Ground.phase }, { on := 5, ground := Ground.phase }, { on := 6, ground := Ground.phase }, { on := 7, ground := Ground.phase }, { on := 8, ground := Ground.phase }, { on := 9, ground := Ground.phase }, { on := 10, ground := Ground.phase }, { on := 11, ground := Ground.phase }, { on := 12, ground := Ground.phase }, { on := 13, ground := Ground.phase }, { on := 14, ground := Ground.textOnly Departure.lateStores }, { on := 15, ground := Ground.phase }], guard := none }) rfl (fun K hK => ?_) AllReadyJ.nil
        obtain ⟨b0, b1, f0, f1⟩ := row2' (R79.out.2.2.2.1 k74 rfl).2
        go_simp
        refine hK.out _ _ (fun h => absurd h (by decide)) ?_
        clear hK K
        try simp only [Act.put, List.setIfInBounds_toArray, List.set_cons_zero, List.set_cons_succ]
        refine' wpAnyJ_takeW (i := 17) (oi := { dst := some 19, op := Op.assign (Operand.tmp 168), type := 4, pos := "ids.go:217", after := #[{ on := 14, ground := Ground.data }, { on := 16, ground := Ground.chain }, { on := 0, ground := Ground.phase }, { on := 1, ground := Ground.phase }, { on := 2, ground := Ground.phase }, { on := 3, ground := Ground.phase }, { on := 4, ground := Ground.phase }, { on := 5, ground := Ground.phase }, { on := 6, ground := Ground.phase }, { on := 7, ground := Ground.phase }, { on := 8, ground := Ground.phase }, { on := 9, ground := Ground.phase }, { on := 10, ground := Ground.phase }, { on := 11, ground := Ground.phase }, { on := 12, ground := Ground.phase }, { on := 13, ground := Ground.phase }, { on := 14, ground := Ground.phase }, { on := 15, ground := Ground.phase }, { on := 16, ground := Ground.phase }], guard := none }) (v := _) rfl (by kernel_rfl) (by kernel_rfl) (by kernel_rfl) (fun _ _ _ h => h) (Or.inl ⟨by rfl, ?hyA71⟩) ?reA71
        case hyA71 => (intro W hSw; (try dsimp only at hSw); go_simp; try with_reducible rfl)
        try simp only [Act.put, List.setIfInBounds_toArray, List.set_cons_zero, List.set_cons_succ]
        refine wpAnyJ_done (by kernel_rfl) ?_ _
        refine NoPanic.normal ?_
        have F9 := hide (Q79.out.fin R79.out)
        refine hKK _ _ (Met.intro (hJJ _ _ ?_))
        repeat apply Exists.intro
        refine ⟨?_, rfl⟩
        exact ⟨k74, gp, gq, rfl, rfl, F9⟩
      refine AllReadyJ.cons (o := { dst := some 163, op := Op.buildSlice 33 0 #[], type := 33, pos := "ids.go:217", after := #[], guard := none }) rfl (fun K hK => ?_) AllReadyJ.nil
      go_simp
      refine hK.out _ _ (fun _ _ => CS.out _ (R75.out.al2).1) ?_
      clear hK K
      have R81 := hide R75.out.al2
      obtain ⟨W81, hW⟩ : ∃ X, X = W75.alloc (.cells #[] 3) := ⟨_, rfl⟩
      obtain ⟨k81, hk⟩ : ∃ k, k = W75.heap.size := ⟨_, rfl⟩
      rw [← hW, ← hk] at R81 ⊢
      clear hW hk R75
      try simp only [Act.put, List.setIfInBounds_toArray, List.set_cons_zero, List.set_cons_succ]
      refine wpAnyJ_ready (rs := [7]) (by kernel_rfl) (by simp) ?_
      refine AllReadyJ.cons (o := { dst := some 162, op := Op.call { callee := Callee.builtin Builtin.append, args := #[Operand.tmp 160, Operand.tmp 161], argTypes := #[33, 33] }, type := 33, pos := "ids.go:217", after := #[{ on := 5, ground := Ground.data }, { on := 6, ground := Ground.data }], guard := none }) rfl (fun K hK => ?_) AllReadyJ.nil
      refine step_append_fw _ rfl (.tmp 160) (.tmp 161) rfl w2.heap.size (.slice (some ⟨k75, 0, none⟩) 0 0) v1 [] gs (by simp [Act.eval]) (R81.out.own1) (by simp [Act.eval]) (FW1.out _ R81.out.1) (by simp; omega) R81.out.1.size ?_
      intro vA W82 x1 x2 x3
      have R82 := hide (R81.out.app1 x1 x2 x3)
      clear x1 x2 x3 R81
      refine hK.out _ _ (fun _ _ => CS.out _ R82.out.1) ?_
      clear hK K
      try simp only [Act.put, List.setIfInBounds_toArray, List.set_cons_zero, List.set_cons_succ]
      refine wpAnyJ_ready (rs := [10]) (by kernel_rfl) (by simp) ?_
      refine AllReadyJ.cons (o := { dst := some 165, op := Op.call { callee := Callee.builtin Builtin.append, args := #[Operand.tmp 163, Operand.tmp 164], argTypes := #[33, 33] }, type := 33, pos := "ids.go:217", after := #[{ on := 8, ground := Ground.data }, { on := 9, ground := Ground.data }, { on := 7, ground := Ground.chain }], guard := none }) rfl (fun K hK => ?_) AllReadyJ.nil
      refine step_append_fw _ rfl (.tmp 163) (.tmp 164) rfl w2.heap.size (.slice (some ⟨k81, 0, none⟩) 0 0) v2 [] fr (by simp [Act.eval]) (R82.out.own2) (by simp [Act.eval]) (FW2.out _ R82.out.1) (by simp; omega) R82.out.1.size ?_
      intro vB W83 x1 x2 x3
      have R83 := hide (R82.out.app2 x1 x2 x3)
      clear x1 x2 x3 R82
      refine hK.out _ _ (fun _ _ => CS.out _ R83.out.1) ?_
      clear hK K
      try simp only [Act.put, List.setIfInBounds_toArray, List.set_cons_zero, List.set_cons_succ]
      refine wpAnyJ_ready (rs := [11]) (by kernel_rfl) (by simp) ?_
      refine AllReadyJ.cons (o := { dst := some 166, op := Op.call { callee := Callee.value (Operand.func 23), args := #[Operand.tmp 159, Operand.tmp 162, Operand.tmp 165], argTypes := #[3, 33, 33] }, type := 64, pos := "ids.go:217", after := #[{ on := 4, ground := Ground.data }, { on := 7, ground := Ground.data }, { on := 10, ground := Ground.data }, { on := 10, ground := Ground.chain }], guard := none }) rfl (fun K hK => ?_) AllReadyJ.nil
      go_simp
      refine (JF.out _ _ _ (R83.out.2.2.2.2.1 vA rfl) (R83.out.2.2.2.2.2.1 vB rfl)).mono ?_
      rintro e W84 ⟨gp, gq, S, T, rfl, hb, hp, hd, hS, hT, hST⟩
      have R84 := hide (R83.out.later hb)
      have Q84 := hide (R83.out.made hp hd hS hT hST)
      clear hb hp hd hS hT hST R83
      first | refine hK.out _ _ (fun _ _ => CS.out _ R84.out.1) ?_ | (go_wp2_with fail; refine hK.out _ _ (fun _ _ => CS.out _ R84.out.1) ?_)
      clear hK K
      try simp only [Act.put, List.setIfInBounds_toArray, List.set_cons_zero, List.set_cons_succ]
      refine' wpAnyJ_takeW (i := 12) (oi := { dst := some 154, op := Op.move (Operand.tmp 166), type := 64, pos := "ids.go:217", after := #[{ on := 11, ground := Ground.data }], guard := none }) (v := _) rfl (by kernel_rfl) (by kernel_rfl) (by kernel_rfl) (fun _ _ _ h => h) (Or.inl ⟨by rfl, ?hyA72⟩) ?reA72
      case hyA72 => (intro W hSw; (try dsimp only at hSw); go_simp; try with_reducible rfl)
      try simp only [Act.put, List.setIfInBounds_toArray, List.set_cons_zero, List.set_cons_succ]
      refine' wpAnyJ_takeW (i := 13) (oi := { dst := some 167, op := Op.extract (Operand.tmp 154) 0, type := 28, pos := "ids.go:217", after := #[{ on := 12, ground := Ground.data }], guard := none }) (v := _) rfl (by kernel_rfl) (by kernel_rfl) (by kernel_rfl) (fun _ _ _ h => h) (Or.inl ⟨by rfl, ?hyA73⟩) ?reA73
      case hyA73 => (intro W hSw; (try dsimp only at hSw); go_simp; try with_reducible rfl)
      try simp only [Act.put, List.setIfInBounds_toArray, List.set_cons_zero, List.set_cons_succ]
      refine' wpAnyJ_takeW (i := 14) (oi := { dst := some 168, op := Op.extract (Operand.tmp 154) 1, type := 4, pos := "ids.go:217", after := #[{ on := 12, ground := Ground.data }, { on := 16, ground := Ground.gcOnly Departure.lateStores }], guard := none }) (v := _) rfl (by kernel_rfl) (by kernel_rfl) (by kernel_rfl) (fun _ _ _ h => h) (Or.inl ⟨by rfl, ?hyA74⟩) ?reA74
      case hyA74 => (intro W hSw; (try dsimp only at hSw); go_simp; try with_reducible rfl)
      try simp only [Act.put, List.setIfInBounds_toArray, List.set_cons_zero, List.set_cons_succ]
      refine wpAnyJ_ready (rs := [16]) (by kernel_rfl) (by simp) ?_
      refine AllReadyJ.cons (o := { dst := none, op := Op.store 28 (Operand.tmp 18) (Operand.tmp 167), type := 0, pos := "ids.go:217", after := #[{ on := 15, ground := Ground.data }, { on := 13, ground := Ground.data }, { on := 11, ground := Ground.chain }, { on := 0, ground := Ground.phase }, { on := 1, ground := Ground.phase }, { on := 2, ground := Ground.phase }, { on := 3, ground := Ground.phase }, { on := 4, ground := Ground.phase }, { on := 5, ground := Ground.phase }, { on := 6, ground := Ground.phase }, { on := 7, ground := Ground.phase }, { on := 8, ground := Ground.phase }, { on := 9, ground := Ground.phase }, { on := 10, ground := Ground.phase }, { on := 11, ground := Ground.phase }, { on := 12, ground := Ground.phase }, { on := 13, ground := Ground.phase }, { on := 14, ground := Ground.textOnly Departure.lateStores }, { on := 15, ground := Ground.phase }], guard := none }) rfl (fun K hK => ?_) AllReadyJ.nil
      obtain ⟨b0, b1, f0, f1⟩ := row2' (R84.out.2.2.2.1 k74 rfl).2
      go_simp
      refine hK.out _ _ (fun h => absurd h (by decide)) ?_
      clear hK K
      try simp only [Act.put, List.setIfInBounds_toArray, List.set_cons_zero, List.set_cons_succ]
      refine' wpAnyJ_takeW (i := 17) (oi := { dst := some 19, op := Op.assign (Operand.tmp 168), type := 4, pos := "ids.go:217", after := #[{ on := 14, ground := Ground.data }, { on := 16, ground := Ground.chain }, { on := 0, ground := Ground.phase }, { on := 1, ground := Ground.phase }, { on := 2, ground := Ground.phase }, { on := 3, ground := Ground.phase }, { on := 4, ground := Ground.phase }, { on := 5, ground := Ground.phase }, { on := 6, ground := Ground.phase }, { on := 7, ground := Ground.phase }, { on := 8, ground := Ground.phase }, { on := 9, ground := Ground.phase }, { on := 10, ground := Ground.phase }, { on := 11, ground := Ground.phase }, { on := 12, ground := Ground.phase }, { on := 13, ground := Ground.phase }, { on := 14, ground := Ground.phase }, { on := 15, ground := Ground.phase }, { on := 16, ground := Ground.phase }], guard := none }) (v := _) rfl (by kernel_rfl) (by kernel_rfl) (by kernel_rfl) (fun _ _ _ h => h) (Or.inl ⟨by rfl, ?hyA75⟩) ?reA75
      case hyA75 => (intro W hSw; (try dsimp only at hSw); go_simp; try with_reducible rfl)
      try simp only [Act.put, List.setIfInBounds_toArray, List.set_cons_zero, List.set_cons_succ]
      refine wpAnyJ_done (by kernel_rfl) ?_ _
      refine NoPanic.normal ?_
      have F9 := hide (Q84.out.fin R84.out)
      refine hKK _ _ (Met.intro (hJJ _ _ ?_))
      repeat apply Exists.intro
      refine ⟨?_, rfl⟩
      exact ⟨k74, gp, gq, rfl, rfl, F9⟩
    refine AllReadyJ.cons (o := { dst := some 163, op := Op.buildSlice 33 0 #[], type := 33, pos := "ids.go:217", after := #[], guard := none }) rfl (fun K hK => ?_) AllReadyJ.nil
    go_simp
    refine hK.out _ _ (fun _ _ => CS.out _ (R74.out.al2).1) ?_
    clear hK K
    have R86 := hide R74.out.al2
    obtain ⟨W86, hW⟩ : ∃ X, X = W74.alloc (.cells #[] 3) := ⟨_, rfl⟩
    obtain ⟨k86, hk⟩ : ∃ k, k = W74.heap.size := ⟨_, rfl⟩
    rw [← hW, ← hk] at R86 ⊢
    clear hW hk R74
    try simp only [Act.put, List.setIfInBounds_toArray, List.set_cons_zero, List.set_cons_succ]
    refine wpAnyJ_ready (rs := [5]) (by kernel_rfl) (by simp) ?_
    refine AllReadyJ.cons (o := { dst := some 160, op := Op.buildSlice 33 0 #[], type := 33, pos := "ids.go:217", after := #[], guard := none }) rfl (fun K hK => ?_) AllReadyJ.nil
    go_simp
    refine hK.out _ _ (fun _ _ => CS.out _ (R86.out.al1).1) ?_
    clear hK K
    have R87 := hide R86.out.al1
    obtain ⟨W87, hW⟩ : ∃ X, X = W86.alloc (.cells #[] 3) := ⟨_, rfl⟩
    obtain ⟨k87, hk⟩ : ∃ k, k = W86.heap.size := ⟨_, rfl⟩
    rw [← hW, ← hk] at R87 ⊢
    clear hW hk R86
    try simp only [Act.put, List.setIfInBounds_toArray, List.set_cons_zero, List.set_cons_succ]
    refine wpAnyJ_ready (rs := [7]) (by kernel_rfl) (by simp) ?_
    refine AllReadyJ.cons (o := { dst := some 162, op := Op.call { callee := Callee.builtin Builtin.append, args := #[Operand.tmp 160, Operand.tmp 161], argTypes := #[33, 33] }, type := 33, pos := "ids.go:217", after := #[{ on := 5, ground := Ground.data }, { on := 6, ground := Ground.data }], guard := none }) rfl (fun K hK => ?_) AllReadyJ.nil
    refine step_append_fw _ rfl (.tmp 160) (.tmp 161) rfl w2.heap.size (.slice (some ⟨k87, 0, none⟩) 0 0) v1 [] gs (by simp [Act.eval]) (R87.out.own1) (by simp [Act.eval]) (FW1.out _ R87.out.1) (by simp; omega) R87.out.1.size ?_
    intro vA W88 x1 x2 x3
    have R88 := hide (R87.out.app1 x1 x2 x3)
    clear x1 x2 x3 R87
    refine hK.out _ _ (fun _ _ => CS.out _ R88.out.1) ?_
    clear hK K
    try simp only [Act.put, List.setIfInBounds_toArray, List.set_cons_zero, List.set_cons_succ]
    refine wpAnyJ_ready (rs := [10]) (by kernel_rfl) (by simp) ?_
    refine AllReadyJ.cons (o := { dst := some 165, op := Op.call { callee := Callee.builtin Builtin.append, args := #[Operand.tmp 163, Operand.tmp 164], argTypes := #[33, 33] }, type := 33, pos := "ids.go:217", after := #[{ on := 8, ground := Ground.data }, { on := 9, ground := Ground.data }, { on := 7, ground := Ground.chain }], guard := none }) rfl (fun K hK => ?_) AllReadyJ.nil
    refine step_append_fw _ rfl (.tmp 163) (.tmp 164) rfl w2.heap.size (.slice (some ⟨k86, 0, none⟩) 0 0) v2 [] fr (by simp [Act.eval]) (R88.out.own2) (by simp [Act.eval]) (FW2.out _ R88.out.1) (by simp; omega) R88.out.1.size ?_
    intro vB W89 x1 x2 x3
    have R89 := hide (R88.out.app2 x1 x2 x3)
    clear x1 x2 x3 R88
    refine hK.out _ _ (fun _ _ => CS.out _ R89.out.1) ?_
    clear hK K
    try simp only [Act.put, List.setIfInBounds_toArray, List.set_cons_zero, List.set_cons_succ]
    refine wpAnyJ_ready (rs := [11]) (by kernel_rfl) (by simp) ?_
    refine AllReadyJ.cons (o := { dst := some 166, op := Op.call { callee := Callee.value (Operand.func 23), args := #[Operand.tmp 159, Operand.tmp 162, Operand.tmp 165], argTypes := #[3, 33, 33] }, type := 64, pos := "ids.go:217", after := #[{ on := 4, ground := Ground.data }, { on := 7, ground := Ground.data }, { on := 10, ground := Ground.data }, { on := 10, ground := Ground.chain }], guard := none }) rfl (fun K hK => ?_) AllReadyJ.nil
    go_simp
    refine (JF.out _ _ _ (R89.out.2.2.2.2.1 vA rfl) (R89.out.2.2.2.2.2.1 vB rfl)).mono ?_
    rintro e W90 ⟨gp, gq, S, T, rfl, hb, hp, hd, hS, hT, hST⟩
    have R90 := hide (R89.out.later hb)
    have Q90 := hide (R89.out.made hp hd hS hT hST)
    clear hb hp hd hS hT hST R89
    first | refine hK.out _ _ (fun _ _ => CS.out _ R90.out.1) ?_ | (go_wp2_with fail; refine hK.out _ _ (fun _ _ => CS.out _ R90.out.1) ?_)
    clear hK K
    try simp only [Act.put, List.setIfInBounds_toArray, List.set_cons_zero, List.set_cons_succ]
    refine' wpAnyJ_takeW (i := 12) (oi := { dst := some 154, op := Op.move (Operand.tmp 166), type := 64, pos := "ids.go:217", after := #[{ on := 11, ground := Ground.data }], guard := none }) (v := _) rfl (by kernel_rfl) (by kernel_rfl) (by kernel_rfl) (fun _ _ _ h => h) (Or.inl ⟨by rfl, ?hyA76⟩) ?reA76
    case hyA76 => (intro W hSw; (try dsimp only at hSw); go_simp; try with_reducible rfl)
    try simp only [Act.put, List.setIfInBounds_toArray, List.set_cons_zero, List.set_cons_succ]
    refine' wpAnyJ_takeW (i := 13) (oi := { dst := some 167, op := Op.extract (Operand.tmp 154) 0, type := 28, pos := "ids.go:217", after := #[{ on := 12, ground := Ground.data }], guard := none }) (v := _) rfl (by kernel_rfl) (by kernel_rfl) (by kernel_rfl) (fun _ _ _ h => h) (Or.inl ⟨by rfl, ?hyA77⟩) ?reA77
    case hyA77 => (intro W hSw; (try dsimp only at hSw); go_simp; try with_reducible rfl)
    try simp only [Act.put, List.setIfInBounds_toArray, List.set_cons_zero, List.set_cons_succ]
    refine' wpAnyJ_takeW (i := 14) (oi := { dst := some 168, op := Op.extract (Operand.tmp 154) 1, type := 4, pos := "ids.go:217", after := #[{ on := 12, ground := Ground.data }, { on := 16, ground := Ground.gcOnly Departure.lateStores }], guard := none }) (v := _) rfl (by kernel_rfl) (by kernel_rfl) (by kernel_rfl) (fun _ _ _ h => h) (Or.inl ⟨by rfl, ?hyA78⟩) ?reA78
    case hyA78 => (intro W hSw; (try dsimp only at hSw); go_simp; try with_reducible rfl)
    try simp only [Act.put, List.setIfInBounds_toArray, List.set_cons_zero, List.set_cons_succ]
    refine wpAnyJ_ready (rs := [16]) (by kernel_rfl) (by simp) ?_
    refine AllReadyJ.cons (o := { dst := none, op := Op.store 28 (Operand.tmp 18) (Operand.tmp 167), type := 0, pos := "ids.go:217", after := #[{ on := 15, ground := Ground.data }, { on := 13, ground := Ground.data }, { on := 11, ground := Ground.chain }, { on := 0, ground := Ground.phase }, { on := 1, ground := Ground.phase }, { on := 2, ground := Ground.phase }, { on := 3, ground := Ground.phase }, { on := 4, ground := Ground.phase }, { on := 5, ground := Ground.phase }, { on := 6, ground := Ground.phase }, { on := 7, ground := Ground.phase }, { on := 8, ground := Ground.phase }, { on := 9, ground := Ground.phase }, { on := 10, ground := Ground.phase }, { on := 11, ground := Ground.phase }, { on := 12, ground := Ground.phase }, { on := 13, ground := Ground.phase }, { on := 14, ground := Ground.textOnly Departure.lateStores }, { on := 15, ground := Ground.phase }], guard := none }) rfl (fun K hK => ?_) AllReadyJ.nil
    obtain ⟨b0, b1, f0, f1⟩ := row2' (R90.out.2.2.2.1 k74 rfl).2
    go_simp
    refine hK.out _ _ (fun h => absurd h (by decide)) ?_
    clear hK K
    try simp only [Act.put, List.setIfInBounds_toArray, List.set_cons_zero, List.set_cons_succ]
    refine' wpAnyJ_takeW (i := 17) (oi := { dst := some 19, op := Op.assign (Operand.tmp 168), type := 4, pos := "ids.go:217", after := #[{ on := 14, ground := Ground.data }, { on := 16, ground := Ground.chain }, { on := 0, ground := Ground.phase }, { on := 1, ground := Ground.phase }, { on := 2, ground := Ground.phase }, { on := 3, ground := Ground.phase }, { on := 4, ground := Ground.phase }, { on := 5, ground := Ground.phase }, { on := 6, ground := Ground.phase }, { on := 7, ground := Ground.phase }, { on := 8, ground := Ground.phase }, { on := 9, ground := Ground.phase }, { on := 10, ground := Ground.phase }, { on := 11, ground := Ground.phase }, { on := 12, ground := Ground.phase }, { on := 13, ground := Ground.phase }, { on := 14, ground := Ground.phase }, { on := 15, ground := Ground.phase }, { on := 16, ground := Ground.phase }], guard := none }) (v := _) rfl (by kernel_rfl) (by kernel_rfl) (by kernel_rfl) (fun _ _ _ h => h) (Or.inl ⟨by rfl, ?hyA79⟩) ?reA79
    case hyA79 => (intro W hSw; (try dsimp only at hSw); go_simp; try with_reducible rfl)
    try simp only [Act.put, List.setIfInBounds_toArray, List.set_cons_zero, List.set_cons_succ]
    refine wpAnyJ_done (by kernel_rfl) ?_ _
    refine NoPanic.normal ?_
    have F9 := hide (Q90.out.fin R90.out)
    refine hKK _ _ (Met.intro (hJJ _ _ ?_))
    repeat apply Exists.intro
    refine ⟨?_, rfl⟩
    exact ⟨k74, gp, gq, rfl, rfl, F9⟩
  obtain ⟨kc, gp, gq, rfl, rfl, HF8⟩ := hcut
  obtain ⟨w3, rfl⟩ : ∃ X, X = wc := ⟨_, rfl⟩
  obtain ⟨cf0, cf1, -, -⟩ := row2' HF8.out.1
  have C3 : Below w.heap.size w w3 := below_on B1 (below_on B2 HF8.out.2.1)
  obtain ⟨v1', v2', hv1, hv2, hv3, hv4⟩ : ∃ v1 v2, w3.cell? ⟨gw, i * 2, none⟩ = some v1 ∧ w3.cell? ⟨gw, i * 2 + 1, none⟩ = some v2 ∧ (∀ k, w3.frozen? ⟨gw, k, none⟩ = false) ∧ (∀ v k, (w3.setCell ⟨gw, i * 2, none⟩ v).frozen? ⟨gw, k, none⟩ = false) := by
    obtain ⟨a1, a2⟩ := ((HH.out.bu HF.out).later C3).pair hi
    obtain ⟨-, -, vl, k1, -⟩ := HH.out.later C3
    exact ⟨_, _, a1, a2, fun k => frozen_of_row w3 gw _ _ 32 k1.1, fun v k => frozen_of_row _ gw _ _ 32 (heap_setCell_same w3 gw (i * 2) _ 32 v k1.1)⟩
  have hv5 : ∀ v, (w3.setCell ⟨gw, i * 2, none⟩ v).cell? ⟨gw, i * 2 + 1, none⟩ = some v2' := fun v => (World.cell?_setCell_other (w := w3) (a := ⟨gw, i * 2, none⟩) (v := v) (b := ⟨gw, i * 2 + 1, none⟩) (by intro e; injection e with _ e; omega)).trans hv2
  clear JF FW1 FW2 CS
  go_upto_region 35 with fail
  go_region_law (fail)
  all_goals
    go_wp2_with fail
    go_ret
    obtain ⟨-, -, S, T, hp, hd, hS, hT, hST⟩ := HF8.out
    obtain ⟨z1, z2⟩ := HH.out.place hi (st := (n, gs, fr)) (below_on C3 (below_drew w3)) (hp.later (below_drew w3)) (hd.later (below_drew w3)) (fun k e => Nat.le_trans (Nat.le_trans B1.size B2.size) (hS k e)) (fun k e => Nat.le_trans (Nat.le_trans B1.size B2.size) (hT k e)) hST HF.out
    exact ⟨rfl, upd G i (gp, gq), upd C i (n, gs, fr), L, z1, by omega, z2⟩
end Go.Proofs.Ytejbdhbphbgckaa
