import Derived.Test.YtmfoehaeejhlpaaGreatDoorGaAD
import Derived.Test.YtmfoehaeejhlpaaGreatDoorGaAC
/-
  The reader: binary.
-/
namespace Go.Proofs.YtmfoehaeejhlpaaGreatDoor
open Go.RowKit Yn
set_option maxRecDepth 100000
theorem binding_le (t : ByteArray) : binding t ≤ 6 := by
  unfold binding
  repeat' split
  all_goals omega
theorem binding_text {t : ByteArray} (h : binding t ≠ 0) : t ≠ bs [] := by
  rintro rfl
  exact h (by decide)
set_option maxHeartbeats 8000000 in
theorem binary_step {n : Nat} (hu : Cu n) (hb : ∀ m, m ≤ n → Cb m) : Cb (n + 1) := by
  intro W B k ws s0 least hl1 hl hR hne
  obtain ⟨i0, hi0, hz0, hz1, hz2⟩ := info_parts infoN
  have HB := hide hb
  have hkW := hR.lt
  have J1 := hide (fun h => hu W B k ws s0 hR h)
  have f1 := fld1
  obtain ⟨r, hr⟩ : ∃ r, r = binary ws (n + 1) least s0 := ⟨_, rfl⟩
  rw [← hr] at hne ⊢
  have HNE := hide hne
  rw [binary] at hr
  have HE0 := hide hr
  clear hu hb hR hne hr
  cases h1 : unary ws n s0 with
  | out => exact absurd (by rw [HE0.out, h1]; rfl) HNE.out
  | no a er =>
    have J := J1.out (by rw [h1]; intro h; cases h)
    rw [h1] at J
    have JH := hide J
    have ER : r = .no a er := by rw [HE0.out, h1]; rfl
    clear J J1 h1
    go_enter Tryz.func209, Tryz.ntmps209
    go_wp2_with fail
    refine JH.out.mono ?_
    rintro e w1 hp
    have hp2 := hp
    obtain ⟨q, rfl, -⟩ := hp
    subst ER
    exact ⟨rfl, hp2⟩
  | ok left0 s1 =>
    have J := J1.out (by rw [h1]; intro h; cases h)
    rw [h1] at J
    have JH := hide J
    have HE : Hid (r = binL ws n least left0 s1) := by
      unfold Hid
      rw [HE0.out, h1]
      rfl
    clear J J1 h1 HE0
    go_enter Tryz.func209, Tryz.ntmps209
    go_wp2_with fail
    refine JH.out.mono ?_
    rintro e w1 ⟨v1, rfl, ht1, hr1, hm1⟩
    obtain ⟨g1, rfl⟩ := Nd.ptr ht1
    have R1 := hide hr1
    have M1 := hide hm1
    have T1 : Hid (Nd (fun q => W.heap.size ≤ q) w1 left0 (.pointer (some ⟨g1, 0, none⟩))) := ht1
    clear hr1 hm1 ht1 JH
    go_wp2_with fail
    go_loopg [5] n (fun G v5 Wr => ∃ (m : Nat) (left : Tree) (s : S) (gl : Nat), G = m ∧ m ≤ n ∧ v5 = .pointer (some ⟨gl, 0, none⟩) ∧ Hid (r = binL ws m least left s) ∧ Hid (Nd (fun q => W.heap.size ≤ q) Wr left (.pointer (some ⟨gl, 0, none⟩))) ∧ Hid (Rd Wr B k ws s) ∧ Hid (Mv W Wr (fun j => j = k)))
    case atStart => exact ⟨n, left0, s1, g1, rfl, Nat.le_refl _, rfl, HE, T1, R1, M1⟩
    case round =>
      clear HE T1 R1 M1
      obtain ⟨m0, left, s, gl, hG, hmn, rfl, HEm, HT, HR, HM⟩ := hrel
      obtain ⟨m, rfl⟩ : ∃ m', m0 = m' + 1 := by
        cases m0 with
        | zero => exact absurd (by rw [HEm.out, binL]) HNE.out
        | succ m' => exact ⟨m', rfl⟩
      have he := HEm.out
      rw [binL] at he
      have HE1 := hide he
      have JN := hide (now_any HR.out)
      unfold tokV at JN
      have JB := hide (binding_any (hd s).t)
      have hbl := binding_le (hd s).t
      have hbt := @binding_text (hd s).t
      clear he HEm
      obtain ⟨bt, hbt0⟩ : ∃ b, b = binding (hd s).t := ⟨_, rfl⟩
      rw [← hbt0] at hbl hbt HE1 JB
      have HBT := hide hbt
      clear hbt hbt0
      go_wp2_with fail
      refine JN.out.mono ?_
      rintro e w2 ⟨rfl, hb2⟩
      have R2 := hide (HR.out.later hb2)
      have M2 := hide (HM.out.later hb2)
      have T2 := hide (Nd.tight _ _ (Nd.mv (Mv.of_below hb2 (fun _ => False)) (fun _ _ e => e) _ _ HT.out))
      clear hb2 JN HR HM HT
      go_wp2_with fail
      refine (JB.out w2).mono ?_
      rintro e w2' ⟨rfl, rfl⟩
      by_cases hlt : bt < least
      · have t1 : (bt : Int) < (least : Int) := by omega
        have ER : r = .ok left s := by rw [HE1.out, if_pos hlt]
        have T3 : Hid (Nd (fun q => W.heap.size ≤ q) w2' left (.pointer (some ⟨gl, 0, none⟩))) := Nd.mono (fun q hq => hq.1) _ _ T2.out
        clear HE1 hlt
        go_wp2_with fail
        go_ret
        subst ER
        exact ⟨_, rfl, T3.out, R2.out, M2.out⟩
      · have t1 : ¬ (bt : Int) < (least : Int) := by omega
        have HE2 : Hid (r = (binary ws m (bt + 1) (nx s)).bind fun right s1 => binL ws m least (.mk 33 (hd s).t 0 [left, right] (hd s).a) s1) := by
          unfold Hid
          rw [HE1.out, if_neg hlt]
        have hne2 : (hd s).k ≠ 0 ∨ (hd s).t ≠ bs [] := by
          by_cases hb0 : bt = 0
          · exact absurd hlt (by omega)
          · exact .inr (HBT.out hb0)
        clear HE1 hlt
        go_wp2_with fail
        refine (node_any R2.out 33).mono ?_
        rintro e w3 ⟨g, rfl, hg, hg3, hb3⟩
        have R3 := hide (R2.out.later hb3)
        have M3 := hide (M2.out.later hb3)
        have T3 := hide (Nd.mv (Mv.of_below hb3 (fun _ => False)) (fun _ _ e => e) _ _ T2.out)
        have G3 := hide hg3
        have hz2' := M2.out.size
        have hgk : g ≠ k := by omega
        clear hb3 hg3 T2 R2 M2
        have JX := hide (next_any R3.out hne2)
        unfold tokV at JX
        go_wp2_with fail
        refine JX.out.mono ?_
        rintro e w4 ⟨rfl, hr4, hm4⟩
        have hg4 := hm4.at G3.out hgk
        have c1 : w4.cell? ⟨g, 1, none⟩ = some (.string (bs [])) := by rw [cell_of_row w4 g _ _ 51 (0, 0) hg4]; rfl
        have f1' : w4.frozen? ⟨g, 1, none⟩ = false := frozen_of_row w4 g 1 _ 51 hg4
        have hm5 : Mv w4 (w4.setCell ⟨g, 1, none⟩ (.string (hd s).t)) (fun j => j = g) := (Mv.refl w4 (fun j => j = g)).set (g := g) rfl _ _
        have hg5 := heap_setCell_same w4 g 1 _ 51 (.string (hd s).t) hg4
        have R5 := hide (hr4.mv hm5 (fun j e => by
          have := hr4.1
          have : j = g := e
          omega))
        have M5 : Hid (Mv W (w4.setCell ⟨g, 1, none⟩ (.string (hd s).t)) (fun j => j = k)) := (M3.out.trans hm4 (fun _ _ e => e)).trans hm5 (fun j hj e => by have : j = g := e; omega)
        have T5 := hide (Nd.mv hm5 (fun q hq (e : q = g) => by have := hq.2; omega) _ _ (Nd.mv hm4 (fun q hq (e : q = k) => by have : W.heap.size ≤ q := hq.1; omega) _ _ T3.out))
        obtain ⟨w5, hw5⟩ : ∃ X, X = w4.setCell ⟨g, 1, none⟩ (.string (hd s).t) := ⟨_, rfl⟩
        rw [← hw5] at R5 M5 hg5 T5
        have G5 : Hid (w5.heap[g]? = some (.cells #[.int .i64 33, .string (hd s).t, .int .i64 0, .slice none 0 0, .int .i64 ((hd s).a : Int)] 51 (0, 0))) := hg5
        have C7 : w5.drew.cell? ⟨g, 3, none⟩ = some (.slice none 0 0) := by rw [cell_of_row w5.drew g _ _ 51 (0, 0) G5.out]; rfl
        have HW5 := hide hw5
        have hgl5 : g < w5.heap.size := lt_of_block G5.out
        have hz5 := M5.out.size
        have tb : IntKind.i64.wrap ((bt : Int) + 1) = ((bt + 1 : Nat) : Int) := by rw [IntKind.wrap_i64]; omega
        clear hm5 hg5 hg4 hr4 hm4 JX G3 R3 M3 T3 hw5
        cases hq : binary ws m (bt + 1) (nx s) with
        | out => exact absurd (show r = .out by rw [HE2.out, hq]; rfl) HNE.out
        | no a er =>
          have ER : r = .no a er := by rw [HE2.out, hq]; rfl
          have HQ := hide hq
          clear hq
          go_upto_region 7 with fail
          rw [← HW5.out]
          clear c1 f1'
          refine wp_region_late (J := fun i => i != 14) (S := fun Wq => Wq.cell? ⟨g, 3, none⟩ = some (.slice none 0 0)) (by kernel_rfl) C7 (fun hHeld => ?_)
          refine' wpAnyJ_takeW (i := 0) (oi := { dst := some 26, op := Op.move (Operand.tmp 7), type := 23, pos := "expression.go:33", after := #[], guard := none }) (v := _) rfl (by kernel_rfl) (by kernel_rfl) (by kernel_rfl) (fun _ _ _ h => h) (Or.inl ⟨by rfl, ?hyDn1⟩) ?reDn1
          case hyDn1 => (intro W hSw; (try dsimp only at hSw); go_simp; try with_reducible rfl)
          try simp only [Act.put, List.setIfInBounds_toArray, List.set_cons_zero, List.set_cons_succ]
          refine' wpAnyJ_takeW (i := 1) (oi := { dst := some 27, op := Op.move (Operand.tmp 7), type := 23, pos := "expression.go:33", after := #[], guard := none }) (v := _) rfl (by kernel_rfl) (by kernel_rfl) (by kernel_rfl) (fun _ _ _ h => h) (Or.inl ⟨by rfl, ?hyDn2⟩) ?reDn2
          case hyDn2 => (intro W hSw; (try dsimp only at hSw); go_simp; try with_reducible rfl)
          try simp only [Act.put, List.setIfInBounds_toArray, List.set_cons_zero, List.set_cons_succ]
          refine' wpAnyJ_takeW (i := 2) (oi := { dst := some 28, op := Op.nilCheck (Operand.tmp 27), type := 0, pos := "expression.go:33", after := #[{ on := 1, ground := Ground.data }], guard := none }) (v := _) rfl (by kernel_rfl) (by kernel_rfl) (by kernel_rfl) (fun _ _ _ h => h) (Or.inl ⟨by rfl, ?hyDn3⟩) ?reDn3
          case hyDn3 => (intro W hSw; (try dsimp only at hSw); go_simp; try with_reducible rfl)
          try simp only [Act.put, List.setIfInBounds_toArray, List.set_cons_zero, List.set_cons_succ]
          refine' wpAnyJ_takeW (i := 3) (oi := { dst := some 29, op := Op.fieldAddr 51 (Operand.tmp 28) 3, type := 0, pos := "expression.go:33", after := #[{ on := 2, ground := Ground.data }], guard := none }) (v := _) rfl (by kernel_rfl) (by kernel_rfl) (by kernel_rfl) (fun _ _ _ h => h) (Or.inl ⟨by rfl, ?hyDn4⟩) ?reDn4
          case hyDn4 => (intro W hSw; (try dsimp only at hSw); go_simp; try with_reducible rfl)
          try simp only [Act.put, List.setIfInBounds_toArray, List.set_cons_zero, List.set_cons_succ]
          refine' wpAnyJ_take (i := 4) (oi := { dst := some 30, op := Op.load 49 (Operand.tmp 29), type := 49, pos := "expression.go:33", after := #[{ on := 3, ground := Ground.data }], guard := none }) (v := _) rfl (by kernel_rfl) (by kernel_rfl) (by kernel_rfl) (by kernel_rfl) (fun _ _ _ h => h) (Or.inl ⟨by rfl, ?hyDn5⟩) (by assumption) ?reDn5
          case hyDn5 => (intro W hSw; (try dsimp only at hSw); go_simp; try with_reducible rfl)
          try simp only [Act.put, List.setIfInBounds_toArray, List.set_cons_zero, List.set_cons_succ]
          refine' wpAnyJ_takeW (i := 5) (oi := { dst := some 31, op := Op.move (Operand.tmp 5), type := 23, pos := "expression.go:33", after := #[], guard := none }) (v := _) rfl (by kernel_rfl) (by kernel_rfl) (by kernel_rfl) (fun _ _ _ h => h) (Or.inl ⟨by rfl, ?hyDn6⟩) ?reDn6
          case hyDn6 => (intro W hSw; (try dsimp only at hSw); go_simp; try with_reducible rfl)
          try simp only [Act.put, List.setIfInBounds_toArray, List.set_cons_zero, List.set_cons_succ]
          refine' wpAnyJ_takeW (i := 6) (oi := { dst := some 32, op := Op.move (Operand.tmp 0), type := 56, pos := "expression.go:33", after := #[], guard := none }) (v := _) rfl (by kernel_rfl) (by kernel_rfl) (by kernel_rfl) (fun _ _ _ h => h) (Or.inl ⟨by rfl, ?hyDn7⟩) ?reDn7
          case hyDn7 => (intro W hSw; (try dsimp only at hSw); go_simp; try with_reducible rfl)
          try simp only [Act.put, List.setIfInBounds_toArray, List.set_cons_zero, List.set_cons_succ]
          refine' wpAnyJ_takeW (i := 7) (oi := { dst := some 33, op := Op.move (Operand.tmp 6), type := 3, pos := "expression.go:33", after := #[], guard := none }) (v := _) rfl (by kernel_rfl) (by kernel_rfl) (by kernel_rfl) (fun _ _ _ h => h) (Or.inl ⟨by rfl, ?hyDn8⟩) ?reDn8
          case hyDn8 => (intro W hSw; (try dsimp only at hSw); go_simp; try with_reducible rfl)
          try simp only [Act.put, List.setIfInBounds_toArray, List.set_cons_zero, List.set_cons_succ]
          refine' wpAnyJ_takeW (i := 8) (oi := { dst := some 34, op := Op.binOp BinOp.add 3 (Operand.tmp 33) (Operand.const (Value.int IntKind.i64 1)) 3, type := 3, pos := "expression.go:33", after := #[{ on := 7, ground := Ground.data }], guard := none }) (v := _) rfl (by kernel_rfl) (by kernel_rfl) (by kernel_rfl) (fun _ _ _ h => h) (Or.inl ⟨by rfl, ?hyDn9⟩) ?reDn9
          case hyDn9 => (intro W hSw; (try dsimp only at hSw); go_simp; try with_reducible rfl)
          try simp only [Act.put, List.setIfInBounds_toArray, List.set_cons_zero, List.set_cons_succ]
          refine wpAnyJ_ready (rs := [9]) (by kernel_rfl) (by simp) ?_
          refine AllReadyJ.cons (o := { dst := some 35, op := Op.call { callee := Callee.value (Operand.func 209), args := #[Operand.tmp 32, Operand.tmp 34], argTypes := #[56, 3] }, type := 23, pos := "expression.go:33", after := #[{ on := 6, ground := Ground.data }, { on := 8, ground := Ground.data }], guard := none }) rfl (fun K hK => ?_) AllReadyJ.nil
          go_simp
          go_at_call 209
          have J := HB.out m (by omega) w5.drew B k ws (nx s) (bt + 1) (by omega) (by omega) (R5.out.later (below_drew w5)) (by rw [HQ.out]; intro h; cases h)
          rw [HQ.out] at J
          rw [show ((bt + 1 : Nat) : Int) = (bt : Int) + 1 by omega] at J
          refine J.mono ?_
          rintro e w7 hp
          have hp2 := Pn.from hp (M5.out.later (below_drew w5))
          obtain ⟨q, rfl, -⟩ := hp
          subst ER
          exact ⟨rfl, hp2⟩
        | ok right s2 =>
          have HE3 : Hid (r = binL ws m least (.mk 33 (hd s).t 0 [left, right] (hd s).a) s2) := by
            unfold Hid
            rw [HE2.out, hq]
            rfl
          have HQ := hide hq
          clear hq HE2
          go_upto_region 7 with fail
          rw [← HW5.out]
          clear c1 f1'
          refine wp_region_late (J := fun i => i != 14) (S := fun Wq => Wq.cell? ⟨g, 3, none⟩ = some (.slice none 0 0)) (by kernel_rfl) C7 (fun hHeld => ?_)
          refine' wpAnyJ_takeW (i := 0) (oi := { dst := some 26, op := Op.move (Operand.tmp 7), type := 23, pos := "expression.go:33", after := #[], guard := none }) (v := _) rfl (by kernel_rfl) (by kernel_rfl) (by kernel_rfl) (fun _ _ _ h => h) (Or.inl ⟨by rfl, ?hyD1⟩) ?reD1
          case hyD1 => (intro W hSw; (try dsimp only at hSw); go_simp; try with_reducible rfl)
          try simp only [Act.put, List.setIfInBounds_toArray, List.set_cons_zero, List.set_cons_succ]
          refine' wpAnyJ_takeW (i := 1) (oi := { dst := some 27, op := Op.move (Operand.tmp 7), type := 23, pos := "expression.go:33", after := #[], guard := none }) (v := _) rfl (by kernel_rfl) (by kernel_rfl) (by kernel_rfl) (fun _ _ _ h => h) (Or.inl ⟨by rfl, ?hyD2⟩) ?reD2
          case hyD2 => (intro W hSw; (try dsimp only at hSw); go_simp; try with_reducible rfl)
          try simp only [Act.put, List.setIfInBounds_toArray, List.set_cons_zero, List.set_cons_succ]
          refine' wpAnyJ_takeW (i := 2) (oi := { dst := some 28, op := Op.nilCheck (Operand.tmp 27), type := 0, pos := "expression.go:33", after := #[{ on := 1, ground := Ground.data }], guard := none }) (v := _) rfl (by kernel_rfl) (by kernel_rfl) (by kernel_rfl) (fun _ _ _ h => h) (Or.inl ⟨by rfl, ?hyD3⟩) ?reD3
          case hyD3 => (intro W hSw; (try dsimp only at hSw); go_simp; try with_reducible rfl)
          try simp only [Act.put, List.setIfInBounds_toArray, List.set_cons_zero, List.set_cons_succ]
          refine' wpAnyJ_takeW (i := 3) (oi := { dst := some 29, op := Op.fieldAddr 51 (Operand.tmp 28) 3, type := 0, pos := "expression.go:33", after := #[{ on := 2, ground := Ground.data }], guard := none }) (v := _) rfl (by kernel_rfl) (by kernel_rfl) (by kernel_rfl) (fun _ _ _ h => h) (Or.inl ⟨by rfl, ?hyD4⟩) ?reD4
          case hyD4 => (intro W hSw; (try dsimp only at hSw); go_simp; try with_reducible rfl)
          try simp only [Act.put, List.setIfInBounds_toArray, List.set_cons_zero, List.set_cons_succ]
          refine' wpAnyJ_take (i := 4) (oi := { dst := some 30, op := Op.load 49 (Operand.tmp 29), type := 49, pos := "expression.go:33", after := #[{ on := 3, ground := Ground.data }], guard := none }) (v := _) rfl (by kernel_rfl) (by kernel_rfl) (by kernel_rfl) (by kernel_rfl) (fun _ _ _ h => h) (Or.inl ⟨by rfl, ?hyD5⟩) (by assumption) ?reD5
          case hyD5 => (intro W hSw; (try dsimp only at hSw); go_simp; try with_reducible rfl)
          try simp only [Act.put, List.setIfInBounds_toArray, List.set_cons_zero, List.set_cons_succ]
          refine' wpAnyJ_takeW (i := 5) (oi := { dst := some 31, op := Op.move (Operand.tmp 5), type := 23, pos := "expression.go:33", after := #[], guard := none }) (v := _) rfl (by kernel_rfl) (by kernel_rfl) (by kernel_rfl) (fun _ _ _ h => h) (Or.inl ⟨by rfl, ?hyD6⟩) ?reD6
          case hyD6 => (intro W hSw; (try dsimp only at hSw); go_simp; try with_reducible rfl)
          try simp only [Act.put, List.setIfInBounds_toArray, List.set_cons_zero, List.set_cons_succ]
          refine' wpAnyJ_takeW (i := 6) (oi := { dst := some 32, op := Op.move (Operand.tmp 0), type := 56, pos := "expression.go:33", after := #[], guard := none }) (v := _) rfl (by kernel_rfl) (by kernel_rfl) (by kernel_rfl) (fun _ _ _ h => h) (Or.inl ⟨by rfl, ?hyD7⟩) ?reD7
          case hyD7 => (intro W hSw; (try dsimp only at hSw); go_simp; try with_reducible rfl)
          try simp only [Act.put, List.setIfInBounds_toArray, List.set_cons_zero, List.set_cons_succ]
          refine' wpAnyJ_takeW (i := 7) (oi := { dst := some 33, op := Op.move (Operand.tmp 6), type := 3, pos := "expression.go:33", after := #[], guard := none }) (v := _) rfl (by kernel_rfl) (by kernel_rfl) (by kernel_rfl) (fun _ _ _ h => h) (Or.inl ⟨by rfl, ?hyD8⟩) ?reD8
          case hyD8 => (intro W hSw; (try dsimp only at hSw); go_simp; try with_reducible rfl)
          try simp only [Act.put, List.setIfInBounds_toArray, List.set_cons_zero, List.set_cons_succ]
          refine' wpAnyJ_takeW (i := 8) (oi := { dst := some 34, op := Op.binOp BinOp.add 3 (Operand.tmp 33) (Operand.const (Value.int IntKind.i64 1)) 3, type := 3, pos := "expression.go:33", after := #[{ on := 7, ground := Ground.data }], guard := none }) (v := _) rfl (by kernel_rfl) (by kernel_rfl) (by kernel_rfl) (fun _ _ _ h => h) (Or.inl ⟨by rfl, ?hyD9⟩) ?reD9
          case hyD9 => (intro W hSw; (try dsimp only at hSw); go_simp; try with_reducible rfl)
          try simp only [Act.put, List.setIfInBounds_toArray, List.set_cons_zero, List.set_cons_succ]
          refine wpAnyJ_ready (rs := [9]) (by kernel_rfl) (by simp) ?_
          refine AllReadyJ.cons (o := { dst := some 35, op := Op.call { callee := Callee.value (Operand.func 209), args := #[Operand.tmp 32, Operand.tmp 34], argTypes := #[56, 3] }, type := 23, pos := "expression.go:33", after := #[{ on := 6, ground := Ground.data }, { on := 8, ground := Ground.data }], guard := none }) rfl (fun K hK => ?_) AllReadyJ.nil
          go_simp
          go_at_call 209
          have J := HB.out m (by omega) w5.drew B k ws (nx s) (bt + 1) (by omega) (by omega) (R5.out.later (below_drew w5)) (by rw [HQ.out]; intro h; cases h)
          rw [HQ.out] at J
          rw [show ((bt + 1 : Nat) : Int) = (bt : Int) + 1 by omega] at J
          refine J.mono ?_
          rintro e w7 ⟨v7, rfl, ht7, hr7, hm7⟩
          obtain ⟨g3, rfl⟩ := Nd.ptr ht7
          have G7 := hide (hm7.at (show w5.drew.heap[g]? = _ from G5.out) hgk)
          have V7 := hide (Nd.tight _ _ ht7)
          have T7 := hide (Nd.mv hm7 (fun q hq (e : q = k) => by have : W.heap.size ≤ q := hq.1; omega) _ _ (Nd.mv (Mv.of_below (below_drew w5) (fun _ => False)) (fun _ _ e => e) _ _ T5.out))
          have R7 := hide hr7
          have M7 := hide ((M5.out.later (below_drew w5)).trans hm7 (fun _ _ e => e))
          have hz7 : w5.heap.size ≤ w7.heap.size := hm7.size
          have C8 : w7.cell? ⟨g, 3, none⟩ = some (.slice none 0 0) := by rw [cell_of_row w7 g _ _ 51 (0, 0) G7.out]; rfl
          obtain ⟨w8, hw8⟩ : ∃ X, X = w7.alloc (.cells #[.pointer (some ⟨gl, 0, none⟩), .pointer (some ⟨g3, 0, none⟩)] 23) := ⟨_, rfl⟩
          have b8 : Below w7.heap.size w7 w8 := hw8 ▸ below_alloc w7 _
          have G8 := hide ((b8.block g (lt_of_block G7.out)).trans G7.out)
          have C9 : w8.cell? ⟨g, 3, none⟩ = some (.slice none 0 0) := by rw [cell_of_row w8 g _ _ 51 (0, 0) G8.out]; rfl
          rw [hw8] at C9
          have HB8 := hide b8
          have HW8 := hide hw8
          clear hr7 hm7 ht7 J hw8 b8 hHeld
          go_simp
          refine hK.out _ _ (fun _ _ => C8) ?_
          clear hK K
          try simp only [Act.put, List.setIfInBounds_toArray, List.set_cons_zero, List.set_cons_succ]
          refine wpAnyJ_ready (rs := [10]) (by kernel_rfl) (by simp) ?_
          refine AllReadyJ.cons (o := { dst := some 36, op := Op.buildSlice 49 2 #[(0, Operand.tmp 31), (1, Operand.tmp 35)], type := 49, pos := "expression.go:33", after := #[{ on := 5, ground := Ground.data }, { on := 9, ground := Ground.data }], guard := none }) rfl (fun K hK => ?_) AllReadyJ.nil
          go_simp
          refine hK.out _ _ (fun _ _ => C9) ?_
          clear hK K
          try simp only [Act.put, List.setIfInBounds_toArray, List.set_cons_zero, List.set_cons_succ]
          refine wpAnyJ_ready (rs := [11]) (by kernel_rfl) (by simp) ?_
          refine AllReadyJ.cons (o := { dst := some 37, op := Op.call { callee := Callee.builtin Builtin.append, args := #[Operand.tmp 30, Operand.tmp 36], argTypes := #[49, 49] }, type := 49, pos := "expression.go:33", after := #[{ on := 4, ground := Ground.data }, { on := 10, ground := Ground.data }, { on := 9, ground := Ground.chain }], guard := none }) rfl (fun K hK => ?_) AllReadyJ.nil
          refine step_append_lies _ rfl (.tmp 30) (.tmp 36) 49 rfl 0 23 i0 (.pointer none) 1 8 und49 hi0 hz0 hz1 hz2 rfl (by decide) (.slice none 0 0) 0 ([]) (by simp [Act.eval]) (World.ownsRow_nil _ _ _ _) ⟨w7.heap.size, 0, none⟩ 2 2 [.pointer (some ⟨gl, 0, none⟩), .pointer (some ⟨g3, 0, none⟩)] (by simp [Act.eval]) rfl (by intro j u hj; match j, hj with | 0, hj => simp at hj; subst hj; simp [Addr.add] | 1, hj => simp at hj; subst hj; simp [Addr.add]) (by intro u hu; simp at hu; rcases hu with rfl | rfl <;> rfl) (by omega) (by unfold maxLen; omega) (by omega) (Nat.zero_le _) _ rfl ?_
          intro g9 c9 w9 ho9 hg9 ha9 _
          rw [← HW8.out] at hg9
          have b9 : Below w8.heap.size w8 w9 := (Below.refl _ w8).grown hg9 (Nat.le_refl _) (fun q e => by simp [Value.ownBlock] at e)
          have G9 := hide ((b9.block g (lt_of_block G8.out)).trans G8.out)
          have Ca : w9.cell? ⟨g, 3, none⟩ = some (.slice none 0 0) := by rw [cell_of_row w9 g _ _ 51 (0, 0) G9.out]; rfl
          have F9 : w9.frozen? ⟨g, 3, none⟩ = false := frozen_of_row w9 g 3 _ 51 G9.out
          have hz8 := HB8.out.size
          have hg9' : g9 = w8.heap.size := by
            rcases ha9 with e | e
            · simp [Value.ownBlock] at e
            · rw [e, ← HW8.out]
          have O9' : w9.ownsRow 0 23 1 (.slice (some ⟨g9, 0, none⟩) 2 c9) 2 [.pointer (some ⟨gl, 0, none⟩), .pointer (some ⟨g3, 0, none⟩)] := by simpa using ho9
          have HB9 := hide (below_on HB8.out b9)
          have NM := hide (nd_made (w5 := w7) (w6 := w9) (lo := W.heap.size) (l := [left, right]) (ps := [.pointer (some ⟨gl, 0, none⟩), .pointer (some ⟨g3, 0, none⟩)]) (v' := .slice (some ⟨g9, 0, none⟩) 2 c9) G7.out (by omega) (by
            rw [Nds]
            refine ⟨_, _, rfl, Nd.mono (fun q hq => ⟨hq.1, by have := hq.2; omega, by have := hq.2; omega⟩) _ _ T7.out, ?_⟩
            rw [Nds]
            exact ⟨_, _, rfl, Nd.mono (fun q hq => ⟨by have : w5.heap.size ≤ q := hq.1; omega, hq.2, by have : w5.heap.size ≤ q := hq.1; omega⟩) _ _ V7.out, Nds.none⟩) O9' HB9.out (fun q e => by have e' : g9 = q := Option.some.inj e; omega) (by omega))
          clear ho9 hg9 ha9 b9 O9' hg9' hz8
          refine hK.out _ _ (fun _ _ => Ca) ?_
          clear hK K
          try simp only [Act.put, List.setIfInBounds_toArray, List.set_cons_zero, List.set_cons_succ]
          refine' wpAnyJ_takeW (i := 12) (oi := { dst := some 38, op := Op.nilCheck (Operand.tmp 26), type := 0, pos := "expression.go:33", after := #[{ on := 0, ground := Ground.data }, { on := 0, ground := Ground.phase }, { on := 1, ground := Ground.phase }, { on := 2, ground := Ground.phase }, { on := 3, ground := Ground.phase }, { on := 4, ground := Ground.phase }, { on := 5, ground := Ground.phase }, { on := 6, ground := Ground.phase }, { on := 7, ground := Ground.phase }, { on := 8, ground := Ground.phase }, { on := 9, ground := Ground.phase }, { on := 10, ground := Ground.phase }, { on := 11, ground := Ground.phase }], guard := none }) (v := _) rfl (by kernel_rfl) (by kernel_rfl) (by kernel_rfl) (fun _ _ _ h => h) (Or.inl ⟨by rfl, ?hyD10⟩) ?reD10
          case hyD10 => (intro W hSw; (try dsimp only at hSw); go_simp; try with_reducible rfl)
          try simp only [Act.put, List.setIfInBounds_toArray, List.set_cons_zero, List.set_cons_succ]
          refine' wpAnyJ_takeW (i := 13) (oi := { dst := some 39, op := Op.fieldAddr 51 (Operand.tmp 38) 3, type := 0, pos := "expression.go:33", after := #[{ on := 12, ground := Ground.data }, { on := 0, ground := Ground.phase }, { on := 1, ground := Ground.phase }, { on := 2, ground := Ground.phase }, { on := 3, ground := Ground.phase }, { on := 4, ground := Ground.phase }, { on := 5, ground := Ground.phase }, { on := 6, ground := Ground.phase }, { on := 7, ground := Ground.phase }, { on := 8, ground := Ground.phase }, { on := 9, ground := Ground.phase }, { on := 10, ground := Ground.phase }, { on := 11, ground := Ground.phase }], guard := none }) (v := _) rfl (by kernel_rfl) (by kernel_rfl) (by kernel_rfl) (fun _ _ _ h => h) (Or.inl ⟨by rfl, ?hyD11⟩) ?reD11
          case hyD11 => (intro W hSw; (try dsimp only at hSw); go_simp; try with_reducible rfl)
          try simp only [Act.put, List.setIfInBounds_toArray, List.set_cons_zero, List.set_cons_succ]
          refine wpAnyJ_ready (rs := [14]) (by kernel_rfl) (by simp) ?_
          refine AllReadyJ.cons (o := { dst := none, op := Op.store 49 (Operand.tmp 39) (Operand.tmp 37), type := 0, pos := "expression.go:33", after := #[{ on := 13, ground := Ground.data }, { on := 11, ground := Ground.data }, { on := 11, ground := Ground.chain }, { on := 0, ground := Ground.phase }, { on := 1, ground := Ground.phase }, { on := 2, ground := Ground.phase }, { on := 3, ground := Ground.phase }, { on := 4, ground := Ground.phase }, { on := 5, ground := Ground.phase }, { on := 6, ground := Ground.phase }, { on := 7, ground := Ground.phase }, { on := 8, ground := Ground.phase }, { on := 9, ground := Ground.phase }, { on := 10, ground := Ground.phase }, { on := 11, ground := Ground.phase }], guard := none }) rfl (fun K hK => ?_) AllReadyJ.nil
          go_simp
          refine hK.out _ _ (fun h => absurd h (by decide)) ?_
          clear hK K
          try simp only [Act.put, List.setIfInBounds_toArray, List.set_cons_zero, List.set_cons_succ]
          refine wpAnyJ_done (by kernel_rfl) ?_ _
          have R10 := hide ((R7.out.mv NM.out.2 (fun j e => by
            have := R7.out.1
            have : j = g := e
            omega)))
          have M10 : Hid (Mv W (w9.setCell ⟨g, 3, none⟩ (.slice (some ⟨g9, 0, none⟩) 2 c9)) (fun j => j = k)) := M7.out.trans NM.out.2 (fun j hj e => by have : j = g := e; omega)
          obtain ⟨w10, hw10⟩ : ∃ X, X = w9.setCell ⟨g, 3, none⟩ (.slice (some ⟨g9, 0, none⟩) 2 c9) := ⟨_, rfl⟩
          have T10 := hide NM.out.1
          rw [← hw10] at R10 M10 T10 ⊢
          clear hw10 NM Ca F9 G9
          go_wp2_with fail
          go_roundg m
          case measure => omega
          case rel => exact ⟨m, _, s2, g, rfl, by omega, rfl, HE3, T10, R10, M10⟩
end Go.Proofs.YtmfoehaeejhlpaaGreatDoor

/-
  The grammar: lists with commas, one way for all.
-/
namespace Go.Proofs.YtmfoehaeejhlpaaGreatDoor.Yn
set_option maxRecDepth 100000
def items (p : Nat → S → R Tree) : Nat → List Tree → S → R (List Tree)
  | 0, _, _ => .out
  | n + 1, l, s => if isAt s cCom then (p n (nx s)).bind fun x s => items p n (l ++ [x]) s else .ok l s
def listS (p : Nat → S → R Tree) (n : Nat) (x : ByteArray) (s : S) : R (List Tree) := if isAt s x then .ok [] s else (p n s).bind fun y s => items p n [y] s
theorem conds_items (ws : List ByteArray) : ∀ (n : Nat) (l : List Tree) (s : S), conds ws n l s = items (Yn.cond ws) n l s
  | 0, l, s => by rw [conds, items]
  | n + 1, l, s => by
    rw [conds, items]
    split
    · congr 1
      funext x s
      exact conds_items ws n (l ++ [x]) s
    · rfl
theorem fields_items (ws : List ByteArray) : ∀ (n : Nat) (l : List Tree) (s : S), fields ws n l s = items (field ws) n l s
  | 0, l, s => by rw [fields, items]
  | n + 1, l, s => by
    rw [fields, items]
    split
    · congr 1
      funext x s
      exact fields_items ws n (l ++ [x]) s
    · rfl
theorem parts_items (ws : List ByteArray) : ∀ (n : Nat) (l : List Tree) (s : S), parts ws n l s = items (part ws) n l s
  | 0, l, s => by rw [parts, items]
  | n + 1, l, s => by
    rw [parts, items]
    split
    · congr 1
      funext x s
      exact parts_items ws n (l ++ [x]) s
    · rfl
theorem args_list (ws : List ByteArray) (n : Nat) (s : S) : args ws (n + 1) s = (openS cOpen s).bind fun _ s => (listS (Yn.cond ws) n cClose s).bind fun l s => (take cClose s).bind fun _ s => .ok l (leave s) := by
  rw [args]
  congr 1
  funext _ s
  congr 1
  unfold listS
  split
  · rfl
  · congr 1
    funext x s
    exact conds_items ws n [x] s
end Go.Proofs.YtmfoehaeejhlpaaGreatDoor.Yn

/-
  The reader: list, of what function 201 reads.
-/
namespace Go.Proofs.YtmfoehaeejhlpaaGreatDoor
open Go.RowKit Yn
set_option maxRecDepth 100000
/-- A list of trees in memory that is new since W. -/
def isList (W : World) : List Tree → Value → World → Prop := fun l v W' => ∃ ps, W'.ownsRow 0 23 1 v l.length ps ∧ (∀ q, v.ownBlock = some q → W.heap.size ≤ q) ∧ Nds (fun q => W.heap.size ≤ q ∧ v.ownBlock ≠ some q) W' l ps
set_option maxHeartbeats 8000000 in
theorem listC_any {n : Nat} (hn : n ≤ 1000000) (hI : ∀ m, m ≤ n → Cc m) {W : World} {B k : Nat} {ws : List ByteArray} {s0 : S} (hR : Rd W B k ws s0) (x : ByteArray) (hne : listS (Yn.cond ws) n x s0 ≠ .out) : Calls Tryz.prog 202 #[.pointer (some ⟨k, 0, none⟩), .string x, .func (.func 201) #[] #[]] W (Out (isList W) W B k ws (listS (Yn.cond ws) n x s0)) := by
  obtain ⟨i0, hi0, hz0, hz1, hz2⟩ := info_parts infoN
  have HI := hide hI
  have hkW := hR.lt
  have J1 := hide (isAt_any hR x)
  have H := hide hR
  obtain ⟨r, hr⟩ : ∃ r, r = listS (Yn.cond ws) n x s0 := ⟨_, rfl⟩
  rw [← hr] at hne ⊢
  have HNE := hide hne
  unfold listS at hr
  clear hI hR hne
  cases b : isAt s0 x with
  | true =>
    rw [b] at J1 hr
    have ER : r = .ok [] s0 := hr
    clear hr b
    go_enter Tryz.func202, Tryz.ntmps202
    go_wp2_with fail
    refine J1.out.mono ?_
    rintro e w1 ⟨rfl, hb1⟩
    have HB1 := hide hb1
    clear hb1 J1
    go_wp2_with fail
    go_ret
    subst ER
    exact ⟨_, rfl, ⟨[], World.ownsRow_nil _ _ _ _, fun q e => by simp [Value.ownBlock] at e, Nds.none⟩, H.out.later HB1.out, Mv.of_below HB1.out _⟩
  | false =>
    rw [b] at J1 hr
    have HE0 : Hid (r = (Yn.cond ws n s0).bind fun y s => items (Yn.cond ws) n [y] s) := hr
    clear hr b
    go_enter Tryz.func202, Tryz.ntmps202
    go_wp2_with fail
    refine J1.out.mono ?_
    rintro e w1 ⟨rfl, hb1⟩
    have HB1 := hide hb1
    clear hb1 J1
    go_wp2_with fail
    cases hq : Yn.cond ws n s0 with
    | out => exact absurd (show r = .out by rw [HE0.out, hq]; rfl) HNE.out
    | no a er =>
      have J := HI.out n (Nat.le_refl _) w1 B k ws s0 (H.out.later HB1.out) (by rw [hq]; intro h; cases h)
      rw [hq] at J
      refine J.mono ?_
      rintro e w2 hp
      have hp2 := Pn.from hp (Mv.of_below HB1.out (fun j => j = k))
      obtain ⟨q, rfl, -⟩ := hp
      have ER : r = .no a er := by rw [HE0.out, hq]; rfl
      subst ER
      exact ⟨rfl, hp2⟩
    | ok y s1 =>
      have J := HI.out n (Nat.le_refl _) w1 B k ws s0 (H.out.later HB1.out) (by rw [hq]; intro h; cases h)
      rw [hq] at J
      have HE : Hid (r = items (Yn.cond ws) n [y] s1) := by
        unfold Hid
        rw [HE0.out, hq]
        rfl
      clear hq HE0
      refine J.mono ?_
      rintro e w2 ⟨v2, rfl, ht2, hr2, hm2⟩
      obtain ⟨g2, rfl⟩ := Nd.ptr ht2
      have hz2' := HB1.out.size
      have hz3' := hm2.size
      obtain ⟨w3, hw3⟩ : ∃ X, X = w2.alloc (.cells #[.pointer (some ⟨g2, 0, none⟩)] 23) := ⟨_, rfl⟩
      have b3 : Below w2.heap.size w2 w3 := hw3 ▸ below_alloc w2 _
      have O3 : Hid (w3.ownsRow 0 23 1 (.slice (some ⟨w2.heap.size, 0, none⟩) 1 1) 1 [.pointer (some ⟨g2, 0, none⟩)]) := by
        rw [hw3]
        exact World.ownsRow_lit w2 #[.pointer (some ⟨g2, 0, none⟩)] 1 (Nat.zero_le _) (by unfold maxLen; omega) rfl
      have R3 := hide (hr2.later b3)
      have M3 := hide (((Mv.of_below HB1.out (fun j => j = k)).trans hm2 (fun _ _ e => e)).later b3)
      have T3 : Hid (Nds (fun q => W.heap.size ≤ q ∧ q ≠ w2.heap.size) w3 [y] [.pointer (some ⟨g2, 0, none⟩)]) := by
        unfold Hid
        rw [Nds]
        exact ⟨_, _, rfl, Nd.mv (Mv.of_below b3 (fun _ => False)) (fun _ _ e => e) _ _ (Nd.mono (fun q hq => ⟨by have : w1.heap.size ≤ q := hq.1; omega, by have := hq.2; omega⟩) _ _ (Nd.tight _ _ ht2)), Nds.none⟩
      obtain ⟨k3, hk3⟩ : ∃ q, q = w2.heap.size := ⟨_, rfl⟩
      have HK3 : Hid (W.heap.size ≤ k3) := by unfold Hid; omega
      have HW3 := hide hw3
      rw [← hk3] at O3 T3
      clear hr2 hm2 ht2 J b3 hw3
      go_wp2_with fail
      rw [← HW3.out, ← hk3]
      clear hk3 HW3 HB1
      go_loopg [7] n (fun G v7 Wr => ∃ (m : Nat) (l : List Tree) (s : S) (ps : List Value), G = m ∧ m ≤ n ∧ l.length + m ≤ n + 1 ∧ Hid (r = items (Yn.cond ws) m l s) ∧ Hid (Wr.ownsRow 0 23 1 v7 l.length ps) ∧ Hid (∀ q, v7.ownBlock = some q → W.heap.size ≤ q) ∧ Hid (Nds (fun q => W.heap.size ≤ q ∧ v7.ownBlock ≠ some q) Wr l ps) ∧ Hid (Rd Wr B k ws s) ∧ Hid (Mv W Wr (fun j => j = k)))
      case atStart => exact ⟨n, [y], s1, _, rfl, Nat.le_refl _, by simp; omega, HE, O3, fun q e => by have e' : k3 = q := Option.some.inj e; have := HK3.out; omega, Nds.mono (fun q hq => ⟨hq.1, fun e => hq.2 (Option.some.inj e).symm⟩) _ _ T3.out, R3, M3⟩
      case round =>
        clear HE O3 T3 R3 M3 HK3
        obtain ⟨m0, l, s, ps, hG, hmn, hlm, HEm, HO, HK, HT, HRr, HM⟩ := hrel
        obtain ⟨m, rfl⟩ : ∃ m', m0 = m' + 1 := by
          cases m0 with
          | zero => exact absurd (by rw [HEm.out, items]) HNE.out
          | succ m' => exact ⟨m', rfl⟩
        have he := HEm.out
        rw [items] at he
        have HE1 := hide he
        have J2 := hide (takeIf_any HRr.out cCom (by decide))
        obtain ⟨a7, c7, rfl⟩ := own_len HO.out
        have hcap := own_cap HO.out
        clear he HEm
        cases b2 : isAt s cCom with
        | false =>
          rw [b2] at J2
          have ER : r = .ok l s := by rw [HE1.out, b2]; rfl
          simp only [Bool.false_eq_true, if_false] at J2
          clear b2
          go_wp2_with fail
          refine J2.out.mono ?_
          rintro e w4 ⟨rfl, hr4, hm4⟩
          have R4 := hide hr4
          have M4 := hide (HM.out.trans hm4 (fun _ _ e => e))
          have O4 := hide (hm4.own HO.out (fun q e (e2 : q = k) => by have := HK.out q e; omega))
          have T4 := hide (Nds.mv hm4 (fun q hq (e : q = k) => by have : W.heap.size ≤ q := hq.1; omega) _ _ HT.out)
          clear hr4 hm4 J2
          go_wp2_with fail
          go_ret
          subst ER
          exact ⟨_, rfl, ⟨ps, O4.out, HK.out, T4.out⟩, R4.out, M4.out⟩
        | true =>
          rw [b2] at J2
          have HE2 : Hid (r = (Yn.cond ws m (nx s)).bind fun x s => items (Yn.cond ws) m (l ++ [x]) s) := by
            unfold Hid
            rw [HE1.out, b2]
            rfl
          simp only [if_true] at J2
          clear b2 HE1
          go_wp2_with fail
          refine J2.out.mono ?_
          rintro e w4 ⟨rfl, hr4, hm4⟩
          have R4 := hide hr4
          have M4 := hide (HM.out.trans hm4 (fun _ _ e => e))
          have O4 := hide (hm4.own HO.out (fun q e (e2 : q = k) => by have := HK.out q e; omega))
          have T4 := hide (Nds.mv hm4 (fun q hq (e : q = k) => by have : W.heap.size ≤ q := hq.1; omega) _ _ HT.out)
          have hz4 := M4.out.size
          clear hr4 hm4 J2 HO HT HRr HM
          go_wp2_with fail
          cases hq : Yn.cond ws m (nx s) with
          | out => exact absurd (show r = .out by rw [HE2.out, hq]; rfl) HNE.out
          | no a er =>
            have J := HI.out m (by omega) w4 B k ws (nx s) R4.out (by rw [hq]; intro h; cases h)
            rw [hq] at J
            refine J.mono ?_
            rintro e w5 hp
            have hp2 := Pn.from hp M4.out
            obtain ⟨q, rfl, -⟩ := hp
            have ER : r = .no a er := by rw [HE2.out, hq]; rfl
            subst ER
            exact ⟨rfl, hp2⟩
          | ok z s2 =>
            have J := HI.out m (by omega) w4 B k ws (nx s) R4.out (by rw [hq]; intro h; cases h)
            rw [hq] at J
            have HE3 : Hid (r = items (Yn.cond ws) m (l ++ [z]) s2) := by
              unfold Hid
              rw [HE2.out, hq]
              rfl
            clear hq HE2
            refine J.mono ?_
            rintro e w5 ⟨v5, rfl, ht5, hr5, hm5⟩
            obtain ⟨g5, rfl⟩ := Nd.ptr ht5
            have R5 := hide hr5
            have M5 := hide (M4.out.trans hm5 (fun _ _ e => e))
            have O5 := hide (hm5.own O4.out (fun q e (e2 : q = k) => by have := HK.out q e; omega))
            have OL := hide O4.out.lt
            have T5 := hide (Nds.mv hm5 (fun q hq (e : q = k) => by have : W.heap.size ≤ q := hq.1.1; omega) _ _ (Nds.tight _ _ T4.out))
            have Z5 := hide (Nd.tight _ _ ht5)
            have hz5 := hm5.size
            clear hr5 hm5 ht5 J T4 O4
            go_wp2_with (at_builtin; refine wpList_append_own_at _ rfl _ _ 49 rfl 0 23 i0 (.pointer none) 1 8 und49 hi0 hz0 hz1 hz2 rfl (by decide) _ l.length ps rfl (O5.out.alloc _) ⟨w5.heap.size, 0, none⟩ 1 1 [.pointer (some ⟨g5, 0, none⟩)] rfl rfl ?c1 ?c2 (by unfold maxLen; omega) (by omega) (Nat.zero_le _) ?_)
            case c1 =>
              intro j u hj
              match j, hj with
              | 0, hj => simp at hj; subst hj; simp [Addr.add]
            case c2 =>
              intro u hu
              simp at hu
              subst hu
              rfl
            intro v9 w9 ho9 hg9 _ ha9
            have b6 := below_alloc w5 (.cells #[.pointer (some ⟨g5, 0, none⟩)] 23)
            have hm9 : Mv w5 w9 (fun q => (Value.slice a7 l.length c7).ownBlock = some q) := ((Mv.refl w5 (fun q => (Value.slice a7 l.length c7).ownBlock = some q)).later b6).grown hg9 (fun q _ e => e)
            have hv9 : ∀ q, v9.ownBlock = some q → (Value.slice a7 l.length c7).ownBlock = some q ∨ q = w5.heap.size + 1 := fun q e => by
              rcases ha9 with c | c
              · rw [c] at e
                exact .inl e
              · rw [c] at e
                have := Option.some.inj e
                right
                exact this.symm
            have O9 : Hid (w9.ownsRow 0 23 1 v9 (l ++ [z]).length (ps ++ [.pointer (some ⟨g5, 0, none⟩)])) := by
              unfold Hid
              rw [List.length_append]
              exact ho9
            have K9 : Hid (∀ q, v9.ownBlock = some q → W.heap.size ≤ q) := fun q e => by
              rcases hv9 q e with c | c
              · exact HK.out q c
              · have := M5.out.size
                omega
            have T9 : Hid (Nds (fun q => W.heap.size ≤ q ∧ v9.ownBlock ≠ some q) w9 (l ++ [z]) (ps ++ [.pointer (some ⟨g5, 0, none⟩)])) := by
              refine Nds.snoc (Nds.mono (fun q hq => ⟨hq.1.1, fun e => ?_⟩) _ _ (Nds.mv hm9 (fun q hq e => hq.1.2 e) _ _ T5.out)) (Nd.mono (fun q hq => ⟨by have : w4.heap.size ≤ q := hq.1; omega, fun e => ?_⟩) _ _ (Nd.mv hm9 (fun q hq e => by have := (OL.out q e).2; have : w4.heap.size ≤ q := hq.1; omega) _ _ Z5.out))
              · rcases hv9 q e with c | c
                · exact hq.1.2 c
                · have := hq.2
                  omega
              · rcases hv9 q e with c | c
                · have := (OL.out q c).2
                  have : w4.heap.size ≤ q := hq.1
                  omega
                · have := hq.2
                  omega
            have R9 := hide (R5.out.mv hm9 (fun q e => by
              have h1 := HK.out q e
              have := R5.out.1
              omega))
            have M9 : Hid (Mv W w9 (fun j => j = k)) := M5.out.trans hm9 (fun q hq e => by have := HK.out q e; omega)
            clear ho9 hg9 ha9 hm9 hv9 b6 T5 Z5 O5
            go_wp2_with fail
            go_roundg m
            case measure => omega
            case rel => exact ⟨m, l ++ [z], s2, _, rfl, by omega, by simp; omega, HE3, O9, K9, T9, R9, M9⟩
end Go.Proofs.YtmfoehaeejhlpaaGreatDoor
