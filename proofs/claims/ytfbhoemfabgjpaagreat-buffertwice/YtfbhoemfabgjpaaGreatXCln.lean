/-
  Buffer: cloneCommand, of any command.
-/
import Derived.Test.YtfbhoemfabgjpaaGreatMgAM
namespace Go.Proofs.YtfbhoemfabgjpaaGreat
open Go.RowKit
set_option maxRecDepth 100000
set_option maxHeartbeats 8000000 in
theorem clonec_any {b : Prop} {w : World} {U : Nat → Prop} {c : Cm} (h : CmOk b w U c) : Calls Tryz.prog 17 #[cmV c] w fun e w' => ∃ c', e = .returned (cmV c') ∧ (c'.op = c.op ∧ c'.ix = c.ix ∧ c'.gn = c.gn ∧ c'.kd = c.kd ∧ c'.V = c.V ∧ c'.P = c.P) ∧ CmOk True w' (fun j => w.heap.size ≤ j ∧ j < w'.heap.size) c' ∧ Below w.heap.size w w' := by
  obtain ⟨va, vc, pa, pc, hcc⟩ := h.at
  obtain ⟨⟨hV, -⟩, ⟨l, hP, hln, -, hp, -⟩, hf, -⟩ := h
  have HF := hide hf
  have HV := hide hV
  have HP := hide hP
  have HPS := hide hp
  clear hV hP hp hf
  obtain ⟨w0, hw0⟩ : ∃ X, X = (w.alloc (.cells #[.int .i64 c.op, .int .i64 c.ix, .int .i64 c.gn, .int .i64 c.kd, c.vs, c.ps] 38)).alloc (.cells #[.int .i64 0, .int .i64 0, .int .i64 0, .int .i64 0, .slice none 0 0, .slice none 0 0] 38) := ⟨_, rfl⟩
  have B0 : Hid (Below w.heap.size w w0) := by unfold Hid; rw [hw0]; exact below_on (below_alloc w _) (below_alloc _ _)
  have k0 : w0.heap[w.heap.size]? = some (.cells #[.int .i64 c.op, .int .i64 c.ix, .int .i64 c.gn, .int .i64 c.kd, c.vs, c.ps] 38 (0, 0)) := by
    rw [hw0]
    exact ((below_alloc (w.alloc (.cells #[.int .i64 c.op, .int .i64 c.ix, .int .i64 c.gn, .int .i64 c.kd, c.vs, c.ps] 38)) _).block w.heap.size (by simp)).trans (heap_alloc_new w _)
  have k1 : w0.heap[w.heap.size + 1]? = some (.cells #[.int .i64 0, .int .i64 0, .int .i64 0, .int .i64 0, .slice none 0 0, .slice none 0 0] 38 (0, 0)) := by
    rw [hw0]
    have := heap_alloc_new (w.alloc (.cells #[.int .i64 c.op, .int .i64 c.ix, .int .i64 c.gn, .int .i64 c.kd, c.vs, c.ps] 38)) (.cells #[.int .i64 0, .int .i64 0, .int .i64 0, .int .i64 0, .slice none 0 0, .slice none 0 0] 38)
    simpa using this
  have hs0 : w0.heap.size = w.heap.size + 2 := by rw [hw0]; simp
  obtain ⟨kx, hkx⟩ : ∃ k, k = w.heap.size := ⟨_, rfl⟩
  obtain ⟨ky, hky⟩ : ∃ k, k = w.heap.size + 1 := ⟨_, rfl⟩
  have J1 : Hid (∀ W, Below w.heap.size w W → Calls Tryz.prog 33 #[c.vs] W fun e w' => ∃ v', e = .returned v' ∧ w'.ownsRow W.heap.size 2 1 v' c.V.length (zc c.V) ∧ Below W.heap.size W w') := fun W hW => clone_nums2 c.vs c.V W (HV.out.later hW) HF.out.1
  have J2 : Hid (∀ W, Below w.heap.size w W → Calls Tryz.prog 34 #[c.ps] W fun e w' => ∃ v', e = .returned v' ∧ w'.ownsRow W.heap.size 51 2 v' l.length (pz l) ∧ Below W.heap.size W w') := fun W hW => clone_parts2 c.ps l W (HP.out.later hW) (by rw [hln]; exact HF.out.2.1)
  have J3 : Hid (∀ (i : Nat) (h1 : i < l.length) (h2 : i < c.P.length) W, Below w.heap.size w W → Calls Tryz.prog 33 #[ptV l[i]] W fun e w' => ∃ v', e = .returned v' ∧ w'.ownsRow W.heap.size 2 1 v' c.P[i].2.length (zc c.P[i].2) ∧ Below W.heap.size W w') := fun i h1 h2 W hW => clone_nums2 _ _ W ((HPS.out i h1 h2).2.1.later hW) (HF.out.2.2.1 _ (List.getElem_mem h2))
  have HPK : Hid (∀ (i : Nat) (h1 : i < l.length) (h2 : i < c.P.length), l[i].1 = c.P[i].1) := fun i h1 h2 => (HPS.out i h1 h2).1
  clear HV HP HPS
  have ev : cmV c = .agg #[.int .i64 c.op, .int .i64 c.ix, .int .i64 c.gn, .int .i64 c.kd, c.vs, c.ps] := rfl
  rw [ev]
  have HCC := hide hcc
  obtain ⟨cvs, hcvs⟩ : ∃ v, v = c.vs := ⟨_, rfl⟩
  obtain ⟨cps, hcps⟩ : ∃ v, v = c.ps := ⟨_, rfl⟩
  have es : cvs = .slice va c.V.length vc ∧ cps = .slice pa c.P.length pc := by
    rw [hcvs, hcps]
    exact ⟨congrArg Cm.vs hcc, congrArg Cm.ps hcc⟩
  rw [← hcvs] at k0 J1 hw0 ⊢
  rw [← hcps] at k0 J2 hw0 ⊢
  obtain ⟨rfl, rfl⟩ := es
  clear hcc ev hcvs hcps HCC
  rw [← hkx] at k0
  rw [← hky] at k1
  have HXY : Hid (kx = w.heap.size ∧ ky = w.heap.size + 1 ∧ w0.heap.size = w.heap.size + 2) := ⟨hkx, hky, hs0⟩
  have K0 := hide k0
  have K1 := hide k1
  go_enter Tryz.func17, Tryz.ntmps17
  go_upto_region 1 with fail
  rw [← hw0]
  rw [← hky, ← hkx]
  have c4 : w0.cell? ⟨kx, 4, none⟩ = some (.slice va c.V.length vc) := by rw [cell_of_row w0 _ _ _ 38 (0, 0) k0]; rfl
  have J4 := hide (J1.out w0 B0.out)
  clear hw0 hkx hky k0 k1 J1 hs0
  go_wp2_with fail
  refine J4.out.mono ?_
  rintro e w1 ⟨v4, rfl, ho1, b1⟩
  obtain ⟨a4, q4, rfl⟩ := own_len ho1
  have k0 := (b1.block kx (lt_of_block K0.out)).trans K0.out
  have z4 := frozen_of_row w1 kx 4 _ 38 k0
  have c4' : w1.cell? ⟨kx, 4, none⟩ = some (.slice va c.V.length vc) := by rw [cell_of_row w1 _ _ _ 38 (0, 0) k0]; rfl
  obtain ⟨w2, hw2⟩ : ∃ X, X = w1.setCell ⟨kx, 4, none⟩ (.slice a4 c.V.length q4) := ⟨_, rfl⟩
  have m2 : Mv w1 w2 (fun j => j = kx) := by rw [hw2]; exact (Mv.refl w1 (fun j => j = kx)).set rfl 4 _
  have k2 : w2.heap[kx]? = some (.cells #[.int .i64 c.op, .int .i64 c.ix, .int .i64 c.gn, .int .i64 c.kd, .slice a4 c.V.length q4, .slice pa c.P.length pc] 38 (0, 0)) := by
    rw [hw2, heap_setCell_same w1 kx 4 _ 38 _ k0]
    rfl
  have ky2 := m2.at ((b1.block ky (lt_of_block K1.out)).trans K1.out) (fun e => by have := HXY.out; omega)
  have ho2 : w2.ownsRow (w.heap.size + 2) 2 1 (.slice a4 c.V.length q4) c.V.length (zc c.V) := by
    rw [← HXY.out.2.2]
    exact m2.own ho1 (fun k e e2 => by have := (ho1.lt k e).1; have := HXY.out; omega)
  have bw2 : Below w.heap.size w w2 := (below_on B0.out b1).trans (m2.below (by have := (below_on B0.out b1).size; omega) (fun k e => by have := HXY.out; omega))
  have B2 := hide bw2
  have K2 := hide k2
  have KY2 := hide ky2
  have HO2 := hide ho2
  have J5 := hide (J2.out w2 bw2)
  have c5 : w2.cell? ⟨kx, 5, none⟩ = some (.slice pa c.P.length pc) := by rw [cell_of_row w2 _ _ _ 38 (0, 0) k2]; rfl
  clear ho1 b1 k0 m2 k2 ky2 ho2 bw2 J2 J4 c4 K0 K1 B0
  go_upto_region 2 with fail
  rw [← hw2]
  clear hw2 z4 c4'
  go_wp2_with fail
  refine J5.out.mono ?_
  rintro e w3 ⟨v5, rfl, ho3, b3⟩
  rw [hln] at ho3
  obtain ⟨a5, q5, rfl⟩ := own_len ho3
  have k0 := (b3.block kx (lt_of_block K2.out)).trans K2.out
  have z5 := frozen_of_row w3 kx 5 _ 38 k0
  have c5' : w3.cell? ⟨kx, 5, none⟩ = some (.slice pa c.P.length pc) := by rw [cell_of_row w3 _ _ _ 38 (0, 0) k0]; rfl
  obtain ⟨w4, hw4⟩ : ∃ X, X = w3.setCell ⟨kx, 5, none⟩ (.slice a5 c.P.length q5) := ⟨_, rfl⟩
  have m4 : Mv w3 w4 (fun j => j = kx) := by rw [hw4]; exact (Mv.refl w3 (fun j => j = kx)).set rfl 5 _
  have HCI : Hid (CI w w4 kx ky c (.slice a4 c.V.length q4) (.slice a5 c.P.length q5) l l 0) := by
    have hxy := HXY.out
    have s2 := B2.out.size
    have s3 := b3.size
    have s4 := m4.size
    have hy2 := lt_of_block KY2.out
    have hs2 : w.heap.size + 2 ≤ w2.heap.size := by omega
    have hlt2 := HO2.out.lt
    have hlt3 := ho3.lt
    refine ⟨?_, m4.at ((b3.block ky (lt_of_block KY2.out)).trans KY2.out) (fun e => by omega), own_plain HO2.out, ⟨(((Iz.own (B := w.heap.size + 2) HO2.out).later b3).frame m4 (fun k e e2 => by have := hlt2 k e; omega)), fun k e => ?_⟩, hln, ?_, fun j _ _ h => absurd h (Nat.not_lt_zero _), fun _ _ _ _ => rfl, ?_⟩
    · rw [hw4, heap_setCell_same w3 kx 5 _ 38 _ k0]
      rfl
    · have := hlt2 k e
      refine ⟨by omega, by omega, fun e2 => ?_⟩
      have := hlt3 k e2
      omega
    · exact own_lower (m4.own ho3 (fun k e e2 => by have := hlt3 k e; omega)) hs2
    · exact (below_on B2.out b3).trans (m4.below (by omega) (fun k e => by omega))
  have c5'' : w4.cell? ⟨kx, 5, none⟩ = some (.slice a5 c.P.length q5) := by rw [cell_of_row w4 _ _ _ 38 (0, 0) HCI.out.kx]; rfl
  clear ho3 b3 k0 m4 J5 c5 K2 KY2 HO2 B2
  go_upto_region 3 with fail
  rw [← hw4]
  clear hw4 z5 c5'
  go_wp2_with fail
  go_loopw [16] (fun v16 W => ∃ i : Nat, i ≤ c.P.length ∧ v16 = .int .i64 (i : Int) ∧ Hid (∃ l', CI w W kx ky c (.slice a4 c.V.length q4) (.slice a5 c.P.length q5) l l' i)) (fun v16 _ => c.P.length - (intOf v16).toNat)
  case atStart => exact ⟨0, Nat.zero_le _, rfl, l, HCI.out⟩
  case round =>
    obtain ⟨i, hi, rfl, HI⟩ := hrel
    obtain ⟨l', hci⟩ := HI.out
    by_cases hlt : i < c.P.length
    · have t1 : (i : Int) < (c.P.length : Int) := by omega
      have tw : IntKind.i64.wrap ((i : Int) + 1) = (i : Int) + 1 := by
        have := HF.out.2.1
        rw [IntKind.wrap_i64]
        omega
      obtain ⟨g, rfl⟩ : ∃ g, a5 = some ⟨g, 0, none⟩ := by
        rcases hci.ow.2 with ⟨e, -⟩ | ⟨g, c9, cur, e, -⟩
        · injection e with _ e2 _
          omega
        · injection e with e1
          exact ⟨g, e1⟩
      have hil' : i < l'.length := by rw [hci.n]; exact hlt
      have hil : i < l.length := by rw [hln]; exact hlt
      have el := hci.hi i hil' hil (Nat.le_refl _)
      obtain ⟨y0, y1⟩ := own_part hci.ow i hil'
      have JC0 := J3.out i hil hlt
      rw [← el] at JC0
      obtain ⟨pk, hpk⟩ : ∃ x, x = l'[i].1 := ⟨_, rfl⟩
      obtain ⟨qa, qn, qc, hq⟩ : ∃ a n c, ptV l'[i] = .slice a n c := ⟨_, _, _, rfl⟩
      rw [hq] at y1 JC0
      rw [← hpk] at y0
      obtain ⟨W3, hW3⟩ : ∃ X, X = wr.alloc (.cells #[.int .i64 pk, .slice qa qn qc] 51) := ⟨_, rfl⟩
      have b3 : Below wr.heap.size wr W3 := hW3 ▸ below_alloc wr _
      have x3 : W3.heap[wr.heap.size]? = some (.cells #[.int .i64 pk, .slice qa qn qc] 51 (0, 0)) := by rw [hW3]; exact heap_alloc_new wr _
      have bd := below_on b3 (below_drew W3)
      have h3 := hci.later bd
      have JC := hide (JC0 W3.drew h3.bl)
      obtain ⟨kz, hkz⟩ : ∃ k, k = wr.heap.size := ⟨_, rfl⟩
      rw [← hkz] at x3
      have KS : Hid (∀ V, Below W3.drew.heap.size W3.drew V → V.cell? ⟨kx, 5, none⟩ = some (.slice (some ⟨g, 0, none⟩) c.P.length q5) ∧ V.cell? ⟨kz, 1, none⟩ = some (.slice qa qn qc)) := fun V hV => by
        have e1 := (h3.later hV).kx
        have e2 := (below_on (below_drew W3) hV).block kz (lt_of_block x3)
        exact ⟨by rw [cell_of_row V _ _ _ 38 (0, 0) e1]; rfl, by rw [cell_of_row V _ _ _ 51 (0, 0) (e2.trans x3)]; rfl⟩
      have s0 := KS.out _ (Below.refl _ _)
      have H3 := hide h3
      have HPKI : Hid (l[i].1 = c.P[i].1) := HPK.out i hil hlt
      clear hci HI JC0 h3 el hpk hq
      go_upto_region 6 with fail
      rw [← hW3]
      rw [← hkz]
      clear hW3 hkz y0 y1 b3 x3 bd
      refine wp_region_late (J := fun i => i != 8) (S := (fun V => V.cell? ⟨kx, 5, none⟩ = some (.slice (some ⟨g, 0, none⟩) c.P.length q5) ∧ V.cell? ⟨kz, 1, none⟩ = some (.slice qa qn qc))) (by kernel_rfl) (s0) (fun hHeld => ?_)
      refine' wpAnyJ_takeW (i := 0) (oi := { dst := some 21, op := Go.Op.fieldAddr 38 (Go.Operand.tmp 1) 4, type := 0, pos := "buffer.go:97", after := #[], guard := none }) (v := _) rfl (by kernel_rfl) (by kernel_rfl) (by kernel_rfl) (fun _ _ _ h => h) (Or.inl ⟨by rfl, ?hyj11⟩) ?rej11
      case hyj11 => (intro W hSw; (try dsimp only at hSw); go_simp; try with_reducible rfl)
      try simp only [Act.put, List.setIfInBounds_toArray, List.set_cons_zero, List.set_cons_succ]
      refine' wpAnyJ_take (i := 1) (oi := { dst := some 22, op := Go.Op.load 36 (Go.Operand.tmp 21), type := 36, pos := "buffer.go:97", after := #[{ on := 0, ground := Go.Ground.data }], guard := none }) (v := _) rfl (by kernel_rfl) (by kernel_rfl) (by kernel_rfl) (by kernel_rfl) (fun _ _ _ h => h) (Or.inl ⟨by rfl, ?hyj12⟩) (by assumption) ?rej12
      case hyj12 => (intro W hSw; (try dsimp only at hSw); go_simp; try with_reducible rfl)
      try simp only [Act.put, List.setIfInBounds_toArray, List.set_cons_zero, List.set_cons_succ]
      refine' wpAnyJ_takeW (i := 2) (oi := { dst := some 23, op := Go.Op.move (Go.Operand.tmp 3), type := 3, pos := "buffer.go:97", after := #[], guard := none }) (v := _) rfl (by kernel_rfl) (by kernel_rfl) (by kernel_rfl) (fun _ _ _ h => h) (Or.inl ⟨by rfl, ?hyj13⟩) ?rej13
      case hyj13 => (intro W hSw; (try dsimp only at hSw); go_simp; try with_reducible rfl)
      try simp only [Act.put, List.setIfInBounds_toArray, List.set_cons_zero, List.set_cons_succ]
      refine' wpAnyJ_takeW (i := 3) (oi := { dst := some 24, op := Go.Op.fieldAddr 51 (Go.Operand.tmp 4) 1, type := 0, pos := "buffer.go:97", after := #[], guard := none }) (v := _) rfl (by kernel_rfl) (by kernel_rfl) (by kernel_rfl) (fun _ _ _ h => h) (Or.inl ⟨by rfl, ?hyj14⟩) ?rej14
      case hyj14 => (intro W hSw; (try dsimp only at hSw); go_simp; try with_reducible rfl)
      try simp only [Act.put, List.setIfInBounds_toArray, List.set_cons_zero, List.set_cons_succ]
      refine' wpAnyJ_take (i := 4) (oi := { dst := some 25, op := Go.Op.load 35 (Go.Operand.tmp 24), type := 35, pos := "buffer.go:97", after := #[{ on := 3, ground := Go.Ground.data }], guard := none }) (v := _) rfl (by kernel_rfl) (by kernel_rfl) (by kernel_rfl) (by kernel_rfl) (fun _ _ _ h => h) (Or.inl ⟨by rfl, ?hyj15⟩) (by assumption) ?rej15
      case hyj15 => (intro W hSw; (try dsimp only at hSw); go_simp; try with_reducible rfl)
      try simp only [Act.put, List.setIfInBounds_toArray, List.set_cons_zero, List.set_cons_succ]
      refine wpAnyJ_ready (rs := [5]) (by kernel_rfl) (by simp) ?_
      refine AllReadyJ.cons (o := { dst := some 26, op := Go.Op.call { callee := Go.Callee.value (Go.Operand.func 33), args := #[Go.Operand.tmp 25], argTypes := #[35] }, type := 35, pos := "buffer.go:97", after := #[{ on := 4, ground := Go.Ground.data }], guard := none }) rfl (fun K hK => ?_) AllReadyJ.nil
      clear hHeld
      go_simp
      refine JC.out.mono ?_
      rintro e w5 ⟨v6, rfl, ho5, b5⟩
      obtain ⟨a6, q6, rfl⟩ := own_len ho5
      have s1 := KS.out _ b5
      have hc5 := H3.out.later b5
      have gc := (own_part hc5.ow i hil').2
      have gz := hc5.ow.frozenAt (i * 2 + 1)
      have HO5 := hide ho5
      have B5 := hide b5
      clear ho5 b5 hc5
      refine hK.out _ _ (fun _ _ => s1) ?_
      clear hK K
      try simp only [Act.put, List.setIfInBounds_toArray, List.set_cons_zero, List.set_cons_succ]
      refine' wpAnyJ_takeW (i := 6) (oi := { dst := some 27, op := Go.Op.indexAddr 36 (Go.Operand.tmp 22) (Go.Operand.tmp 23), type := 0, pos := "buffer.go:97", after := #[{ on := 1, ground := Go.Ground.data }, { on := 2, ground := Go.Ground.data }, { on := 0, ground := Go.Ground.phase }, { on := 1, ground := Go.Ground.phase }, { on := 2, ground := Go.Ground.phase }, { on := 3, ground := Go.Ground.phase }, { on := 4, ground := Go.Ground.phase }, { on := 5, ground := Go.Ground.phase }], guard := none }) (v := _) rfl (by kernel_rfl) (by kernel_rfl) (by kernel_rfl) (fun _ _ _ h => h) (Or.inl ⟨by rfl, ?hyj16⟩) ?rej16
      case hyj16 => (intro W hSw; (try dsimp only at hSw); go_simp; try with_reducible rfl)
      try simp only [Act.put, List.setIfInBounds_toArray, List.set_cons_zero, List.set_cons_succ]
      refine' wpAnyJ_takeW (i := 7) (oi := { dst := some 28, op := Go.Op.fieldAddr 51 (Go.Operand.tmp 27) 1, type := 0, pos := "buffer.go:97", after := #[{ on := 6, ground := Go.Ground.data }, { on := 0, ground := Go.Ground.phase }, { on := 1, ground := Go.Ground.phase }, { on := 2, ground := Go.Ground.phase }, { on := 3, ground := Go.Ground.phase }, { on := 4, ground := Go.Ground.phase }, { on := 5, ground := Go.Ground.phase }], guard := none }) (v := _) rfl (by kernel_rfl) (by kernel_rfl) (by kernel_rfl) (fun _ _ _ h => h) (Or.inl ⟨by rfl, ?hyj17⟩) ?rej17
      case hyj17 => (intro W hSw; (try dsimp only at hSw); go_simp; try with_reducible rfl)
      try simp only [Act.put, List.setIfInBounds_toArray, List.set_cons_zero, List.set_cons_succ]
      refine wpAnyJ_ready (rs := [8]) (by kernel_rfl) (by simp) ?_
      refine AllReadyJ.cons (o := { dst := none, op := Go.Op.store 35 (Go.Operand.tmp 28) (Go.Operand.tmp 26), type := 0, pos := "buffer.go:97", after := #[{ on := 7, ground := Go.Ground.data }, { on := 5, ground := Go.Ground.data }, { on := 5, ground := Go.Ground.chain }, { on := 0, ground := Go.Ground.phase }, { on := 1, ground := Go.Ground.phase }, { on := 2, ground := Go.Ground.phase }, { on := 3, ground := Go.Ground.phase }, { on := 4, ground := Go.Ground.phase }, { on := 5, ground := Go.Ground.phase }], guard := none }) rfl (fun K hK => ?_) AllReadyJ.nil
      go_simp
      refine hK.out _ _ (fun h => absurd h (by decide)) ?_
      clear hK K
      try simp only [Act.put, List.setIfInBounds_toArray, List.set_cons_zero, List.set_cons_succ]
      refine wpAnyJ_done (by kernel_rfl) ?_ _
      have HX : Hid (∃ l'', CI w (w5.setCell ⟨g, i * 2 + 1, none⟩ (.slice a6 c.P[i].2.length q6)) kx ky c (.slice a4 c.V.length q4) (.slice (some ⟨g, 0, none⟩) c.P.length q5) l l'' (i + 1)) := ⟨_, H3.out.step ⟨by have := HXY.out; omega, by have := HXY.out; omega⟩ (by have := lt_of_block H3.out.ky; have := HXY.out; omega) B5.out hil' hlt hil HPKI.out (Nat.le_refl _) HO5.out⟩
      clear s0 s1 gc gz HO5 B5 H3 JC KS
      go_wp2_with fail
      go_roundw
      case rel => exact ⟨i + 1, hlt, by go_num, HX.out⟩
      case measure => simp [intOf]; omega
    · have t1 : ¬ (i : Int) < (c.P.length : Int) := by omega
      obtain rfl : i = c.P.length := by omega
      have r1 := hci.kx
      have r2 := hci.ky
      obtain ⟨w6, hw6⟩ : ∃ X, X = (((((wr.setCell ⟨ky, 0, none⟩ (.int .i64 c.op)).setCell ⟨ky, 1, none⟩ (.int .i64 c.ix)).setCell ⟨ky, 2, none⟩ (.int .i64 c.gn)).setCell ⟨ky, 3, none⟩ (.int .i64 c.kd)).setCell ⟨ky, 4, none⟩ (.slice a4 c.V.length q4)).setCell ⟨ky, 5, none⟩ (.slice a5 c.P.length q5) := ⟨_, rfl⟩
      have m6 : Mv wr w6 (fun j => j = ky) := by rw [hw6]; exact ((((((Mv.refl wr (fun j => j = ky)).set rfl 0 _).set rfl 1 _).set rfl 2 _).set rfl 3 _).set rfl 4 _).set rfl 5 _
      have r6 : w6.heap[ky]? = some (.cells #[.int .i64 c.op, .int .i64 c.ix, .int .i64 c.gn, .int .i64 c.kd, .slice a4 c.V.length q4, .slice a5 c.P.length q5] 38 (0, 0)) := by
        rw [hw6]
        exact heap_setCell_same _ ky 5 _ 38 _ (heap_setCell_same _ ky 4 _ 38 _ (heap_setCell_same _ ky 3 _ 38 _ (heap_setCell_same _ ky 2 _ 38 _ (heap_setCell_same _ ky 1 _ 38 _ (heap_setCell_same wr ky 0 _ 38 _ r2)))))
      have R6 := hide r6
      have x0 : wr.cell? ⟨kx, 0, none⟩ = some (.int .i64 c.op) := by rw [cell_of_row wr _ _ _ 38 (0, 0) r1]; rfl
      have x1 : wr.cell? ⟨kx, 1, none⟩ = some (.int .i64 c.ix) := by rw [cell_of_row wr _ _ _ 38 (0, 0) r1]; rfl
      have x2 : wr.cell? ⟨kx, 2, none⟩ = some (.int .i64 c.gn) := by rw [cell_of_row wr _ _ _ 38 (0, 0) r1]; rfl
      have x3 : wr.cell? ⟨kx, 3, none⟩ = some (.int .i64 c.kd) := by rw [cell_of_row wr _ _ _ 38 (0, 0) r1]; rfl
      have x4 : wr.cell? ⟨kx, 4, none⟩ = some (.slice a4 c.V.length q4) := by rw [cell_of_row wr _ _ _ 38 (0, 0) r1]; rfl
      have x5 : wr.cell? ⟨kx, 5, none⟩ = some (.slice a5 c.P.length q5) := by rw [cell_of_row wr _ _ _ 38 (0, 0) r1]; rfl
      have y0 : wr.cell? ⟨ky, 0, none⟩ = some (.int .i64 0) := by rw [cell_of_row wr _ _ _ 38 (0, 0) r2]; rfl
      have y1 : wr.cell? ⟨ky, 1, none⟩ = some (.int .i64 0) := by rw [cell_of_row wr _ _ _ 38 (0, 0) r2]; rfl
      have y2 : wr.cell? ⟨ky, 2, none⟩ = some (.int .i64 0) := by rw [cell_of_row wr _ _ _ 38 (0, 0) r2]; rfl
      have y3 : wr.cell? ⟨ky, 3, none⟩ = some (.int .i64 0) := by rw [cell_of_row wr _ _ _ 38 (0, 0) r2]; rfl
      have y4 : wr.cell? ⟨ky, 4, none⟩ = some (.slice none 0 0) := by rw [cell_of_row wr _ _ _ 38 (0, 0) r2]; rfl
      have y5 : wr.cell? ⟨ky, 5, none⟩ = some (.slice none 0 0) := by rw [cell_of_row wr _ _ _ 38 (0, 0) r2]; rfl
      have z : ∀ j, wr.frozen? ⟨ky, j, none⟩ = false := fun j => frozen_of_row wr ky j _ 38 r2
      have z0 := z 0
      have z1 := z 1
      have z2 := z 2
      have z3 := z 3
      have z4 := z 4
      have z5 := z 5
      have HE : Hid (CmOk True w6 (fun j => w.heap.size ≤ j ∧ j < w6.heap.size) ⟨c.op, c.ix, c.gn, c.kd, .slice a4 c.V.length q4, .slice a5 c.P.length q5, c.V, c.P⟩ ∧ Below w.heap.size w w6) := by
        have s6 := m6.size
        have hxy := HXY.out
        have hlt5 := hci.ow.lt
        have hpl : l'.length = c.P.length := hci.n
        have hpw : Pp wr (.slice a5 c.P.length q5) l' := Pp.own (B := w.heap.size + 2) (by rw [hpl]; exact hci.ow)
        refine ⟨⟨⟨hci.v4.1.frame m6 (fun k e e2 => by have := hci.v4.2 k e; omega), fun k e => by have := hci.v4.2 k e; constructor <;> omega⟩, ⟨l', hpw.frame m6 (fun k e e2 => by have := hlt5 k e; omega), hpl, fun k e => by have := hlt5 k e; constructor <;> omega, fun j h1 h2 => ?_, fun _ => ⟨own_plain hci.ow, fun j h1 => (hci.lo j h1 (by omega) (by omega)).1.2⟩⟩, HF.out, fun _ => hci.pl⟩, hci.bl.trans (m6.below (by have := hci.bl.size; omega) (fun k e => by omega))⟩
        obtain ⟨a1, a2, a3⟩ := hci.lo j h1 h2 h2
        exact ⟨a1.1, a2.frame m6 (fun k e e2 => by have := a3 k e; omega), fun k e => by have := a3 k e; constructor <;> omega⟩
      clear r1 r2 m6 r6 z hci HI
      go_wp2_with fail
      rw [← hw6]
      clear hw6 x0 x1 x2 x3 x4 x5 y0 y1 y2 y3 y4 y5 z0 z1 z2 z3 z4 z5
      have y0 : w6.cell? ⟨ky, 0, none⟩ = some (.int .i64 c.op) := by rw [cell_of_row w6 _ _ _ 38 (0, 0) R6.out]; rfl
      have y1 : w6.cell? ⟨ky, 1, none⟩ = some (.int .i64 c.ix) := by rw [cell_of_row w6 _ _ _ 38 (0, 0) R6.out]; rfl
      have y2 : w6.cell? ⟨ky, 2, none⟩ = some (.int .i64 c.gn) := by rw [cell_of_row w6 _ _ _ 38 (0, 0) R6.out]; rfl
      have y3 : w6.cell? ⟨ky, 3, none⟩ = some (.int .i64 c.kd) := by rw [cell_of_row w6 _ _ _ 38 (0, 0) R6.out]; rfl
      have y4 : w6.cell? ⟨ky, 4, none⟩ = some (.slice a4 c.V.length q4) := by rw [cell_of_row w6 _ _ _ 38 (0, 0) R6.out]; rfl
      have y5 : w6.cell? ⟨ky, 5, none⟩ = some (.slice a5 c.P.length q5) := by rw [cell_of_row w6 _ _ _ 38 (0, 0) R6.out]; rfl
      (try simp only [Exit.inBlock, Exit.then])
      refine bodyPost_ret (v := cmV ⟨c.op, c.ix, c.gn, c.kd, .slice a4 c.V.length q4, .slice a5 c.P.length q5, c.V, c.P⟩) ?_ rfl ⟨_, rfl, ⟨rfl, rfl, rfl, rfl, rfl, rfl⟩, HE.out.1, HE.out.2⟩
      rw [results_cell1 rfl]
      unfold cmV cmL
      go_simp
end Go.Proofs.YtfbhoemfabgjpaaGreat
