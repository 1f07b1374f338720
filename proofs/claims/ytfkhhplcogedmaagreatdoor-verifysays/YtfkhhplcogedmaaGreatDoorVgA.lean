/-
  Verify: askCalls.
-/
import Derived.Test.YtfkhhplcogedmaaGreatDoorMgM
import Derived.Test.YtfkhhplcogedmaaGreatDoorVfU
import Derived.Test.YtfkhhplcogedmaaGreatDoorMgD
namespace Go.Proofs.YtfkhhplcogedmaaGreatDoor
open Go.RowKit
set_option maxRecDepth 100000
set_option maxHeartbeats 8000000 in
theorem askcalls_any {Q : Nat → Prop} {W : World} {B gv : Nat} {vs vf vk vr : Value} {p : Pg} {ks : List Kind} {L : List Rv} (h : Pm Q W B gv vs vf vk vr p ks L) (hca : ∀ r ∈ p.fns, r.code.length ≤ 2000 ∧ ∀ i ∈ r.code, i.op = 21 → 0 ≤ i.a ∧ i.a < (p.fns.length : Int)) (h16 : p.sys.length ≤ 16 ∧ p.fns.length ≤ 16) : Calls Tryz.prog 25 #[.pointer (some ⟨gv, 0, none⟩)] W fun e w' => ∃ v on, e = .returned v ∧ Fst p.fns.length (Cyc (Eg (cls p.fns))) on ∧ FltN W.heap.size w' v (on.map fun n => (plOf p (p.sys.length + n), 115)) ∧ Below W.heap.size W w' := by
  have HP := hide h
  have HCA := hide hca
  have JF : Hid (∀ a e W, Calls Tryz.prog 20 #[.int .i64 a, .int .i64 e] W fun en w' => ∃ v, en = .returned v ∧ FltN W.heap.size w' v (some (a, e)) ∧ Below W.heap.size W w') := faultN_any
  obtain ⟨il, hil, hl0, hl1, hl2⟩ := info_parts infoL
  obtain ⟨ii, hii, hz0, hz1, hz2⟩ := info_parts infoI2
  obtain ⟨c0, c1, c2, c3⟩ := h.cells
  obtain ⟨fa, fc, hvf, f1, f2⟩ := h.fns.at
  subst hvf
  obtain ⟨nf, hnf⟩ : ∃ n, n = p.fns.length := ⟨_, rfl⟩
  obtain ⟨fns, hfns⟩ : ∃ x, x = p.fns := ⟨_, rfl⟩
  have HFN := hide hfns
  have HNF : Hid (nf = fns.length) := by unfold Hid; rw [hnf, hfns]
  rw [← hnf] at c1 f1 HP HCA h16 ⊢
  rw [← hfns] at HCA ⊢
  have h16' := h16.2
  have H16 := hide h16.1
  clear h hca hnf hfns h16
  go_enter Tryz.func25, Tryz.ntmps25
  go_wp2_with (at_make; refine wpList_make_full _ rfl _ _ 88 rfl W.heap.size 36 il (.slice none 0 0) 1 Tryz.underlying88 hil hl0 hl1 .i64 .i64 _ _ nf rfl rfl ?c1 ?c2 ?c3 ?c4 ?c5 ?_)
  case c1 => rfl
  case c2 => rfl
  case c3 => rw [hl2]; omega
  case c4 => unfold maxLen; omega
  case c5 => omega
  intro w1 hown hgrow
  rw [toList_madeCells_one] at hown
  have B1 : Hid (Below W.heap.size W w1) := (Below.refl _ W).grown hgrow (Nat.le_refl _) (fun k e => by cases e)
  obtain ⟨N, hN⟩ : ∃ x, x = W.heap.size := ⟨_, rfl⟩
  have HN := hide hN
  have X1 : Hid (Cx w1 N N nf (clT fns 0 0) (List.replicate nf (.slice none 0 0))) := by
    refine ⟨⟨?_, by rw [clT_len, HNF.out], fun i h1 h2 => ?_⟩, fun i j h1 h2 _ => ?_⟩
    · rw [hN]
      exact hown
    · simp only [clT_zero, List.getElem_replicate]
      exact World.ownsRow_nil _ _ _ _
    · simp only [List.getElem_replicate]
      intro g e
      simp [Value.ownBlock] at e
  rw [← hN]
  clear hown hgrow hN c0 c1 c2 c3
  obtain ⟨-, c1, -, -⟩ := (HP.out.later B1.out).cells
  go_wp2_with fail
  clear c1
  go_loopw [22] (fun v22 V => ∃ j : Nat, j ≤ nf ∧ v22 = .int .i64 (j : Int) ∧ Hid (∃ rs, Cx V N N nf (clT fns j 0) rs) ∧ Hid (Below W.heap.size W V)) (fun v22 _ => nf - (intOf v22).toNat)
  case atStart => exact ⟨0, Nat.zero_le _, rfl, ⟨_, X1.out⟩, B1⟩
  case round =>
    obtain ⟨j, hj, rfl, HX, HB⟩ := hrel
    clear X1
    by_cases hlt : j < nf
    · have t1 : (j : Int) < (nf : Int) := by omega
      have hjf : j < fns.length := by have := HNF.out; omega
      have hfr := HP.out.fns
      rw [← HFN.out] at hfr
      obtain ⟨g, o, rfl, -, -, -, vc, y1, y2, y3, y4, y5⟩ := hfr.nth hjf
      have hM := Mv.of_below HB.out (fun _ => False)
      have z1 := hM.cell y1 id
      have z2 := hM.cell y2 id
      have z3 := hM.cell y3 id
      have z4 := hM.cell y4 id
      have hcj := HCA.out fns[j] (List.getElem_mem hjf)
      obtain ⟨ac, cc, rfl, hc1, hc2⟩ := y5.at
      have HCO : Hid (∀ V, Below W.heap.size W V → Il Q V (.slice ac fns[j].code.length cc) fns[j].code) := fun V hV => y5.later hV
      obtain ⟨nc, hnc⟩ : ∃ y, y = fns[j].code.length := ⟨_, rfl⟩
      have HNC := hide hnc
      rw [← hnc] at z4 hc1 HCO
      have hcj1 : nc ≤ 2000 := by rw [hnc]; exact hcj.1
      have HCJ := hide hcj.2
      clear hfr hM y1 y2 y3 y4 y5 hcj hnc
      obtain ⟨nm, hnm⟩ : ∃ y, y = fns[j].name := ⟨_, rfl⟩
      obtain ⟨pa, hpa⟩ : ∃ y, y = fns[j].pa := ⟨_, rfl⟩
      obtain ⟨lo, hlo⟩ : ∃ y, y = fns[j].lo := ⟨_, rfl⟩
      rw [← hnm] at z1
      rw [← hpa] at z2
      rw [← hlo] at z3
      clear hnm hpa hlo
      go_upto_region 5 with fail
      obtain ⟨g5, hg5⟩ : ∃ x, x = wr.heap.size := ⟨_, rfl⟩
      obtain ⟨W1, hW1⟩ : ∃ X, X = wr.alloc (.cells #[.string nm, .int .i64 pa, .int .i64 lo, .slice ac nc cc] 35) := ⟨_, rfl⟩
      have b1 : Below wr.heap.size wr W1 := hW1 ▸ below_alloc wr _
      have k5 : W1.heap[g5]? = some (.cells #[.string nm, .int .i64 pa, .int .i64 lo, .slice ac nc cc] 35 (0, 0)) := by rw [hW1, hg5]; exact heap_alloc_new wr _
      have BW1 := hide (below_on HB.out b1)
      have X1 : Hid (∃ rs, Cx W1 N N nf (clT fns j 0) rs) := by
        obtain ⟨rs, h⟩ := HX.out
        exact ⟨rs, h.later b1⟩
      rw [← hW1, ← hg5]
      obtain ⟨-, -, -, x3⟩ := row4 k5
      clear hW1 hg5 b1 k5 z1 z2 z3 z4 HX
      go_wp2_with fail
      clear x3
      go_loopw [30] (fun v30 V => ∃ k : Nat, k ≤ nc ∧ v30 = .int .i64 (k : Int) ∧ Hid (∃ rs, Cx V N N nf (clT fns j k) rs) ∧ Hid (Below W.heap.size W V)) (fun v30 _ => nc - (intOf v30).toNat)
      case atStart => exact ⟨0, Nat.zero_le _, rfl, X1, BW1⟩
      case round =>
        obtain ⟨k, hk, rfl, HX, HB2⟩ := hrel
        clear X1
        by_cases hlt2 : k < nc
        · have t2 : (k : Int) < (nc : Int) := by omega
          have hkc : k < fns[j].code.length := by have := HNC.out; omega
          obtain ⟨gc, oc, rfl, -, d1, d2, -, -⟩ := (HCO.out wr HB2.out).nth hkc
          have HCK := hide (HCJ.out fns[j].code[k] (List.getElem_mem hkc))
          obtain ⟨op, hop⟩ : ∃ y, y = fns[j].code[k].op := ⟨_, rfl⟩
          obtain ⟨av, hav⟩ : ∃ y, y = fns[j].code[k].a := ⟨_, rfl⟩
          rw [← hop] at d1 HCK
          rw [← hav] at d2 HCK
          have HOP := hide hop
          have HAV := hide hav
          clear hop hav
          go_upto_region 8 with fail
          obtain ⟨g7, hg7⟩ : ∃ x, x = wr.heap.size := ⟨_, rfl⟩
          obtain ⟨W2, hW2⟩ : ∃ X, X = wr.alloc (.cells #[.int .i64 op, .int .i64 av] 28) := ⟨_, rfl⟩
          have b2 : Below wr.heap.size wr W2 := hW2 ▸ below_alloc wr _
          have k7 : W2.heap[g7]? = some (.cells #[.int .i64 op, .int .i64 av] 28 (0, 0)) := by rw [hW2, hg7]; exact heap_alloc_new wr _
          have BW2 := hide (below_on HB2.out b2)
          have X2 : Hid (∃ rs, Cx W2 N N nf (clT fns j k) rs) := by
            obtain ⟨rs, h⟩ := HX.out
            exact ⟨rs, h.later b2⟩
          rw [← hW2, ← hg7]
          obtain ⟨x0, x1⟩ := row2 k7
          have K7 := hide k7
          clear hW2 hg7 b2 k7 d1 d2 HX
          by_cases o21 : op = 21
          · subst o21
            have hav := HCK.out rfl
            obtain ⟨rs, hcx⟩ := X2.out
            have hjr : j < rs.length := by rw [hcx.sx.rl]; exact hlt
            have hjl : j < (clT fns j k).length := by rw [clT_len]; exact hjf
            have hown := hcx.sx.own j hjr hjl
            have hcell : W2.cell? ⟨N, j, none⟩ = some rs[j] := by rw [hcx.sx.row.cellAt j (by omega), List.getElem?_eq_getElem hjr]
            rw [clT_at hjf] at hown
            obtain ⟨av', hav'⟩ : ∃ y : Nat, av = (y : Int) := ⟨av.toNat, by omega⟩
            subst hav'
            have HT : Hid ((clT fns j k).set j (clL (fns[j].code.take k) ++ [av']) = clT fns j (k + 1)) := by
              have := clT_put hjf hkc HOP.out.symm
              rw [← HAV.out, Int.toNat_natCast] at this
              exact this
            have hcl : (clL (fns[j].code.take k)).length ≤ 2000 := by
              unfold clL
              rw [List.length_map]
              exact Nat.le_trans (List.length_filter_le _ _) (by rw [List.length_take]; omega)
            obtain ⟨cl, hclE⟩ : ∃ y, y = clL (fns[j].code.take k) := ⟨_, rfl⟩
            rw [← hclE] at hown HT hcl
            obtain ⟨vj, hvj⟩ : ∃ y, y = rs[j] := ⟨_, rfl⟩
            rw [← hvj] at hown hcell
            have HVJ := hide hvj
            have HCX := hide hcx
            have HOW := hide hown
            clear hclE hvj hcx hown
            have hbd := below_drew W2
            have hg7s : g7 < W2.heap.size := lt_of_block K7.out
            have n7 : vj.ownBlock ≠ some g7 := own_not HOW.out K7.out (by decide)
            have nN : vj.ownBlock ≠ some N := fun e => own_ap2 HCX.out.sx.row HOW.out (by decide) N rfl e
            have hNs : N < W2.heap.size := (HCX.out.sx.row.lt N rfl).2
            have SX : Hid (∀ V : World, V.heap[g7]? = W2.heap[g7]? → V.heap[N]? = W2.heap[N]? → (V.cell? ⟨g7, 0, none⟩ = some (.int .i64 21) ∧ V.cell? ⟨g7, 1, none⟩ = some (.int .i64 (av' : Int))) ∧ V.cell? ⟨N, j, none⟩ = some vj) := fun V h1 h2 => ⟨row2 (h1.trans K7.out), (World.cell?_of_block h2).trans hcell⟩
            have S0 := SX.out W2.drew (hbd.block g7 hg7s) (hbd.block N hNs)
            have bda : Below W2.heap.size W2 (W2.drew.alloc (.cells #[.int .i64 (av' : Int)] 3)) := below_on hbd (below_alloc _ _)
            have SB := SX.out (W2.drew.alloc (.cells #[.int .i64 (av' : Int)] 3)) (bda.block g7 hg7s) (bda.block N hNs)
            have OA : (W2.drew.alloc (.cells #[.int .i64 (av' : Int)] 3)).ownsRow N 3 1 vj cl.length (nz cl) := own_later HOW.out bda
            have hNW : N ≤ W2.heap.size := by omega
            go_upto_region 9 with fail
            clear x0 x1 hcell
            refine wp_region_late (J := fun i => i != 11) (S := (fun V => (V.cell? ⟨g7, 0, none⟩ = some (.int .i64 21) ∧ V.cell? ⟨g7, 1, none⟩ = some (.int .i64 (av' : Int))) ∧ V.cell? ⟨N, j, none⟩ = some vj)) (by kernel_rfl) (S0) (fun hHeld => ?_)
            refine' wpAnyJ_takeW (i := 0) (oi := { dst := some 37, op := Go.Op.move (Go.Operand.tmp 3), type := 88, pos := "round.go:16", after := #[], guard := none }) (v := _) rfl (by kernel_rfl) (by kernel_rfl) (by kernel_rfl) (fun _ _ _ h => h) (Or.inl ⟨by rfl, ?hyj21⟩) ?rej21
            case hyj21 => (intro W hSw; (try dsimp only at hSw); go_simp; try with_reducible rfl)
            try simp only [Act.put, List.setIfInBounds_toArray, List.set_cons_zero, List.set_cons_succ]
            refine' wpAnyJ_takeW (i := 1) (oi := { dst := some 38, op := Go.Op.move (Go.Operand.tmp 4), type := 3, pos := "round.go:16", after := #[], guard := none }) (v := _) rfl (by kernel_rfl) (by kernel_rfl) (by kernel_rfl) (fun _ _ _ h => h) (Or.inl ⟨by rfl, ?hyj22⟩) ?rej22
            case hyj22 => (intro W hSw; (try dsimp only at hSw); go_simp; try with_reducible rfl)
            try simp only [Act.put, List.setIfInBounds_toArray, List.set_cons_zero, List.set_cons_succ]
            refine' wpAnyJ_takeW (i := 2) (oi := { dst := some 39, op := Go.Op.move (Go.Operand.tmp 3), type := 88, pos := "round.go:16", after := #[], guard := none }) (v := _) rfl (by kernel_rfl) (by kernel_rfl) (by kernel_rfl) (fun _ _ _ h => h) (Or.inl ⟨by rfl, ?hyj23⟩) ?rej23
            case hyj23 => (intro W hSw; (try dsimp only at hSw); go_simp; try with_reducible rfl)
            try simp only [Act.put, List.setIfInBounds_toArray, List.set_cons_zero, List.set_cons_succ]
            refine' wpAnyJ_takeW (i := 3) (oi := { dst := some 40, op := Go.Op.move (Go.Operand.tmp 4), type := 3, pos := "round.go:16", after := #[], guard := none }) (v := _) rfl (by kernel_rfl) (by kernel_rfl) (by kernel_rfl) (fun _ _ _ h => h) (Or.inl ⟨by rfl, ?hyj24⟩) ?rej24
            case hyj24 => (intro W hSw; (try dsimp only at hSw); go_simp; try with_reducible rfl)
            try simp only [Act.put, List.setIfInBounds_toArray, List.set_cons_zero, List.set_cons_succ]
            refine' wpAnyJ_takeW (i := 4) (oi := { dst := some 41, op := Go.Op.indexAddr 88 (Go.Operand.tmp 39) (Go.Operand.tmp 40), type := 0, pos := "round.go:16", after := #[{ on := 2, ground := Go.Ground.data }, { on := 3, ground := Go.Ground.data }], guard := none }) (v := _) rfl (by kernel_rfl) (by kernel_rfl) (by kernel_rfl) (fun _ _ _ h => h) (Or.inl ⟨by rfl, ?hyj25⟩) ?rej25
            case hyj25 => (intro W hSw; (try dsimp only at hSw); go_simp; try with_reducible rfl)
            try simp only [Act.put, List.setIfInBounds_toArray, List.set_cons_zero, List.set_cons_succ]
            refine' wpAnyJ_take (i := 5) (oi := { dst := some 42, op := Go.Op.load 36 (Go.Operand.tmp 41), type := 36, pos := "round.go:16", after := #[{ on := 4, ground := Go.Ground.data }], guard := none }) (v := _) rfl (by kernel_rfl) (by kernel_rfl) (by kernel_rfl) (by kernel_rfl) (fun _ _ _ h => h) (Or.inl ⟨by rfl, ?hyj26⟩) (by assumption) ?rej26
            case hyj26 => (intro W hSw; (try dsimp only at hSw); go_simp; try with_reducible rfl)
            try simp only [Act.put, List.setIfInBounds_toArray, List.set_cons_zero, List.set_cons_succ]
            refine' wpAnyJ_takeW (i := 6) (oi := { dst := some 43, op := Go.Op.fieldAddr 28 (Go.Operand.tmp 7) 1, type := 0, pos := "round.go:16", after := #[], guard := none }) (v := _) rfl (by kernel_rfl) (by kernel_rfl) (by kernel_rfl) (fun _ _ _ h => h) (Or.inl ⟨by rfl, ?hyj27⟩) ?rej27
            case hyj27 => (intro W hSw; (try dsimp only at hSw); go_simp; try with_reducible rfl)
            try simp only [Act.put, List.setIfInBounds_toArray, List.set_cons_zero, List.set_cons_succ]
            refine' wpAnyJ_take (i := 7) (oi := { dst := some 44, op := Go.Op.load 2 (Go.Operand.tmp 43), type := 2, pos := "round.go:16", after := #[{ on := 6, ground := Go.Ground.data }], guard := none }) (v := _) rfl (by kernel_rfl) (by kernel_rfl) (by kernel_rfl) (by kernel_rfl) (fun _ _ _ h => h) (Or.inl ⟨by rfl, ?hyj28⟩) (by assumption) ?rej28
            case hyj28 => (intro W hSw; (try dsimp only at hSw); go_simp; try with_reducible rfl)
            try simp only [Act.put, List.setIfInBounds_toArray, List.set_cons_zero, List.set_cons_succ]
            refine wpAnyJ_ready (rs := [8]) (by kernel_rfl) (by simp) ?_
            refine AllReadyJ.cons (o := { dst := some 45, op := Go.Op.buildSlice 36 1 #[(0, Go.Operand.tmp 44)], type := 36, pos := "round.go:16", after := #[{ on := 7, ground := Go.Ground.data }], guard := none }) rfl (fun K hK => ?_) AllReadyJ.nil
            go_simp
            refine hK.out _ _ (fun _ _ => SB) ?_
            clear hK K
            try simp only [Act.put, List.setIfInBounds_toArray, List.set_cons_zero, List.set_cons_succ]
            refine wpAnyJ_ready (rs := [9]) (by kernel_rfl) (by simp) ?_
            refine AllReadyJ.cons (o := { dst := some 46, op := Go.Op.call { callee := Go.Callee.builtin Go.Builtin.append, args := #[Go.Operand.tmp 42, Go.Operand.tmp 45], argTypes := #[36, 36] }, type := 36, pos := "round.go:16", after := #[{ on := 5, ground := Go.Ground.data }, { on := 8, ground := Go.Ground.data }], guard := none }) rfl (fun K hK => ?_) AllReadyJ.nil
            refine step_append_lies _ rfl (.tmp 42) (.tmp 45) 36 rfl N 3 ii (.int .i64 0) 1 8 Tryz.underlying36 hii hz0 hz1 hz2 rfl (by decide) vj cl.length (nz cl) (by simp [Act.eval]) OA ⟨W2.heap.size, 0, none⟩ 1 1 [.int .i64 (av' : Int)] (by simp [Act.eval]) rfl (by intro j u hj; match j, hj with | 0, hj => simp at hj; subst hj; simp [Addr.add]) (by intro u hu; simp at hu; subst hu; rfl) (by omega) (by unfold maxLen; omega) (by omega) (by simp; omega) _ rfl ?_
            intro g9 c9 w9 ho9 hg9 hw9 _
            have gA : W2.grownBy w9 vj.ownBlock := ((grown_later hbd).but _).trans ((World.grownBy_alloc _ _ _).trans hg9)
            have SA := SX.out w9 (gA.block g7 hg7s (fun e => n7 e.symm)) (gA.block N hNs (fun e => nN e.symm))
            have ZA : w9.frozen? ⟨N, j, none⟩ = false := (own_kept HCX.out.sx.row gA (fun k e e' => own_ap2 HCX.out.sx.row HOW.out (by decide) k e e')).frozenAt j
            refine hK.out _ _ (fun _ _ => SA) ?_
            clear hK K
            try simp only [Act.put, List.setIfInBounds_toArray, List.set_cons_zero, List.set_cons_succ]
            refine' wpAnyJ_takeW (i := 10) (oi := { dst := some 47, op := Go.Op.indexAddr 88 (Go.Operand.tmp 37) (Go.Operand.tmp 38), type := 0, pos := "round.go:16", after := #[{ on := 0, ground := Go.Ground.data }, { on := 1, ground := Go.Ground.data }, { on := 0, ground := Go.Ground.phase }, { on := 1, ground := Go.Ground.phase }, { on := 2, ground := Go.Ground.phase }, { on := 3, ground := Go.Ground.phase }, { on := 4, ground := Go.Ground.phase }, { on := 5, ground := Go.Ground.phase }, { on := 6, ground := Go.Ground.phase }, { on := 7, ground := Go.Ground.phase }, { on := 8, ground := Go.Ground.phase }, { on := 9, ground := Go.Ground.phase }], guard := none }) (v := _) rfl (by kernel_rfl) (by kernel_rfl) (by kernel_rfl) (fun _ _ _ h => h) (Or.inl ⟨by rfl, ?hyj29⟩) ?rej29
            case hyj29 => (intro W hSw; (try dsimp only at hSw); go_simp; try with_reducible rfl)
            try simp only [Act.put, List.setIfInBounds_toArray, List.set_cons_zero, List.set_cons_succ]
            refine wpAnyJ_ready (rs := [11]) (by kernel_rfl) (by simp) ?_
            refine AllReadyJ.cons (o := { dst := none, op := Go.Op.store 36 (Go.Operand.tmp 47) (Go.Operand.tmp 46), type := 0, pos := "round.go:16", after := #[{ on := 10, ground := Go.Ground.data }, { on := 9, ground := Go.Ground.data }, { on := 9, ground := Go.Ground.chain }, { on := 0, ground := Go.Ground.phase }, { on := 1, ground := Go.Ground.phase }, { on := 2, ground := Go.Ground.phase }, { on := 3, ground := Go.Ground.phase }, { on := 4, ground := Go.Ground.phase }, { on := 5, ground := Go.Ground.phase }, { on := 6, ground := Go.Ground.phase }, { on := 7, ground := Go.Ground.phase }, { on := 8, ground := Go.Ground.phase }, { on := 9, ground := Go.Ground.phase }], guard := none }) rfl (fun K hK => ?_) AllReadyJ.nil
            go_simp
            refine hK.out _ _ (fun h => absurd h (by decide)) ?_
            clear hK K
            try simp only [Act.put, List.setIfInBounds_toArray, List.set_cons_zero, List.set_cons_succ]
            refine wpAnyJ_done (by kernel_rfl) ?_ _
            have RN : Hid (∃ rs', Cx (w9.setCell ⟨N, j, none⟩ (.slice (some ⟨g9, 0, none⟩) (cl.length + 1) c9)) N N nf (clT fns j (k + 1)) rs') := by
              refine ⟨rs.set j (.slice (some ⟨g9, 0, none⟩) (cl.length + 1) c9), ?_⟩
              rw [← HT.out]
              exact HCX.out.grow hjr (HVJ.out ▸ gA) (by simp) (by simpa [nz] using ho9) (HVJ.out ▸ hw9.imp id (fun e => by rw [e]; simp))
            have BN : Hid (Below W.heap.size W (w9.setCell ⟨N, j, none⟩ (.slice (some ⟨g9, 0, none⟩) (cl.length + 1) c9))) := by
              have h1 := BW2.out.grown gA BW2.out.size (fun k e => by have := (HOW.out.lt k e).1; have := HN.out; omega)
              exact h1.grown (grown_set w9 N j _) h1.size (fun k e => by simp at e; have := HN.out; omega)
            clear ho9 hg9 hw9 gA SA ZA SB S0 SX OA bda n7 nN hbd HCX HOW
            go_wp2_with fail
            go_roundw
            case rel => exact ⟨k + 1, by omega, rfl, RN, BN⟩
            case measure => simp only [intOf]; omega
          · have f21 : (op == 21) = false := beq_eq_false_iff_ne.2 o21
            have X3 : Hid (∃ rs, Cx W2 N N nf (clT fns j (k + 1)) rs) := by
              unfold Hid
              rw [clT_skip hjf hkc (by rw [← HOP.out]; exact o21)]
              exact X2.out
            clear o21 X2
            go_wp2_with fail
            go_roundw
            case rel => exact ⟨k + 1, by omega, rfl, X3, BW2⟩
            case measure => simp only [intOf]; omega
        · have t2 : ¬ (k : Int) < (nc : Int) := by omega
          have X3 : Hid (∃ rs, Cx wr N N nf (clT fns (j + 1) 0) rs) := by
            obtain ⟨rs, h⟩ := HX.out
            have e : k = fns[j].code.length := by have := HNC.out; omega
            rw [e, clT_next hjf] at h
            exact ⟨rs, h⟩
          clear HX
          go_wp2_with fail
          go_roundw
          case rel => exact ⟨j + 1, by omega, rfl, X3, HB2⟩
          case measure => simp only [intOf]; omega
    · have t1 : ¬ (j : Int) < (nf : Int) := by omega
      obtain ⟨rs, hcx⟩ := HX.out
      have hjn : j = fns.length := by have := HNF.out; omega
      rw [hjn, clT_all] at hcx
      have CX := hide hcx
      have JC : Hid (∀ V n, Below wr.heap.size wr V → n < nf → Calls Tryz.prog 50 #[.slice (some ⟨N, 0, none⟩) nf nf, .int .i64 ((n : Nat) : Int)] V fun e w' => (∃ b : Bool, e = .returned (.bool b) ∧ (b = true ↔ Cyc (Eg (cls fns)) n)) ∧ Below V.heap.size V w') := fun V n hV hn => by
        have hlen : (cls fns).length = nf := by rw [HNF.out]; simp [cls]
        refine comesback_any ((CX.out.sx.later hV).rr) (by omega) (fun l hl y hy => ?_) (by omega) (fun l hl => ?_)
        · obtain ⟨r, hr, rfl⟩ := List.mem_map.1 hl
          obtain ⟨i, hi, rfl⟩ := List.mem_map.1 hy
          rw [List.mem_filter, decide_eq_true_iff] at hi
          have := (HCA.out r hr).2 i hi.1 hi.2
          omega
        · obtain ⟨r, hr, rfl⟩ := List.mem_map.1 hl
          have := (HCA.out r hr).1
          unfold clL
          rw [List.length_map]
          exact Nat.le_trans (List.length_filter_le _ _) this
      obtain ⟨-, c1, -, -⟩ := (HP.out.later HB.out).cells
      have BJ := HB
      obtain ⟨w5, hw5⟩ : ∃ X, X = wr := ⟨_, rfl⟩
      rw [← hw5] at JC BJ ⊢
      have BJ2 := BJ
      rw [← hw5] at c1
      clear HX hcx hjn CX HB hw5
      go_wp2_with fail
      clear c1
      go_loopw [56] (fun v56 V => ∃ n : Nat, n ≤ nf ∧ v56 = .int .i64 (n : Int) ∧ Hid (∀ m, m < n → ¬ Cyc (Eg (cls fns)) m) ∧ Hid (Below w5.heap.size w5 V)) (fun v56 _ => nf - (intOf v56).toNat)
      case atStart => exact ⟨0, Nat.zero_le _, rfl, fun m hm => absurd hm (by omega), Below.refl _ _⟩
      case round =>
        obtain ⟨n, hn, rfl, HNO, HB⟩ := hrel
        by_cases hlt2 : n < nf
        · have t2 : (n : Int) < (nf : Int) := by omega
          have J := hide (JC.out wr n HB.out hlt2)
          go_wp2_with fail
          refine J.out.mono ?_
          rintro e w6 ⟨⟨b, rfl, hb⟩, b6⟩
          have HBB := hide hb
          have B6 := hide (below_on HB.out b6)
          have BW6 := hide (below_on BJ.out B6.out)
          clear J hb b6
          cases b with
          | false =>
            have HN2 : Hid (∀ m, m < n + 1 → ¬ Cyc (Eg (cls fns)) m) := fun m hm hc => by
              by_cases e : m = n
              · subst e
                exact absurd (HBB.out.2 hc) (by decide)
              · exact HNO.out m (by omega) hc
            clear HNO
            go_wp2_with fail
            go_roundw
            case rel => exact ⟨n + 1, by omega, rfl, HN2, B6⟩
            case measure => simp only [intOf]; omega
          | true =>
            have HFST : Hid (Fst nf (Cyc (Eg (cls fns))) (some n)) := ⟨hlt2, HBB.out.1 rfl, HNO.out⟩
            have hiL : p.sys.length + n < L.length := by rw [HP.out.len, ← HFN.out, ← HNF.out]; omega
            obtain ⟨gr, cr, hvr, r1, r2, -, -, -, -, -, -⟩ := HP.out.row hiL
            obtain ⟨sa, sc, hvs, s1, s2⟩ := HP.out.sys.at
            subst hvr hvs
            have hpl : plOf p (p.sys.length + n) = (L[p.sys.length + n].ro.pl : Int) := by
              unfold plOf
              rw [HP.out.at hiL, List.getElem?_eq_getElem (by rw [rosOf_len, ← HP.out.len]; exact hiL)]
              rfl
            have HSD : Hid (∀ V, Below W.heap.size W V → (V.cell? ⟨gv, 0, none⟩ = some (.slice sa p.sys.length sc) ∧ V.cell? ⟨gv, 3, none⟩ = some (.slice (some ⟨gr, 0, none⟩) L.length cr)) ∧ V.cell? ⟨gr, (p.sys.length + n) * 9 + 4, none⟩ = some (.int .i64 (L[p.sys.length + n].ro.pl : Int))) := fun V hV => by
              obtain ⟨x0, -, -, x3⟩ := (HP.out.later hV).cells
              obtain ⟨gr', cr', e', -, -, -, -, -, -, r7, -⟩ := (HP.out.later hV).row hiL
              simp only [Value.slice.injEq, Option.some.injEq, Addr.mk.injEq, and_true, true_and] at e'
              obtain ⟨rfl, rfl⟩ := e'
              exact ⟨⟨x0, x3⟩, r7⟩
            have HPL := hide hpl
            obtain ⟨pl, hpl'⟩ : ∃ x : Int, x = (L[p.sys.length + n].ro.pl : Int) := ⟨_, rfl⟩
            rw [← hpl'] at HSD HPL
            have h16s := H16.out
            obtain ⟨nL, hnL⟩ : ∃ x, x = L.length := ⟨_, rfl⟩
            obtain ⟨ns, hns⟩ : ∃ x, x = p.sys.length := ⟨_, rfl⟩
            rw [← hnL] at hiL HSD r1
            rw [← hns] at hiL HSD HPL s1 h16s
            have HNSS := hide hns
            obtain ⟨q, hq⟩ : ∃ x, x = ns + n := ⟨_, rfl⟩
            rw [← hq] at hiL HSD HPL
            have te : (ns : Int) + (n : Int) = (q : Int) := by omega
            have tq : (q : Int) < (nL : Int) := by omega
            have tq2 : (q : Int) ≤ 32 := by omega
            have tw : IntKind.i64.wrap (q : Int) = (q : Int) := by rw [IntKind.wrap_i64]; omega
            have tw2 : IntKind.i64.wrap ((ns : Int) + (n : Int)) = (q : Int) := by rw [te, tw]
            have tq0 : (0 : Int) ≤ (q : Int) := by omega
            have HQ := hide hq
            clear hq
            clear hpl hpl' hnL hns HNO HBB HP JC H16
            go_upto_region 16 with fail
            have S0 := hide (HSD.out w6.drew (below_on BW6.out (below_drew w6)))
            go_region_held3 (fun V => (V.cell? ⟨gv, 0, none⟩ = some (.slice sa ns sc) ∧ V.cell? ⟨gv, 3, none⟩ = some (.slice (some ⟨gr, 0, none⟩) nL cr)) ∧ V.cell? ⟨gr, q * 9 + 4, none⟩ = some (.int .i64 pl)) (first | exact S0.out | exact S1) ((go_at_call 20; refine (JF.out _ _ _).mono ?_; rintro e w7 ⟨v7, rfl, f7, b7⟩; have F7 := hide (f7.mono (below_on BW6.out (below_drew w6)).size); have B7 := hide (below_on BW6.out (below_on (below_drew w6) b7)); have S1 := HSD.out w7 B7.out; clear f7 b7))
            clear S0 S1 HSD
            go_wp2_with fail
            go_ret
            refine ⟨_, some n, rfl, HFST.out, ?_, B7.out⟩
            show FltN W.heap.size w7 v7 (some (plOf p (p.sys.length + n), 115))
            rw [← HNSS.out, ← HQ.out, HPL.out]
            exact F7.out
        · have t2 : ¬ (n : Int) < (nf : Int) := by omega
          have HFST : Hid (Fst nf (Cyc (Eg (cls fns))) none) := fun m hm => HNO.out m (by omega)
          have BF := hide (below_on BJ.out HB.out)
          clear HNO
          go_wp2_with fail
          go_ret
          first | exact ⟨_, rfl, none, HFST.out, FltN.none, BF.out⟩ | exact ⟨_, none, rfl, HFST.out, FltN.none, BF.out⟩
end Go.Proofs.YtfkhhplcogedmaaGreatDoor
