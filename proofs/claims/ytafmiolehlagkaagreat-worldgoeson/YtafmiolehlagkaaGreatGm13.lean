import Derived.Test.YtafmiolehlagkaaGreatGm12
import Derived.Test.YtafmiolehlagkaaGreatGm3
import Derived.Test.YtafmiolehlagkaaGreatGm10
import Derived.Test.YtafmiolehlagkaaGreatGm5
/-
  World: Clone, told by who lives with what.
-/
namespace Go.Proofs.YtafmiolehlagkaaGreat
open Go.RowKit
set_option maxRecDepth 100000
theorem Wi.same {ks : List Kind} {f : Int × Int → Option Nat} {q q' : Nat → Option Nat} {T : Nat → Ts} (h : Wi ks f q T) (hq : ∀ s, (q' s).isSome = (q s).isSome) : Wi ks f q' T := by
  refine ⟨fun e s he => ?_, fun s g hg => ?_⟩
  · obtain ⟨h1, ⟨g, h2⟩, h3⟩ := h.1 e s he
    have := hq s
    rw [h2] at this
    exact ⟨h1, Option.isSome_iff_exists.1 this, h3⟩
  · have := hq s
    rw [hg] at this
    obtain ⟨g0, h0⟩ := Option.isSome_iff_exists.1 this.symm
    exact h.2 s g0 h0
theorem Wn.clone {w : World} {own : Nat → Nat} {gw N : Nat} {ks : List Kind} {gs fr : List Nat} {C : Co} (h : Wn w own gw N ks gs fr C) : Calls Tryz.prog 20 #[.pointer (some ⟨gw, 0, none⟩)] w fun e w' => ∃ (g' : Nat) (own' : Nat → Nat), e = .returned (.pointer (some ⟨g', 0, none⟩)) ∧ Wn w' own' g' (N + 8192) ks gs fr C ∧ (∀ k, k < w.heap.size → own' k = if own k = 2 then 2 else 0) ∧ Below w.heap.size w w' := by
  obtain ⟨vk, gp, gm, gt, q, T, h1, h2, h3⟩ := h
  refine (wclone_any h1 h2).mono ?_
  rintro e w' ⟨g', gp', gm', gt', own', q', rfl, k1, k2, k3, k4⟩
  exact ⟨g', own', rfl, ⟨vk, gp', gm', gt', q', T, k1, h2.same k2, h3⟩, k3, k4⟩
end Go.Proofs.YtafmiolehlagkaaGreat

/-
  World: WorldGoesOn, its walk.
-/
namespace Go.Proofs.YtafmiolehlagkaaGreat
open Go.RowKit
set_option maxRecDepth 100000
abbrev oGO1 : Oper := { dst := some 175, op := Op.move (Operand.tmp 6), type := 37, pos := "keeps.go:88", after := #[], guard := none }
abbrev oGO2 : Oper := { dst := some 178, op := Op.move (Operand.tmp 9), type := 37, pos := "keeps.go:88", after := #[], guard := none }
abbrev oGO3 : Oper := { dst := some 176, op := Op.call { callee := Callee.value (Operand.func 13), args := #[Operand.tmp 175], argTypes := #[37] }, type := 51, pos := "keeps.go:88", after := #[{ on := 0, ground := Ground.data }], guard := none }
abbrev oGO4 : Oper := { dst := some 177, op := Op.convert 51 9 (Operand.tmp 176), type := 9, pos := "keeps.go:88", after := #[{ on := 1, ground := Ground.data }], guard := none }
abbrev oGO5 : Oper := { dst := some 179, op := Op.call { callee := Callee.value (Operand.func 13), args := #[Operand.tmp 178], argTypes := #[37] }, type := 51, pos := "keeps.go:88", after := #[{ on := 3, ground := Ground.data }, { on := 1, ground := Ground.chain }], guard := none }
abbrev oGO6 : Oper := { dst := some 180, op := Op.convert 51 9 (Operand.tmp 179), type := 9, pos := "keeps.go:88", after := #[{ on := 4, ground := Ground.data }], guard := none }
abbrev oGO7 : Oper := { dst := some 181, op := Op.binOp BinOp.eql 9 (Operand.tmp 177) (Operand.tmp 180) 9, type := 4, pos := "keeps.go:88", after := #[{ on := 2, ground := Ground.data }, { on := 5, ground := Ground.data }], guard := none }
abbrev oGO8 : Oper := { dst := some 182, op := Op.move (Operand.tmp 181), type := 4, pos := "keeps.go:88", after := #[{ on := 6, ground := Ground.data }, { on := 4, ground := Ground.chain }], guard := none }
abbrev oGO9 : Oper := { dst := some 183, op := Op.move (Operand.tmp 6), type := 37, pos := "keeps.go:88", after := #[{ on := 7, ground := Ground.guard }], guard := some (7, true) }
abbrev oGO10 : Oper := { dst := some 186, op := Op.move (Operand.tmp 11), type := 37, pos := "keeps.go:88", after := #[{ on := 7, ground := Ground.guard }], guard := some (7, true) }
abbrev oGO11 : Oper := { dst := some 184, op := Op.call { callee := Callee.value (Operand.func 13), args := #[Operand.tmp 183], argTypes := #[37] }, type := 51, pos := "keeps.go:88", after := #[{ on := 8, ground := Ground.data }, { on := 7, ground := Ground.chain }, { on := 7, ground := Ground.guard }], guard := some (7, true) }
abbrev oGO12 : Oper := { dst := some 185, op := Op.convert 51 9 (Operand.tmp 184), type := 9, pos := "keeps.go:88", after := #[{ on := 9, ground := Ground.data }, { on := 7, ground := Ground.guard }], guard := some (7, true) }
abbrev oGO13 : Oper := { dst := some 187, op := Op.call { callee := Callee.value (Operand.func 13), args := #[Operand.tmp 186], argTypes := #[37] }, type := 51, pos := "keeps.go:88", after := #[{ on := 11, ground := Ground.data }, { on := 9, ground := Ground.chain }, { on := 7, ground := Ground.guard }], guard := some (7, true) }
abbrev oGO14 : Oper := { dst := some 188, op := Op.convert 51 9 (Operand.tmp 187), type := 9, pos := "keeps.go:88", after := #[{ on := 12, ground := Ground.data }, { on := 7, ground := Ground.guard }], guard := some (7, true) }
abbrev oGO15 : Oper := { dst := some 189, op := Op.binOp BinOp.eql 9 (Operand.tmp 185) (Operand.tmp 188) 9, type := 4, pos := "keeps.go:88", after := #[{ on := 10, ground := Ground.data }, { on := 13, ground := Ground.data }, { on := 7, ground := Ground.guard }], guard := some (7, true) }
abbrev oGO16 : Oper := { dst := some 190, op := Op.pick (Operand.tmp 182) (Operand.tmp 189) (Operand.const (Value.bool false)), type := 4, pos := "keeps.go:88", after := #[{ on := 7, ground := Ground.data }, { on := 14, ground := Ground.data }], guard := none }
abbrev oGO17 : Oper := { dst := some 4, op := Op.assign (Operand.tmp 190), type := 4, pos := "keeps.go:88", after := #[{ on := 15, ground := Ground.data }, { on := 12, ground := Ground.chain }, { on := 0, ground := Ground.phase }, { on := 1, ground := Ground.phase }, { on := 2, ground := Ground.phase }, { on := 3, ground := Ground.phase }, { on := 4, ground := Ground.phase }, { on := 5, ground := Ground.phase }, { on := 6, ground := Ground.phase }, { on := 7, ground := Ground.phase }, { on := 8, ground := Ground.phase }, { on := 9, ground := Ground.phase }, { on := 10, ground := Ground.phase }, { on := 11, ground := Ground.phase }, { on := 12, ground := Ground.phase }, { on := 13, ground := Ground.phase }, { on := 14, ground := Ground.phase }, { on := 15, ground := Ground.phase }], guard := none }
def sdB (s : Sd) : List UInt8 := Pak.Rw.rowB (up s.1) ++ (Pak.Rw.rowB (up s.2.1) ++ onesB usualK s.2.2.1 ((allL s.1 s.2.1).map ie))
theorem snap_is {W : World} {own : Nat → Nat} {gw N : Nat} {s : Sd} (h : Wn W own gw N usualK s.1 s.2.1 s.2.2.1) : Calls Tryz.prog 13 #[.pointer (some ⟨gw, 0, none⟩)] W fun e w' => ∃ v, e = .returned v ∧ (Pak.Bs w' v (sdB s) ∧ True) ∧ Below W.heap.size W w' := by
  refine (h.snap _ (all_livers h.ok h.lv)).mono ?_
  rintro e w' ⟨v, rfl, ⟨l, hl, ho⟩, hb⟩
  refine ⟨v, rfl, ⟨?_, trivial⟩, hb⟩
  have e1 : l = sdB s := by
    rw [hl, List.append_assoc]
    rfl
  rw [← e1]
  exact bs_own ho rfl
theorem Wn.lc {W : World} {own : Nat → Nat} {gw N : Nat} {ks : List Kind} {gs fr : List Nat} {C : Co} (h : Wn W own gw N ks gs fr C) : Lc ks gs fr C := by
  have ho := h.ok
  have hl := h.lv
  have hsb := fun e s vals hc => Wn.sb2 (e := e) (s := s) (vals := vals) h hc
  obtain ⟨vk, gp, gm, gt, q, T, h1, h2, h3, h4, h5, h6⟩ := h
  exact ⟨ho, hl, h4, fun e s vals hc => ⟨(hsb e s vals hc).1, (h2.1 e s (fC_some hc)).1, (hsb e s vals hc).2, h6 e s vals hc⟩⟩
theorem De.later {w w' : World} {v : Value} {ds : List Dd} (h : De w v ds) (hb : Below w.heap.size w w') : De w' v ds := by
  obtain ⟨ao, c, rfl, h1, h2, h3⟩ := h
  refine ⟨ao, c, rfl, h1, h2, fun i hi => ?_⟩
  obtain ⟨g, o, e, c0, c1, c2, c3⟩ := h3 i hi
  exact ⟨g, o, e, (hb.cell (World.block_lt_of_cell? _ _ c0)).trans c0, (hb.cell (World.block_lt_of_cell? _ _ c1)).trans c1, (hb.cell (World.block_lt_of_cell? _ _ c2)).trans c2, (hb.cell (World.block_lt_of_cell? _ _ c3)).trans c3⟩
set_option maxHeartbeats 8000000 in
theorem goes_walk (va vb : Value) (ds ms : List Dd) (w : World) (ha : De w va ds) (hb : De w vb ms) (hfd : ∀ d ∈ ds, DdOk d) (hfm : ∀ d ∈ ms, DdOk d) : Calls Tryz.prog 6 #[va, vb] w fun e w' => e = .returned (.bool true) ∧ Below w.heap.size w w' := by
  have JH := hide (shown_any w)
  have JG : Hid (∀ W, Below w.heap.size w W → Calls Tryz.prog 17 #[va] W fun e w' => ∃ (gw : Nat) (v : Value) (own : Nat → Nat) (i : Nat), e = .returned (.tuple #[.pointer (some ⟨gw, 0, none⟩), v]) ∧ i ≤ 400 ∧ Gw W w' own gw i v (runD none4 (ds.take 400))) := fun W hW => grown_any va ds W (ha.later hW) hfd
  have HBD := hide hb
  have HFM := hide hfm
  generalize runD none4 (ds.take 400) = s0 at *
  clear ha hfd hfm
  obtain ⟨ab, cb, rfl, hl1, hl2, -⟩ := hb
  have hcap : cb ≤ 9223372036854775807 := by unfold maxLen at hl2; omega
  obtain ⟨n, hn⟩ : ∃ n, n = ms.length := ⟨_, rfl⟩
  have HN := hide hn
  rw [← hn] at hl1 HBD ⊢
  clear hn hl2
  go_enter Tryz.func6, Tryz.ntmps6
  go_wp2_with fail
  refine JH.out.mono ?_
  rintro e w0 ⟨rfl, hb0⟩
  have HB0 := hide hb0
  have J1 := hide (JG.out w0 hb0)
  clear hb0 JH JG
  go_wp2_with fail
  refine J1.out.mono ?_
  rintro e w1 ⟨ga, v7, own, i, rfl, hi4, hgw⟩
  have HG := hide hgw
  have J2 := hide (snap_is hgw.1)
  clear hgw J1
  go_wp2_with fail
  refine J2.out.mono ?_
  rintro e w2 ⟨vs, rfl, ⟨hs2, -⟩, hb2⟩
  have J3 := hide (usual_any w2)
  have HS := hide hs2
  have HB2 := hide hb2
  clear hs2 hb2 J2
  go_wp2_with fail
  refine J3.out.mono ?_
  rintro e w3 ⟨vk, rfl, hk3, hb3⟩
  have J4 := hide (load_any vk vs (hk3 w3 (Below.refl _ _)) (sdB s0) (HS.out.below hb3 (Nat.le_refl _)) rfl HG.out.1.lc)
  have HB3 := hide (below_on HB2.out hb3)
  have HS3 := hide (HS.out.below hb3 (Nat.le_refl _))
  clear hk3 hb3 J3 HS HB2
  go_wp2_with fail
  refine J4.out.mono ?_
  rintro e w4 ⟨gx, ox, rfl, hx0, hwx, hb4⟩
  have J5 := hide ((HG.out.1.later (below_on HB3.out hb4)).clone)
  have HX := hide hwx
  have HX0 := hide hx0
  have HB4 := hide hb4
  clear hx0 hwx hb4 J4
  go_wp2_with fail
  refine J5.out.mono ?_
  rintro e w5 ⟨gy, oy, rfl, hwy, hy0, hb5⟩
  have hz3 := HB4.out.size
  have HT : Hid (Tr w0 w5 (rel own w1 0) (rel ox w4 0) oy ga gx gy v7 (.slice none 0 0) (.slice none 0 0) 10000 400 s0 (s0.1, s0.2.1, s0.2.2.1, []) (s0.1, s0.2.1, s0.2.2.1, [])) := Tr.start HG.out hi4 HB3.out HB4.out HX.out HX0.out hb5 hwy hy0
  have HS5 := hide ((HS3.out.below HB4.out (Nat.le_refl _)).below hb5 (Nat.le_refl _))
  clear hwy hy0 hb5 J5 HX HX0 HB4 HB3 HS3 HG hz3
  generalize rel own w1 0 = oa at *
  generalize rel ox w4 0 = ox' at *
  have CX : Hid (∀ W, Below w5.heap.size w5 W → Calls Tryz.prog 13 #[.pointer (some ⟨gx, 0, none⟩)] W fun e w' => ∃ v, e = .returned v ∧ (Pak.Bs w' v (sdB s0) ∧ True) ∧ Below W.heap.size W w') := fun W hW => snap_is (HT.out.later hW).wn1
  have CY : Hid (∀ W, Below w5.heap.size w5 W → Calls Tryz.prog 13 #[.pointer (some ⟨gy, 0, none⟩)] W fun e w' => ∃ v, e = .returned v ∧ (Pak.Bs w' v (sdB s0) ∧ True) ∧ Below W.heap.size W w') := fun W hW => snap_is (HT.out.later hW).wn2
  generalize sdB s0 = lb at *
  have SS0 : Hid (∀ W : World, Below w5.heap.size w5 W → (Below w5.heap.size w5 W ∧ (convert 51 9 vs).run Tryz.prog W = .ok (.string ⟨lb.toArray⟩) W ∧ True)) := fun W hW => ⟨hW, Pak.conv_bs (HS5.out.below hW (Nat.le_refl _)), trivial⟩
  clear HS5
  go_upto_region 8 with fail
  refine wp_region_noPanic ?_
  refine wp_region_held_drew (S := (fun W => Below w5.heap.size w5 W ∧ (convert 51 9 vs).run Tryz.prog W = .ok (.string ⟨lb.toArray⟩) W ∧ True)) (by kernel_rfl) (SS0.out _ ⟨rfl, rfl, rfl, Nat.le_refl _, fun _ _ => rfl⟩) (fun hHeld => ?_)
  refine' wpAnyH_take (i := 0) (oi := { dst := some 44, op := Op.move (Operand.tmp 9), type := 37, pos := "keeps.go:68", after := #[], guard := none }) (v := _) rfl (by kernel_rfl) (by kernel_rfl) (by kernel_rfl) (fun _ _ _ h => h) (Or.inl ⟨by rfl, ?hyE_0⟩) (by assumption) ?reE_0
  case hyE_0 => (intro W hSw; (try dsimp only at hSw); go_simp; try with_reducible rfl)
  try simp only [Act.put, List.setIfInBounds_toArray, List.set_cons_zero, List.set_cons_succ]
  refine' wpAnyH_take (i := 1) (oi := { dst := some 45, op := Op.binOp BinOp.eql 37 (Operand.tmp 44) (Operand.const (Value.pointer none)) 37, type := 4, pos := "keeps.go:68", after := #[{ on := 0, ground := Ground.data }], guard := none }) (v := _) rfl (by kernel_rfl) (by kernel_rfl) (by kernel_rfl) (fun _ _ _ h => h) (Or.inl ⟨by rfl, ?hyE_1⟩) (by assumption) ?reE_1
  case hyE_1 => (intro W hSw; (try dsimp only at hSw); go_simp; try with_reducible rfl)
  try simp only [Act.put, List.setIfInBounds_toArray, List.set_cons_zero, List.set_cons_succ]
  refine' wpAnyH_take (i := 2) (oi := { dst := some 46, op := Op.move (Operand.tmp 45), type := 4, pos := "keeps.go:68", after := #[{ on := 1, ground := Ground.data }], guard := none }) (v := _) rfl (by kernel_rfl) (by kernel_rfl) (by kernel_rfl) (fun _ _ _ h => h) (Or.inl ⟨by rfl, ?hyE_2⟩) (by assumption) ?reE_2
  case hyE_2 => (intro W hSw; (try dsimp only at hSw); go_simp; try with_reducible rfl)
  try simp only [Act.put, List.setIfInBounds_toArray, List.set_cons_zero, List.set_cons_succ]
  refine' wpAnyH_take (i := 3) (oi := { dst := some 47, op := Op.move (Operand.tmp 11), type := 37, pos := "keeps.go:68", after := #[{ on := 2, ground := Ground.guard }], guard := some (2, false) }) (v := _) rfl (by kernel_rfl) (by kernel_rfl) (by kernel_rfl) (fun _ _ _ h => h) (Or.inl ⟨by rfl, ?hyE_3⟩) (by assumption) ?reE_3
  case hyE_3 => (intro W hSw; (try dsimp only at hSw); go_simp; try with_reducible rfl)
  try simp only [Act.put, List.setIfInBounds_toArray, List.set_cons_zero, List.set_cons_succ]
  refine' wpAnyH_take (i := 4) (oi := { dst := some 48, op := Op.binOp BinOp.eql 37 (Operand.tmp 47) (Operand.const (Value.pointer none)) 37, type := 4, pos := "keeps.go:68", after := #[{ on := 3, ground := Ground.data }, { on := 2, ground := Ground.guard }], guard := some (2, false) }) (v := _) rfl (by kernel_rfl) (by kernel_rfl) (by kernel_rfl) (fun _ _ _ h => h) (Or.inl ⟨by rfl, ?hyE_4⟩) (by assumption) ?reE_4
  case hyE_4 => (intro W hSw; (try dsimp only at hSw); go_simp; try with_reducible rfl)
  try simp only [Act.put, List.setIfInBounds_toArray, List.set_cons_zero, List.set_cons_succ]
  refine' wpAnyH_take (i := 5) (oi := { dst := some 49, op := Op.pick (Operand.tmp 46) (Operand.const (Value.bool true)) (Operand.tmp 48), type := 4, pos := "keeps.go:68", after := #[{ on := 2, ground := Ground.data }, { on := 4, ground := Ground.data }], guard := none }) (v := _) rfl (by kernel_rfl) (by kernel_rfl) (by kernel_rfl) (fun _ _ _ h => h) (Or.inl ⟨by rfl, ?hyE_5⟩) (by assumption) ?reE_5
  case hyE_5 => (intro W hSw; (try dsimp only at hSw); go_simp; try with_reducible rfl)
  try simp only [Act.put, List.setIfInBounds_toArray, List.set_cons_zero, List.set_cons_succ]
  refine' wpAnyH_take (i := 6) (oi := { dst := some 50, op := Op.move (Operand.tmp 49), type := 4, pos := "keeps.go:68", after := #[{ on := 5, ground := Ground.data }, { on := 2, ground := Ground.chain }], guard := none }) (v := _) rfl (by kernel_rfl) (by kernel_rfl) (by kernel_rfl) (fun _ _ _ h => h) (Or.inl ⟨by rfl, ?hyE_6⟩) (by assumption) ?reE_6
  case hyE_6 => (intro W hSw; (try dsimp only at hSw); go_simp; try with_reducible rfl)
  try simp only [Act.put, List.setIfInBounds_toArray, List.set_cons_zero, List.set_cons_succ]
  refine' wpAnyH_take (i := 7) (oi := { dst := some 51, op := Op.move (Operand.tmp 10), type := 61, pos := "keeps.go:68", after := #[{ on := 6, ground := Ground.guard }], guard := some (6, false) }) (v := _) rfl (by kernel_rfl) (by kernel_rfl) (by kernel_rfl) (fun _ _ _ h => h) (Or.inl ⟨by rfl, ?hyE_7⟩) (by assumption) ?reE_7
  case hyE_7 => (intro W hSw; (try dsimp only at hSw); go_simp; try with_reducible rfl)
  try simp only [Act.put, List.setIfInBounds_toArray, List.set_cons_zero, List.set_cons_succ]
  refine' wpAnyH_take (i := 8) (oi := { dst := some 52, op := Op.binOp BinOp.neq 61 (Operand.tmp 51) (Operand.const (Value.int IntKind.i64 0)) 61, type := 4, pos := "keeps.go:68", after := #[{ on := 7, ground := Ground.data }, { on := 6, ground := Ground.guard }], guard := some (6, false) }) (v := _) rfl (by kernel_rfl) (by kernel_rfl) (by kernel_rfl) (fun _ _ _ h => h) (Or.inl ⟨by rfl, ?hyE_8⟩) (by assumption) ?reE_8
  case hyE_8 => (intro W hSw; (try dsimp only at hSw); go_simp; try with_reducible rfl)
  try simp only [Act.put, List.setIfInBounds_toArray, List.set_cons_zero, List.set_cons_succ]
  refine' wpAnyH_take (i := 9) (oi := { dst := some 53, op := Op.pick (Operand.tmp 50) (Operand.const (Value.bool true)) (Operand.tmp 52), type := 4, pos := "keeps.go:68", after := #[{ on := 6, ground := Ground.data }, { on := 8, ground := Ground.data }], guard := none }) (v := _) rfl (by kernel_rfl) (by kernel_rfl) (by kernel_rfl) (fun _ _ _ h => h) (Or.inl ⟨by rfl, ?hyE_9⟩) (by assumption) ?reE_9
  case hyE_9 => (intro W hSw; (try dsimp only at hSw); go_simp; try with_reducible rfl)
  try simp only [Act.put, List.setIfInBounds_toArray, List.set_cons_zero, List.set_cons_succ]
  refine' wpAnyH_take (i := 10) (oi := { dst := some 54, op := Op.move (Operand.tmp 53), type := 4, pos := "keeps.go:68", after := #[{ on := 9, ground := Ground.data }, { on := 6, ground := Ground.chain }], guard := none }) (v := _) rfl (by kernel_rfl) (by kernel_rfl) (by kernel_rfl) (fun _ _ _ h => h) (Or.inl ⟨by rfl, ?hyE_10⟩) (by assumption) ?reE_10
  case hyE_10 => (intro W hSw; (try dsimp only at hSw); go_simp; try with_reducible rfl)
  try simp only [Act.put, List.setIfInBounds_toArray, List.set_cons_zero, List.set_cons_succ]
  refine' wpAnyH_take (i := 11) (oi := { dst := some 55, op := Op.move (Operand.tmp 9), type := 37, pos := "keeps.go:68", after := #[{ on := 10, ground := Ground.guard }], guard := some (10, false) }) (v := _) rfl (by kernel_rfl) (by kernel_rfl) (by kernel_rfl) (fun _ _ _ h => h) (Or.inl ⟨by rfl, ?hyE_11⟩) (by assumption) ?reE_11
  case hyE_11 => (intro W hSw; (try dsimp only at hSw); go_simp; try with_reducible rfl)
  try simp only [Act.put, List.setIfInBounds_toArray, List.set_cons_zero, List.set_cons_succ]
  refine' wpAnyH_take (i := 14) (oi := { dst := some 58, op := Op.move (Operand.tmp 8), type := 51, pos := "keeps.go:68", after := #[{ on := 10, ground := Ground.guard }], guard := some (10, false) }) (v := _) rfl (by kernel_rfl) (by kernel_rfl) (by kernel_rfl) (fun _ _ _ h => h) (Or.inl ⟨by rfl, ?hyE_14⟩) (by assumption) ?reE_14
  case hyE_14 => (intro W hSw; (try dsimp only at hSw); go_simp; try with_reducible rfl)
  try simp only [Act.put, List.setIfInBounds_toArray, List.set_cons_zero, List.set_cons_succ]
  refine' wpAnyH_take (i := 15) (oi := { dst := some 59, op := Op.convert 51 9 (Operand.tmp 58), type := 9, pos := "keeps.go:68", after := #[{ on := 14, ground := Ground.data }, { on := 10, ground := Ground.guard }], guard := some (10, false) }) (v := _) rfl (by kernel_rfl) (by kernel_rfl) (by kernel_rfl) (fun _ _ _ h => h) (Or.inl ⟨by rfl, ?hyE_15⟩) (by assumption) ?reE_15
  case hyE_15 => (intro W hSw; (try dsimp only at hSw); go_simp; try with_reducible rfl)
  try simp only [Act.put, List.setIfInBounds_toArray, List.set_cons_zero, List.set_cons_succ]
  refine wpAnyH_ready (rs := [12]) (by kernel_rfl) (by simp) ?_
  refine AllReadyH.cons (o := { dst := some 56, op := Op.call { callee := Callee.value (Operand.func 13), args := #[Operand.tmp 55], argTypes := #[37] }, type := 51, pos := "keeps.go:68", after := #[{ on := 11, ground := Ground.data }, { on := 10, ground := Ground.chain }, { on := 10, ground := Ground.guard }], guard := some (10, false) }) rfl (fun K hK => ?_) AllReadyH.nil
  go_simp
  go_at_call 13
  refine (CX.out w5.drew ⟨rfl, rfl, rfl, Nat.le_refl _, fun _ _ => rfl⟩).mono ?_
  clear hHeld
  rintro e x1 ⟨v1, rfl, dx1, bx1⟩
  have Xx1 : Hid (Below w5.heap.size w5 x1) := ⟨bx1.os, bx1.tape, bx1.output, bx1.size, bx1.block⟩
  have BWx1 : Hid (Below w5.heap.size w5 x1) := Xx1.out
  have SSx1 : Hid (∀ W : World, Below x1.heap.size x1 W → (Below x1.heap.size x1 W ∧ (convert 51 9 v1).run Tryz.prog W = .ok (.string ⟨lb.toArray⟩) W ∧ (convert 51 9 vs).run Tryz.prog W = .ok (.string ⟨lb.toArray⟩) W ∧ True)) := fun W hW => ⟨hW, Pak.conv_bs (dx1.1.below hW (Nat.le_refl _)), (SS0.out W (Xx1.out.trans (hW.mono Xx1.out.size))).2⟩
  refine hK.out _ _ (SS0.out x1 Xx1.out) (fun _ => ?_)
  refine wpAnyH_more2 (S' := fun W => Below x1.heap.size x1 W ∧ (convert 51 9 v1).run Tryz.prog W = .ok (.string ⟨lb.toArray⟩) W ∧ (convert 51 9 vs).run Tryz.prog W = .ok (.string ⟨lb.toArray⟩) W ∧ True) (fun W hW => SS0.out W (Xx1.out.trans (hW.1.mono Xx1.out.size))) _ _ _ _ ?_
  have hHeld := SSx1.out x1 (Below.refl _ _)
  clear hK K dx1 bx1
  try simp only [Act.put, List.setIfInBounds_toArray, List.set_cons_zero, List.set_cons_succ]
  refine' wpAnyH_take (i := 13) (oi := { dst := some 57, op := Op.convert 51 9 (Operand.tmp 56), type := 9, pos := "keeps.go:68", after := #[{ on := 12, ground := Ground.data }, { on := 10, ground := Ground.guard }], guard := some (10, false) }) (v := _) rfl (by kernel_rfl) (by kernel_rfl) (by kernel_rfl) (fun _ _ _ h => h) (Or.inl ⟨by rfl, ?hyE_13⟩) (by assumption) ?reE_13
  case hyE_13 => (intro W hSw; (try dsimp only at hSw); go_simp; try with_reducible rfl)
  try simp only [Act.put, List.setIfInBounds_toArray, List.set_cons_zero, List.set_cons_succ]
  refine' wpAnyH_take (i := 16) (oi := { dst := some 60, op := Op.binOp BinOp.neq 9 (Operand.tmp 57) (Operand.tmp 59) 9, type := 4, pos := "keeps.go:68", after := #[{ on := 13, ground := Ground.data }, { on := 15, ground := Ground.data }, { on := 10, ground := Ground.guard }], guard := some (10, false) }) (v := _) rfl (by kernel_rfl) (by kernel_rfl) (by kernel_rfl) (fun _ _ _ h => h) (Or.inl ⟨by rfl, ?hyE_16⟩) (by assumption) ?reE_16
  case hyE_16 => (intro W hSw; (try dsimp only at hSw); go_simp; try with_reducible rfl)
  try simp only [Act.put, List.setIfInBounds_toArray, List.set_cons_zero, List.set_cons_succ]
  refine' wpAnyH_take (i := 17) (oi := { dst := some 61, op := Op.pick (Operand.tmp 54) (Operand.const (Value.bool true)) (Operand.tmp 60), type := 4, pos := "keeps.go:68", after := #[{ on := 10, ground := Ground.data }, { on := 16, ground := Ground.data }], guard := none }) (v := _) rfl (by kernel_rfl) (by kernel_rfl) (by kernel_rfl) (fun _ _ _ h => h) (Or.inl ⟨by rfl, ?hyE_17⟩) (by assumption) ?reE_17
  case hyE_17 => (intro W hSw; (try dsimp only at hSw); go_simp; try with_reducible rfl)
  try simp only [Act.put, List.setIfInBounds_toArray, List.set_cons_zero, List.set_cons_succ]
  refine' wpAnyH_take (i := 18) (oi := { dst := some 62, op := Op.move (Operand.tmp 61), type := 4, pos := "keeps.go:68", after := #[{ on := 17, ground := Ground.data }, { on := 12, ground := Ground.chain }], guard := none }) (v := _) rfl (by kernel_rfl) (by kernel_rfl) (by kernel_rfl) (fun _ _ _ h => h) (Or.inl ⟨by rfl, ?hyE_18⟩) (by assumption) ?reE_18
  case hyE_18 => (intro W hSw; (try dsimp only at hSw); go_simp; try with_reducible rfl)
  try simp only [Act.put, List.setIfInBounds_toArray, List.set_cons_zero, List.set_cons_succ]
  refine' wpAnyH_take (i := 19) (oi := { dst := some 63, op := Op.move (Operand.tmp 11), type := 37, pos := "keeps.go:68", after := #[{ on := 18, ground := Ground.guard }], guard := some (18, false) }) (v := _) rfl (by kernel_rfl) (by kernel_rfl) (by kernel_rfl) (fun _ _ _ h => h) (Or.inl ⟨by rfl, ?hyE_19⟩) (by assumption) ?reE_19
  case hyE_19 => (intro W hSw; (try dsimp only at hSw); go_simp; try with_reducible rfl)
  try simp only [Act.put, List.setIfInBounds_toArray, List.set_cons_zero, List.set_cons_succ]
  refine' wpAnyH_take (i := 22) (oi := { dst := some 66, op := Op.move (Operand.tmp 8), type := 51, pos := "keeps.go:68", after := #[{ on := 18, ground := Ground.guard }], guard := some (18, false) }) (v := _) rfl (by kernel_rfl) (by kernel_rfl) (by kernel_rfl) (fun _ _ _ h => h) (Or.inl ⟨by rfl, ?hyE_22⟩) (by assumption) ?reE_22
  case hyE_22 => (intro W hSw; (try dsimp only at hSw); go_simp; try with_reducible rfl)
  try simp only [Act.put, List.setIfInBounds_toArray, List.set_cons_zero, List.set_cons_succ]
  refine' wpAnyH_take (i := 23) (oi := { dst := some 67, op := Op.convert 51 9 (Operand.tmp 66), type := 9, pos := "keeps.go:68", after := #[{ on := 22, ground := Ground.data }, { on := 18, ground := Ground.guard }], guard := some (18, false) }) (v := _) rfl (by kernel_rfl) (by kernel_rfl) (by kernel_rfl) (fun _ _ _ h => h) (Or.inl ⟨by rfl, ?hyE_23⟩) (by assumption) ?reE_23
  case hyE_23 => (intro W hSw; (try dsimp only at hSw); go_simp; try with_reducible rfl)
  try simp only [Act.put, List.setIfInBounds_toArray, List.set_cons_zero, List.set_cons_succ]
  refine wpAnyH_ready (rs := [20]) (by kernel_rfl) (by simp) ?_
  refine AllReadyH.cons (o := { dst := some 64, op := Op.call { callee := Callee.value (Operand.func 13), args := #[Operand.tmp 63], argTypes := #[37] }, type := 51, pos := "keeps.go:68", after := #[{ on := 19, ground := Ground.data }, { on := 18, ground := Ground.chain }, { on := 18, ground := Ground.guard }], guard := some (18, false) }) rfl (fun K hK => ?_) AllReadyH.nil
  go_simp
  go_at_call 13
  refine (CY.out x1 BWx1.out).mono ?_
  clear hHeld
  rintro e x2 ⟨v2, rfl, dx2, bx2⟩
  have Xx2 : Hid (Below x1.heap.size x1 x2) := ⟨bx2.os, bx2.tape, bx2.output, bx2.size, bx2.block⟩
  have BWx2 : Hid (Below w5.heap.size w5 x2) := BWx1.out.trans (Xx2.out.mono BWx1.out.size)
  have SSx2 : Hid (∀ W : World, Below x2.heap.size x2 W → (Below x2.heap.size x2 W ∧ (convert 51 9 v2).run Tryz.prog W = .ok (.string ⟨lb.toArray⟩) W ∧ (convert 51 9 v1).run Tryz.prog W = .ok (.string ⟨lb.toArray⟩) W ∧ (convert 51 9 vs).run Tryz.prog W = .ok (.string ⟨lb.toArray⟩) W ∧ True)) := fun W hW => ⟨hW, Pak.conv_bs (dx2.1.below hW (Nat.le_refl _)), (SSx1.out W (Xx2.out.trans (hW.mono Xx2.out.size))).2⟩
  refine hK.out _ _ (SSx1.out x2 Xx2.out) (fun _ => ?_)
  refine wpAnyH_more2 (S' := fun W => Below x2.heap.size x2 W ∧ (convert 51 9 v2).run Tryz.prog W = .ok (.string ⟨lb.toArray⟩) W ∧ (convert 51 9 v1).run Tryz.prog W = .ok (.string ⟨lb.toArray⟩) W ∧ (convert 51 9 vs).run Tryz.prog W = .ok (.string ⟨lb.toArray⟩) W ∧ True) (fun W hW => SSx1.out W (Xx2.out.trans (hW.1.mono Xx2.out.size))) _ _ _ _ ?_
  have hHeld := SSx2.out x2 (Below.refl _ _)
  clear hK K dx2 bx2
  try simp only [Act.put, List.setIfInBounds_toArray, List.set_cons_zero, List.set_cons_succ]
  refine' wpAnyH_take (i := 21) (oi := { dst := some 65, op := Op.convert 51 9 (Operand.tmp 64), type := 9, pos := "keeps.go:68", after := #[{ on := 20, ground := Ground.data }, { on := 18, ground := Ground.guard }], guard := some (18, false) }) (v := _) rfl (by kernel_rfl) (by kernel_rfl) (by kernel_rfl) (fun _ _ _ h => h) (Or.inl ⟨by rfl, ?hyE_21⟩) (by assumption) ?reE_21
  case hyE_21 => (intro W hSw; (try dsimp only at hSw); go_simp; try with_reducible rfl)
  try simp only [Act.put, List.setIfInBounds_toArray, List.set_cons_zero, List.set_cons_succ]
  refine' wpAnyH_take (i := 24) (oi := { dst := some 68, op := Op.binOp BinOp.neq 9 (Operand.tmp 65) (Operand.tmp 67) 9, type := 4, pos := "keeps.go:68", after := #[{ on := 21, ground := Ground.data }, { on := 23, ground := Ground.data }, { on := 18, ground := Ground.guard }], guard := some (18, false) }) (v := _) rfl (by kernel_rfl) (by kernel_rfl) (by kernel_rfl) (fun _ _ _ h => h) (Or.inl ⟨by rfl, ?hyE_24⟩) (by assumption) ?reE_24
  case hyE_24 => (intro W hSw; (try dsimp only at hSw); go_simp; try with_reducible rfl)
  try simp only [Act.put, List.setIfInBounds_toArray, List.set_cons_zero, List.set_cons_succ]
  refine' wpAnyH_take (i := 25) (oi := { dst := some 69, op := Op.pick (Operand.tmp 62) (Operand.const (Value.bool true)) (Operand.tmp 68), type := 4, pos := "keeps.go:68", after := #[{ on := 18, ground := Ground.data }, { on := 24, ground := Ground.data }], guard := none }) (v := _) rfl (by kernel_rfl) (by kernel_rfl) (by kernel_rfl) (fun _ _ _ h => h) (Or.inl ⟨by rfl, ?hyE_25⟩) (by assumption) ?reE_25
  case hyE_25 => (intro W hSw; (try dsimp only at hSw); go_simp; try with_reducible rfl)
  try simp only [Act.put, List.setIfInBounds_toArray, List.set_cons_zero, List.set_cons_succ]
  refine wpAnyH_done (by kernel_rfl) ?_ _
  refine NoPanic.normal ?_
  have HT6 := hide (HT.out.later BWx2.out)
  clear HT SSx1 SSx2 Xx1 Xx2 BWx1 BWx2 SS0 CX CY hHeld
  have hal : s0.2.2.2.length ≤ 400 := (HT6.out.2.1 0 (by omega)).2.1
  have HIN : Hid (∀ p ∈ s0.2.2.2, InB ((p.1 : Int), (p.2 : Int))) := (HT6.out.2.1 0 (by omega)).2.2
  have HO6 := hide HT6.out.own0
  go_wp2_with (at_builtin; refine wpList_append_all rfl _ _ rfl s0.2.2.2 w0.heap.size v7 HO6.out (by omega) rfl rfl ?_)
  intro v13 w7 o7 b7
  have HT7 := hide (HT6.out.list1 s0.2.2.2 b7 o7 hal HIN.out)
  have HO7 := hide HT7.out.own0
  clear HT6 HO6 o7 b7
  go_wp2_with (at_builtin; refine wpList_append_all rfl _ _ rfl s0.2.2.2 w0.heap.size v7 HO7.out (by omega) rfl rfl ?_)
  intro v14 w8 o8 b8
  have HT8 := hide (HT7.out.list2 s0.2.2.2 b8 o8 hal HIN.out)
  clear HT7 HO7 o8 b8 HIN
  go_wp2_with fail
  go_loopw [12, 13, 14, 15] (fun v12 v13 v14 v15 W => ∃ (j : Nat) (oa ox oy : Nat → Nat), j ≤ 200 ∧ j ≤ n ∧ v15 = .int .i64 (j : Int) ∧ Hid (Tr w0 W oa ox oy ga gx gy v12 v13 v14 (10000 + 12 * j) (400 + 3 * j) (runD s0 (ms.take j)) (runD s0 (ms.take j)) (runD s0 (ms.take j)))) (fun _ _ _ v15 _ => 200 - (intOf v15).toNat)
  case atStart => exact ⟨0, _, _, _, Nat.zero_le _, Nat.zero_le _, rfl, HT8⟩
  case round =>
    clear HT8
    obtain ⟨j, o1, o2, o3, hj2, hjn, rfl, HT⟩ := hrel
    by_cases hc : j < n ∧ j < 200
    · obtain ⟨h1, h4⟩ := hc
      have h1' : (j : Int) < (n : Int) := by omega
      have h4' : (j : Int) < 200 := by omega
      have hid : j < ms.length := by have := HN.out; omega
      have HBW := hide (below_on HB0.out HT.out.below)
      obtain ⟨ab', cb', e', -, -, hcl⟩ := HBD.out
      simp only [Value.slice.injEq] at e'
      obtain ⟨rfl, -, rfl⟩ := e'
      obtain ⟨g, o, rfl, c0, c1, c2, c3⟩ := hcl j hid
      have hdd := HFM.out _ (List.getElem_mem hid)
      have HST : Hid (dd (runD s0 (ms.take j)) ms[j] = runD s0 (ms.take (j + 1))) := (runD_step s0 ms j hid).symm
      have HK : Hid (∀ W, Below w.heap.size w W → W.cell? ⟨g, o + j * 4, none⟩ = some (.int .i64 ms[j].1) ∧ W.cell? ⟨g, o + j * 4 + 1, none⟩ = some (.int .i64 ms[j].2.1) ∧ W.cell? ⟨g, o + j * 4 + 2, none⟩ = some (.int .i64 ms[j].2.2.1) ∧ W.cell? ⟨g, o + j * 4 + 3, none⟩ = some (.int .i64 ms[j].2.2.2)) := fun W hb => ⟨(hb.cell (World.block_lt_of_cell? _ _ c0)).trans c0, (hb.cell (World.block_lt_of_cell? _ _ c1)).trans c1, (hb.cell (World.block_lt_of_cell? _ _ c2)).trans c2, (hb.cell (World.block_lt_of_cell? _ _ c3)).trans c3⟩
      clear hcl c0 c1 c2 c3
      generalize ms[j] = d at *
      obtain ⟨y0, y1, y2, y3⟩ := d
      dsimp only at HK
      generalize runD s0 (ms.take j) = S at *
      have J1 := hide (HT.out.tdo0 (by omega) (by omega) (y0, y1, y2, y3) hdd)
      obtain ⟨k0, k1, k2, k3⟩ := HK.out wr HBW.out
      dsimp only at J1
      clear HT
      go_wp2_with fail
      refine J1.out.mono ?_
      rintro e wA ⟨v16, rfl, p1, p2, p3, hTA⟩
      have HBA := hide (below_on HB0.out hTA.below)
      have J2 := hide (hTA.tdo1 (by omega) (by omega) (y0, y1, y2, y3) hdd)
      dsimp only at J2
      clear J1 hTA k0 k1 k2 k3 HBW
      obtain ⟨k0, k1, k2, k3⟩ := HK.out wA HBA.out
      go_wp2_with fail
      refine J2.out.mono ?_
      rintro e wB ⟨v18, rfl, q1, q2, q3, hTB⟩
      have HBB := hide (below_on HB0.out hTB.below)
      have J3 := hide (hTB.tdo2 (by omega) (by omega) (y0, y1, y2, y3) hdd)
      dsimp only at J3
      clear J2 hTB k0 k1 k2 k3 HBA
      obtain ⟨k0, k1, k2, k3⟩ := HK.out wB HBB.out
      go_wp2_with fail
      refine J3.out.mono ?_
      rintro e wC ⟨v20, rfl, r1, r2, r3, hTC⟩
      rw [HST.out] at hTC
      have HTC : Hid (Tr w0 wC r1 r2 r3 ga gx gy v16 v18 v20 (10000 + 12 * (j + 1)) (400 + 3 * (j + 1)) (runD s0 (ms.take (j + 1))) (runD s0 (ms.take (j + 1))) (runD s0 (ms.take (j + 1)))) := hTC
      clear J3 hTC k0 k1 k2 k3 HBB HK HST
      have ow0 := HTC.out.own0
      have ow1 := HTC.out.own1
      have ow2 := HTC.out.own2
      generalize (deed S y0 y1 y2 y3).1 = z at *
      have tz : (z != z) = false := by simp
      have hcA : (runD s0 (ms.take (j + 1))).2.2.2.length ≤ 1000 := by have := (HTC.out.2.1 0 (by omega)).2.1; have e : (t3 (runD s0 (ms.take (j + 1))) (runD s0 (ms.take (j + 1))) (runD s0 (ms.take (j + 1))) 0) = runD s0 (ms.take (j + 1)) := rfl; rw [e] at this; omega
      obtain ⟨A, hA⟩ : ∃ A, A = (runD s0 (ms.take (j + 1))).2.2.2 := ⟨_, rfl⟩
      rw [← hA] at ow0 ow1 ow2 hcA
      clear hA hdd
      obtain ⟨a16, c16, rfl⟩ := own_len ow0
      obtain ⟨a18, c18, rfl⟩ := own_len ow1
      obtain ⟨a20, c20, rfl⟩ := own_len ow2
      have cp0 := own_cap ow0
      have cp1 := own_cap ow1
      have cp2 := own_cap ow2
      have tl : ((A.length : Int) != (A.length : Int)) = false := by simp
      by_cases hA0 : A.length = 0
      · have tA : ¬ (A.length : Int) > 0 := by omega
        clear ow0 ow1 ow2
        go_upto_region 21 with fail
        go_quiet (fail)
        have HEND := hide (HTC.out.later (Pak.below_drew' (B := wC.heap.size) ⟨nq, rfl⟩))
        rw [hA0] at HEND
        go_wp2_with fail
        go_roundw
        case rel => exact ⟨j + 1, _, _, _, by omega, by omega, by go_num, HEND⟩
        case measure => simp [intOf]; omega
      · obtain ⟨p, hp⟩ : ∃ p, A.length = p + 1 := ⟨A.length - 1, by omega⟩
        have hpl : p < A.length := by omega
        obtain ⟨g16, d16, e6, -, -⟩ := own_form ow0 (by omega)
        simp only [Value.slice.injEq] at e6
        obtain ⟨rfl, -, rfl⟩ := e6
        obtain ⟨g18, d18, e8, -, -⟩ := own_form ow1 (by omega)
        simp only [Value.slice.injEq] at e8
        obtain ⟨rfl, -, rfl⟩ := e8
        obtain ⟨g20, d20, e9, -, -⟩ := own_form ow2 (by omega)
        simp only [Value.slice.injEq] at e9
        obtain ⟨rfl, -, rfl⟩ := e9
        obtain ⟨ea, eb⟩ := ec_at A p hpl
        have u0 := (ow0.cellAt (p * 2) (by omega)).trans ea
        have u1 := (ow0.cellAt (p * 2 + 1) (by omega)).trans eb
        have x0 := (ow1.cellAt (p * 2) (by omega)).trans ea
        have x1 := (ow1.cellAt (p * 2 + 1) (by omega)).trans eb
        have z0 := (ow2.cellAt (p * 2) (by omega)).trans ea
        have z1 := (ow2.cellAt (p * 2 + 1) (by omega)).trans eb
        generalize ((A[p]'hpl).1 : Int) = x at *
        generalize ((A[p]'hpl).2 : Int) = y at *
        clear ea eb ow0 ow1 ow2
        rw [hp] at cp0 cp1 cp2 tl ⊢
        have tA : ((p + 1 : Nat) : Int) > 0 := by omega
        have tw : IntKind.i64.wrap (((p + 1 : Nat) : Int) - 1) = (p : Int) := by rw [IntKind.wrap_i64]; omega
        go_upto_region 21 with fail
        go_quiet (fail)
        have HEND := hide (HTC.out.later (Pak.below_drew' (B := wC.heap.size) ⟨nq, rfl⟩))
        rw [hp] at HEND
        go_wp2_with fail
        go_roundw
        case rel => exact ⟨j + 1, _, _, _, by omega, by omega, by go_num, HEND⟩
        case measure => simp [intOf]; omega
    · have HE : Hid (∀ W, Below wr.heap.size wr W → Below w.heap.size w W) := fun W hW => below_on (below_on HB0.out HT.out.below) hW
      have CA : Hid (∀ W, Below wr.heap.size wr W → Calls Tryz.prog 13 #[.pointer (some ⟨ga, 0, none⟩)] W fun e w' => ∃ v, e = .returned v ∧ (Pak.Bs w' v (sdB (runD s0 (ms.take j))) ∧ True) ∧ Below W.heap.size W w') := fun W hW => snap_is (HT.out.later hW).wn0
      have CX : Hid (∀ W, Below wr.heap.size wr W → Calls Tryz.prog 13 #[.pointer (some ⟨gx, 0, none⟩)] W fun e w' => ∃ v, e = .returned v ∧ (Pak.Bs w' v (sdB (runD s0 (ms.take j))) ∧ True) ∧ Below W.heap.size W w') := fun W hW => snap_is (HT.out.later hW).wn1
      have CY : Hid (∀ W, Below wr.heap.size wr W → Calls Tryz.prog 13 #[.pointer (some ⟨gy, 0, none⟩)] W fun e w' => ∃ v, e = .returned v ∧ (Pak.Bs w' v (sdB (runD s0 (ms.take j))) ∧ True) ∧ Below W.heap.size W w') := fun W hW => snap_is (HT.out.later hW).wn2
      generalize sdB (runD s0 (ms.take j)) = le at *
      have SS0 : Hid (∀ W : World, Below wr.heap.size wr W → (Below wr.heap.size wr W ∧ True)) := fun W hW => ⟨hW, trivial⟩
      clear HT HBD HFM HB0
      obtain ⟨wc, hwc⟩ : ∃ W, W = wr := ⟨_, rfl⟩
      subst hwc
      have hcc : (¬ (j : Int) < (n : Int)) ∨ ((j : Int) < (n : Int) ∧ ¬ (j : Int) < 200) := by omega
      clear hc
      rcases hcc with h1 | ⟨h1, h2⟩
      · go_upto_region 26 with fail
        refine wp_region_noPanic ?_
        refine wp_region_held_drew (S := (fun W => Below wc.heap.size wc W ∧ True)) (by kernel_rfl) (SS0.out _ ⟨rfl, rfl, rfl, Nat.le_refl _, fun _ _ => rfl⟩) (fun hHeld => ?_)
        refine' wpAnyH_take (i := 0) (oi := oGO1) (v := _) rfl (by kernel_rfl) (by kernel_rfl) (by kernel_rfl) (fun _ _ _ h => h) (Or.inl ⟨by rfl, ?hyF_0⟩) (by assumption) ?reF_0
        case hyF_0 => (intro W hSw; (try dsimp only at hSw); go_simp; try with_reducible rfl)
        try simp only [Act.put, List.setIfInBounds_toArray, List.set_cons_zero, List.set_cons_succ]
        refine' wpAnyH_take (i := 3) (oi := oGO2) (v := _) rfl (by kernel_rfl) (by kernel_rfl) (by kernel_rfl) (fun _ _ _ h => h) (Or.inl ⟨by rfl, ?hyF_3⟩) (by assumption) ?reF_3
        case hyF_3 => (intro W hSw; (try dsimp only at hSw); go_simp; try with_reducible rfl)
        try simp only [Act.put, List.setIfInBounds_toArray, List.set_cons_zero, List.set_cons_succ]
        refine wpAnyH_ready (rs := [1]) (by kernel_rfl) (by simp) ?_
        refine AllReadyH.cons (o := oGO3) rfl (fun K hK => ?_) AllReadyH.nil
        go_simp
        go_at_call 13
        refine (CA.out wc.drew ⟨rfl, rfl, rfl, Nat.le_refl _, fun _ _ => rfl⟩).mono ?_
        clear hHeld
        rintro e x1 ⟨v1, rfl, dx1, bx1⟩
        have Xx1 : Hid (Below wc.heap.size wc x1) := ⟨bx1.os, bx1.tape, bx1.output, bx1.size, bx1.block⟩
        have BWx1 : Hid (Below wc.heap.size wc x1) := Xx1.out
        have SSx1 : Hid (∀ W : World, Below x1.heap.size x1 W → (Below x1.heap.size x1 W ∧ (convert 51 9 v1).run Tryz.prog W = .ok (.string ⟨le.toArray⟩) W ∧ True)) := fun W hW => ⟨hW, Pak.conv_bs (dx1.1.below hW (Nat.le_refl _)), (SS0.out W (Xx1.out.trans (hW.mono Xx1.out.size))).2⟩
        refine hK.out _ _ (SS0.out x1 Xx1.out) (fun _ => ?_)
        refine wpAnyH_more2 (S' := fun W => Below x1.heap.size x1 W ∧ (convert 51 9 v1).run Tryz.prog W = .ok (.string ⟨le.toArray⟩) W ∧ True) (fun W hW => SS0.out W (Xx1.out.trans (hW.1.mono Xx1.out.size))) _ _ _ _ ?_
        have hHeld := SSx1.out x1 (Below.refl _ _)
        clear hK K dx1 bx1
        try simp only [Act.put, List.setIfInBounds_toArray, List.set_cons_zero, List.set_cons_succ]
        refine' wpAnyH_take (i := 2) (oi := oGO4) (v := _) rfl (by kernel_rfl) (by kernel_rfl) (by kernel_rfl) (fun _ _ _ h => h) (Or.inl ⟨by rfl, ?hyF_2⟩) (by assumption) ?reF_2
        case hyF_2 => (intro W hSw; (try dsimp only at hSw); go_simp; try with_reducible rfl)
        try simp only [Act.put, List.setIfInBounds_toArray, List.set_cons_zero, List.set_cons_succ]
        refine wpAnyH_ready (rs := [4]) (by kernel_rfl) (by simp) ?_
        refine AllReadyH.cons (o := oGO5) rfl (fun K hK => ?_) AllReadyH.nil
        go_simp
        go_at_call 13
        refine (CX.out x1 BWx1.out).mono ?_
        clear hHeld
        rintro e x2 ⟨v2, rfl, dx2, bx2⟩
        have Xx2 : Hid (Below x1.heap.size x1 x2) := ⟨bx2.os, bx2.tape, bx2.output, bx2.size, bx2.block⟩
        have BWx2 : Hid (Below wc.heap.size wc x2) := BWx1.out.trans (Xx2.out.mono BWx1.out.size)
        have SSx2 : Hid (∀ W : World, Below x2.heap.size x2 W → (Below x2.heap.size x2 W ∧ (convert 51 9 v2).run Tryz.prog W = .ok (.string ⟨le.toArray⟩) W ∧ (convert 51 9 v1).run Tryz.prog W = .ok (.string ⟨le.toArray⟩) W ∧ True)) := fun W hW => ⟨hW, Pak.conv_bs (dx2.1.below hW (Nat.le_refl _)), (SSx1.out W (Xx2.out.trans (hW.mono Xx2.out.size))).2⟩
        refine hK.out _ _ (SSx1.out x2 Xx2.out) (fun _ => ?_)
        refine wpAnyH_more2 (S' := fun W => Below x2.heap.size x2 W ∧ (convert 51 9 v2).run Tryz.prog W = .ok (.string ⟨le.toArray⟩) W ∧ (convert 51 9 v1).run Tryz.prog W = .ok (.string ⟨le.toArray⟩) W ∧ True) (fun W hW => SSx1.out W (Xx2.out.trans (hW.1.mono Xx2.out.size))) _ _ _ _ ?_
        have hHeld := SSx2.out x2 (Below.refl _ _)
        clear hK K dx2 bx2
        try simp only [Act.put, List.setIfInBounds_toArray, List.set_cons_zero, List.set_cons_succ]
        refine' wpAnyH_take (i := 5) (oi := oGO6) (v := _) rfl (by kernel_rfl) (by kernel_rfl) (by kernel_rfl) (fun _ _ _ h => h) (Or.inl ⟨by rfl, ?hyF_5⟩) (by assumption) ?reF_5
        case hyF_5 => (intro W hSw; (try dsimp only at hSw); go_simp; try with_reducible rfl)
        try simp only [Act.put, List.setIfInBounds_toArray, List.set_cons_zero, List.set_cons_succ]
        refine' wpAnyH_take (i := 6) (oi := oGO7) (v := _) rfl (by kernel_rfl) (by kernel_rfl) (by kernel_rfl) (fun _ _ _ h => h) (Or.inl ⟨by rfl, ?hyF_6⟩) (by assumption) ?reF_6
        case hyF_6 => (intro W hSw; (try dsimp only at hSw); go_simp; try with_reducible rfl)
        try simp only [Act.put, List.setIfInBounds_toArray, List.set_cons_zero, List.set_cons_succ]
        refine' wpAnyH_take (i := 7) (oi := oGO8) (v := _) rfl (by kernel_rfl) (by kernel_rfl) (by kernel_rfl) (fun _ _ _ h => h) (Or.inl ⟨by rfl, ?hyF_7⟩) (by assumption) ?reF_7
        case hyF_7 => (intro W hSw; (try dsimp only at hSw); go_simp; try with_reducible rfl)
        try simp only [Act.put, List.setIfInBounds_toArray, List.set_cons_zero, List.set_cons_succ]
        refine' wpAnyH_take (i := 8) (oi := oGO9) (v := _) rfl (by kernel_rfl) (by kernel_rfl) (by kernel_rfl) (fun _ _ _ h => h) (Or.inl ⟨by rfl, ?hyF_8⟩) (by assumption) ?reF_8
        case hyF_8 => (intro W hSw; (try dsimp only at hSw); go_simp; try with_reducible rfl)
        try simp only [Act.put, List.setIfInBounds_toArray, List.set_cons_zero, List.set_cons_succ]
        refine' wpAnyH_take (i := 11) (oi := oGO10) (v := _) rfl (by kernel_rfl) (by kernel_rfl) (by kernel_rfl) (fun _ _ _ h => h) (Or.inl ⟨by rfl, ?hyF_11⟩) (by assumption) ?reF_11
        case hyF_11 => (intro W hSw; (try dsimp only at hSw); go_simp; try with_reducible rfl)
        try simp only [Act.put, List.setIfInBounds_toArray, List.set_cons_zero, List.set_cons_succ]
        refine wpAnyH_ready (rs := [9]) (by kernel_rfl) (by simp) ?_
        refine AllReadyH.cons (o := oGO11) rfl (fun K hK => ?_) AllReadyH.nil
        go_simp
        go_at_call 13
        refine (CA.out x2 BWx2.out).mono ?_
        clear hHeld
        rintro e x3 ⟨v3, rfl, dx3, bx3⟩
        have Xx3 : Hid (Below x2.heap.size x2 x3) := ⟨bx3.os, bx3.tape, bx3.output, bx3.size, bx3.block⟩
        have BWx3 : Hid (Below wc.heap.size wc x3) := BWx2.out.trans (Xx3.out.mono BWx2.out.size)
        have SSx3 : Hid (∀ W : World, Below x3.heap.size x3 W → (Below x3.heap.size x3 W ∧ (convert 51 9 v3).run Tryz.prog W = .ok (.string ⟨le.toArray⟩) W ∧ (convert 51 9 v2).run Tryz.prog W = .ok (.string ⟨le.toArray⟩) W ∧ (convert 51 9 v1).run Tryz.prog W = .ok (.string ⟨le.toArray⟩) W ∧ True)) := fun W hW => ⟨hW, Pak.conv_bs (dx3.1.below hW (Nat.le_refl _)), (SSx2.out W (Xx3.out.trans (hW.mono Xx3.out.size))).2⟩
        refine hK.out _ _ (SSx2.out x3 Xx3.out) (fun _ => ?_)
        refine wpAnyH_more2 (S' := fun W => Below x3.heap.size x3 W ∧ (convert 51 9 v3).run Tryz.prog W = .ok (.string ⟨le.toArray⟩) W ∧ (convert 51 9 v2).run Tryz.prog W = .ok (.string ⟨le.toArray⟩) W ∧ (convert 51 9 v1).run Tryz.prog W = .ok (.string ⟨le.toArray⟩) W ∧ True) (fun W hW => SSx2.out W (Xx3.out.trans (hW.1.mono Xx3.out.size))) _ _ _ _ ?_
        have hHeld := SSx3.out x3 (Below.refl _ _)
        clear hK K dx3 bx3
        try simp only [Act.put, List.setIfInBounds_toArray, List.set_cons_zero, List.set_cons_succ]
        refine' wpAnyH_take (i := 10) (oi := oGO12) (v := _) rfl (by kernel_rfl) (by kernel_rfl) (by kernel_rfl) (fun _ _ _ h => h) (Or.inl ⟨by rfl, ?hyF_10⟩) (by assumption) ?reF_10
        case hyF_10 => (intro W hSw; (try dsimp only at hSw); go_simp; try with_reducible rfl)
        try simp only [Act.put, List.setIfInBounds_toArray, List.set_cons_zero, List.set_cons_succ]
        refine wpAnyH_ready (rs := [12]) (by kernel_rfl) (by simp) ?_
        refine AllReadyH.cons (o := oGO13) rfl (fun K hK => ?_) AllReadyH.nil
        go_simp
        go_at_call 13
        refine (CY.out x3 BWx3.out).mono ?_
        clear hHeld
        rintro e x4 ⟨v4, rfl, dx4, bx4⟩
        have Xx4 : Hid (Below x3.heap.size x3 x4) := ⟨bx4.os, bx4.tape, bx4.output, bx4.size, bx4.block⟩
        have BWx4 : Hid (Below wc.heap.size wc x4) := BWx3.out.trans (Xx4.out.mono BWx3.out.size)
        have SSx4 : Hid (∀ W : World, Below x4.heap.size x4 W → (Below x4.heap.size x4 W ∧ (convert 51 9 v4).run Tryz.prog W = .ok (.string ⟨le.toArray⟩) W ∧ (convert 51 9 v3).run Tryz.prog W = .ok (.string ⟨le.toArray⟩) W ∧ (convert 51 9 v2).run Tryz.prog W = .ok (.string ⟨le.toArray⟩) W ∧ (convert 51 9 v1).run Tryz.prog W = .ok (.string ⟨le.toArray⟩) W ∧ True)) := fun W hW => ⟨hW, Pak.conv_bs (dx4.1.below hW (Nat.le_refl _)), (SSx3.out W (Xx4.out.trans (hW.mono Xx4.out.size))).2⟩
        refine hK.out _ _ (SSx3.out x4 Xx4.out) (fun _ => ?_)
        refine wpAnyH_more2 (S' := fun W => Below x4.heap.size x4 W ∧ (convert 51 9 v4).run Tryz.prog W = .ok (.string ⟨le.toArray⟩) W ∧ (convert 51 9 v3).run Tryz.prog W = .ok (.string ⟨le.toArray⟩) W ∧ (convert 51 9 v2).run Tryz.prog W = .ok (.string ⟨le.toArray⟩) W ∧ (convert 51 9 v1).run Tryz.prog W = .ok (.string ⟨le.toArray⟩) W ∧ True) (fun W hW => SSx3.out W (Xx4.out.trans (hW.1.mono Xx4.out.size))) _ _ _ _ ?_
        have hHeld := SSx4.out x4 (Below.refl _ _)
        clear hK K dx4 bx4
        try simp only [Act.put, List.setIfInBounds_toArray, List.set_cons_zero, List.set_cons_succ]
        refine' wpAnyH_take (i := 13) (oi := oGO14) (v := _) rfl (by kernel_rfl) (by kernel_rfl) (by kernel_rfl) (fun _ _ _ h => h) (Or.inl ⟨by rfl, ?hyF_13⟩) (by assumption) ?reF_13
        case hyF_13 => (intro W hSw; (try dsimp only at hSw); go_simp; try with_reducible rfl)
        try simp only [Act.put, List.setIfInBounds_toArray, List.set_cons_zero, List.set_cons_succ]
        refine' wpAnyH_take (i := 14) (oi := oGO15) (v := _) rfl (by kernel_rfl) (by kernel_rfl) (by kernel_rfl) (fun _ _ _ h => h) (Or.inl ⟨by rfl, ?hyF_14⟩) (by assumption) ?reF_14
        case hyF_14 => (intro W hSw; (try dsimp only at hSw); go_simp; try with_reducible rfl)
        try simp only [Act.put, List.setIfInBounds_toArray, List.set_cons_zero, List.set_cons_succ]
        refine' wpAnyH_take (i := 15) (oi := oGO16) (v := _) rfl (by kernel_rfl) (by kernel_rfl) (by kernel_rfl) (fun _ _ _ h => h) (Or.inl ⟨by rfl, ?hyF_15⟩) (by assumption) ?reF_15
        case hyF_15 => (intro W hSw; (try dsimp only at hSw); go_simp; try with_reducible rfl)
        try simp only [Act.put, List.setIfInBounds_toArray, List.set_cons_zero, List.set_cons_succ]
        refine' wpAnyH_take (i := 16) (oi := oGO17) (v := _) rfl (by kernel_rfl) (by kernel_rfl) (by kernel_rfl) (fun _ _ _ h => h) (Or.inl ⟨by rfl, ?hyF_16⟩) (by assumption) ?reF_16
        case hyF_16 => (intro W hSw; (try dsimp only at hSw); go_simp; try with_reducible rfl)
        try simp only [Act.put, List.setIfInBounds_toArray, List.set_cons_zero, List.set_cons_succ]
        refine wpAnyH_done (by kernel_rfl) ?_ _
        refine NoPanic.normal ?_
        go_wp2_with fail
        go_ret
        exact ⟨rfl, HE.out _ BWx4.out⟩
      · go_upto_region 26 with fail
        refine wp_region_noPanic ?_
        refine wp_region_held_drew (S := (fun W => Below wc.heap.size wc W ∧ True)) (by kernel_rfl) (SS0.out _ ⟨rfl, rfl, rfl, Nat.le_refl _, fun _ _ => rfl⟩) (fun hHeld => ?_)
        refine' wpAnyH_take (i := 0) (oi := oGO1) (v := _) rfl (by kernel_rfl) (by kernel_rfl) (by kernel_rfl) (fun _ _ _ h => h) (Or.inl ⟨by rfl, ?hyH_0⟩) (by assumption) ?reH_0
        case hyH_0 => (intro W hSw; (try dsimp only at hSw); go_simp; try with_reducible rfl)
        try simp only [Act.put, List.setIfInBounds_toArray, List.set_cons_zero, List.set_cons_succ]
        refine' wpAnyH_take (i := 3) (oi := oGO2) (v := _) rfl (by kernel_rfl) (by kernel_rfl) (by kernel_rfl) (fun _ _ _ h => h) (Or.inl ⟨by rfl, ?hyH_3⟩) (by assumption) ?reH_3
        case hyH_3 => (intro W hSw; (try dsimp only at hSw); go_simp; try with_reducible rfl)
        try simp only [Act.put, List.setIfInBounds_toArray, List.set_cons_zero, List.set_cons_succ]
        refine wpAnyH_ready (rs := [1]) (by kernel_rfl) (by simp) ?_
        refine AllReadyH.cons (o := oGO3) rfl (fun K hK => ?_) AllReadyH.nil
        go_simp
        go_at_call 13
        refine (CA.out wc.drew ⟨rfl, rfl, rfl, Nat.le_refl _, fun _ _ => rfl⟩).mono ?_
        clear hHeld
        rintro e x1 ⟨v1, rfl, dx1, bx1⟩
        have Xx1 : Hid (Below wc.heap.size wc x1) := ⟨bx1.os, bx1.tape, bx1.output, bx1.size, bx1.block⟩
        have BWx1 : Hid (Below wc.heap.size wc x1) := Xx1.out
        have SSx1 : Hid (∀ W : World, Below x1.heap.size x1 W → (Below x1.heap.size x1 W ∧ (convert 51 9 v1).run Tryz.prog W = .ok (.string ⟨le.toArray⟩) W ∧ True)) := fun W hW => ⟨hW, Pak.conv_bs (dx1.1.below hW (Nat.le_refl _)), (SS0.out W (Xx1.out.trans (hW.mono Xx1.out.size))).2⟩
        refine hK.out _ _ (SS0.out x1 Xx1.out) (fun _ => ?_)
        refine wpAnyH_more2 (S' := fun W => Below x1.heap.size x1 W ∧ (convert 51 9 v1).run Tryz.prog W = .ok (.string ⟨le.toArray⟩) W ∧ True) (fun W hW => SS0.out W (Xx1.out.trans (hW.1.mono Xx1.out.size))) _ _ _ _ ?_
        have hHeld := SSx1.out x1 (Below.refl _ _)
        clear hK K dx1 bx1
        try simp only [Act.put, List.setIfInBounds_toArray, List.set_cons_zero, List.set_cons_succ]
        refine' wpAnyH_take (i := 2) (oi := oGO4) (v := _) rfl (by kernel_rfl) (by kernel_rfl) (by kernel_rfl) (fun _ _ _ h => h) (Or.inl ⟨by rfl, ?hyH_2⟩) (by assumption) ?reH_2
        case hyH_2 => (intro W hSw; (try dsimp only at hSw); go_simp; try with_reducible rfl)
        try simp only [Act.put, List.setIfInBounds_toArray, List.set_cons_zero, List.set_cons_succ]
        refine wpAnyH_ready (rs := [4]) (by kernel_rfl) (by simp) ?_
        refine AllReadyH.cons (o := oGO5) rfl (fun K hK => ?_) AllReadyH.nil
        go_simp
        go_at_call 13
        refine (CX.out x1 BWx1.out).mono ?_
        clear hHeld
        rintro e x2 ⟨v2, rfl, dx2, bx2⟩
        have Xx2 : Hid (Below x1.heap.size x1 x2) := ⟨bx2.os, bx2.tape, bx2.output, bx2.size, bx2.block⟩
        have BWx2 : Hid (Below wc.heap.size wc x2) := BWx1.out.trans (Xx2.out.mono BWx1.out.size)
        have SSx2 : Hid (∀ W : World, Below x2.heap.size x2 W → (Below x2.heap.size x2 W ∧ (convert 51 9 v2).run Tryz.prog W = .ok (.string ⟨le.toArray⟩) W ∧ (convert 51 9 v1).run Tryz.prog W = .ok (.string ⟨le.toArray⟩) W ∧ True)) := fun W hW => ⟨hW, Pak.conv_bs (dx2.1.below hW (Nat.le_refl _)), (SSx1.out W (Xx2.out.trans (hW.mono Xx2.out.size))).2⟩
        refine hK.out _ _ (SSx1.out x2 Xx2.out) (fun _ => ?_)
        refine wpAnyH_more2 (S' := fun W => Below x2.heap.size x2 W ∧ (convert 51 9 v2).run Tryz.prog W = .ok (.string ⟨le.toArray⟩) W ∧ (convert 51 9 v1).run Tryz.prog W = .ok (.string ⟨le.toArray⟩) W ∧ True) (fun W hW => SSx1.out W (Xx2.out.trans (hW.1.mono Xx2.out.size))) _ _ _ _ ?_
        have hHeld := SSx2.out x2 (Below.refl _ _)
        clear hK K dx2 bx2
        try simp only [Act.put, List.setIfInBounds_toArray, List.set_cons_zero, List.set_cons_succ]
        refine' wpAnyH_take (i := 5) (oi := oGO6) (v := _) rfl (by kernel_rfl) (by kernel_rfl) (by kernel_rfl) (fun _ _ _ h => h) (Or.inl ⟨by rfl, ?hyH_5⟩) (by assumption) ?reH_5
        case hyH_5 => (intro W hSw; (try dsimp only at hSw); go_simp; try with_reducible rfl)
        try simp only [Act.put, List.setIfInBounds_toArray, List.set_cons_zero, List.set_cons_succ]
        refine' wpAnyH_take (i := 6) (oi := oGO7) (v := _) rfl (by kernel_rfl) (by kernel_rfl) (by kernel_rfl) (fun _ _ _ h => h) (Or.inl ⟨by rfl, ?hyH_6⟩) (by assumption) ?reH_6
        case hyH_6 => (intro W hSw; (try dsimp only at hSw); go_simp; try with_reducible rfl)
        try simp only [Act.put, List.setIfInBounds_toArray, List.set_cons_zero, List.set_cons_succ]
        refine' wpAnyH_take (i := 7) (oi := oGO8) (v := _) rfl (by kernel_rfl) (by kernel_rfl) (by kernel_rfl) (fun _ _ _ h => h) (Or.inl ⟨by rfl, ?hyH_7⟩) (by assumption) ?reH_7
        case hyH_7 => (intro W hSw; (try dsimp only at hSw); go_simp; try with_reducible rfl)
        try simp only [Act.put, List.setIfInBounds_toArray, List.set_cons_zero, List.set_cons_succ]
        refine' wpAnyH_take (i := 8) (oi := oGO9) (v := _) rfl (by kernel_rfl) (by kernel_rfl) (by kernel_rfl) (fun _ _ _ h => h) (Or.inl ⟨by rfl, ?hyH_8⟩) (by assumption) ?reH_8
        case hyH_8 => (intro W hSw; (try dsimp only at hSw); go_simp; try with_reducible rfl)
        try simp only [Act.put, List.setIfInBounds_toArray, List.set_cons_zero, List.set_cons_succ]
        refine' wpAnyH_take (i := 11) (oi := oGO10) (v := _) rfl (by kernel_rfl) (by kernel_rfl) (by kernel_rfl) (fun _ _ _ h => h) (Or.inl ⟨by rfl, ?hyH_11⟩) (by assumption) ?reH_11
        case hyH_11 => (intro W hSw; (try dsimp only at hSw); go_simp; try with_reducible rfl)
        try simp only [Act.put, List.setIfInBounds_toArray, List.set_cons_zero, List.set_cons_succ]
        refine wpAnyH_ready (rs := [9]) (by kernel_rfl) (by simp) ?_
        refine AllReadyH.cons (o := oGO11) rfl (fun K hK => ?_) AllReadyH.nil
        go_simp
        go_at_call 13
        refine (CA.out x2 BWx2.out).mono ?_
        clear hHeld
        rintro e x3 ⟨v3, rfl, dx3, bx3⟩
        have Xx3 : Hid (Below x2.heap.size x2 x3) := ⟨bx3.os, bx3.tape, bx3.output, bx3.size, bx3.block⟩
        have BWx3 : Hid (Below wc.heap.size wc x3) := BWx2.out.trans (Xx3.out.mono BWx2.out.size)
        have SSx3 : Hid (∀ W : World, Below x3.heap.size x3 W → (Below x3.heap.size x3 W ∧ (convert 51 9 v3).run Tryz.prog W = .ok (.string ⟨le.toArray⟩) W ∧ (convert 51 9 v2).run Tryz.prog W = .ok (.string ⟨le.toArray⟩) W ∧ (convert 51 9 v1).run Tryz.prog W = .ok (.string ⟨le.toArray⟩) W ∧ True)) := fun W hW => ⟨hW, Pak.conv_bs (dx3.1.below hW (Nat.le_refl _)), (SSx2.out W (Xx3.out.trans (hW.mono Xx3.out.size))).2⟩
        refine hK.out _ _ (SSx2.out x3 Xx3.out) (fun _ => ?_)
        refine wpAnyH_more2 (S' := fun W => Below x3.heap.size x3 W ∧ (convert 51 9 v3).run Tryz.prog W = .ok (.string ⟨le.toArray⟩) W ∧ (convert 51 9 v2).run Tryz.prog W = .ok (.string ⟨le.toArray⟩) W ∧ (convert 51 9 v1).run Tryz.prog W = .ok (.string ⟨le.toArray⟩) W ∧ True) (fun W hW => SSx2.out W (Xx3.out.trans (hW.1.mono Xx3.out.size))) _ _ _ _ ?_
        have hHeld := SSx3.out x3 (Below.refl _ _)
        clear hK K dx3 bx3
        try simp only [Act.put, List.setIfInBounds_toArray, List.set_cons_zero, List.set_cons_succ]
        refine' wpAnyH_take (i := 10) (oi := oGO12) (v := _) rfl (by kernel_rfl) (by kernel_rfl) (by kernel_rfl) (fun _ _ _ h => h) (Or.inl ⟨by rfl, ?hyH_10⟩) (by assumption) ?reH_10
        case hyH_10 => (intro W hSw; (try dsimp only at hSw); go_simp; try with_reducible rfl)
        try simp only [Act.put, List.setIfInBounds_toArray, List.set_cons_zero, List.set_cons_succ]
        refine wpAnyH_ready (rs := [12]) (by kernel_rfl) (by simp) ?_
        refine AllReadyH.cons (o := oGO13) rfl (fun K hK => ?_) AllReadyH.nil
        go_simp
        go_at_call 13
        refine (CY.out x3 BWx3.out).mono ?_
        clear hHeld
        rintro e x4 ⟨v4, rfl, dx4, bx4⟩
        have Xx4 : Hid (Below x3.heap.size x3 x4) := ⟨bx4.os, bx4.tape, bx4.output, bx4.size, bx4.block⟩
        have BWx4 : Hid (Below wc.heap.size wc x4) := BWx3.out.trans (Xx4.out.mono BWx3.out.size)
        have SSx4 : Hid (∀ W : World, Below x4.heap.size x4 W → (Below x4.heap.size x4 W ∧ (convert 51 9 v4).run Tryz.prog W = .ok (.string ⟨le.toArray⟩) W ∧ (convert 51 9 v3).run Tryz.prog W = .ok (.string ⟨le.toArray⟩) W ∧ (convert 51 9 v2).run Tryz.prog W = .ok (.string ⟨le.toArray⟩) W ∧ (convert 51 9 v1).run Tryz.prog W = .ok (.string ⟨le.toArray⟩) W ∧ True)) := fun W hW => ⟨hW, Pak.conv_bs (dx4.1.below hW (Nat.le_refl _)), (SSx3.out W (Xx4.out.trans (hW.mono Xx4.out.size))).2⟩
        refine hK.out _ _ (SSx3.out x4 Xx4.out) (fun _ => ?_)
        refine wpAnyH_more2 (S' := fun W => Below x4.heap.size x4 W ∧ (convert 51 9 v4).run Tryz.prog W = .ok (.string ⟨le.toArray⟩) W ∧ (convert 51 9 v3).run Tryz.prog W = .ok (.string ⟨le.toArray⟩) W ∧ (convert 51 9 v2).run Tryz.prog W = .ok (.string ⟨le.toArray⟩) W ∧ (convert 51 9 v1).run Tryz.prog W = .ok (.string ⟨le.toArray⟩) W ∧ True) (fun W hW => SSx3.out W (Xx4.out.trans (hW.1.mono Xx4.out.size))) _ _ _ _ ?_
        have hHeld := SSx4.out x4 (Below.refl _ _)
        clear hK K dx4 bx4
        try simp only [Act.put, List.setIfInBounds_toArray, List.set_cons_zero, List.set_cons_succ]
        refine' wpAnyH_take (i := 13) (oi := oGO14) (v := _) rfl (by kernel_rfl) (by kernel_rfl) (by kernel_rfl) (fun _ _ _ h => h) (Or.inl ⟨by rfl, ?hyH_13⟩) (by assumption) ?reH_13
        case hyH_13 => (intro W hSw; (try dsimp only at hSw); go_simp; try with_reducible rfl)
        try simp only [Act.put, List.setIfInBounds_toArray, List.set_cons_zero, List.set_cons_succ]
        refine' wpAnyH_take (i := 14) (oi := oGO15) (v := _) rfl (by kernel_rfl) (by kernel_rfl) (by kernel_rfl) (fun _ _ _ h => h) (Or.inl ⟨by rfl, ?hyH_14⟩) (by assumption) ?reH_14
        case hyH_14 => (intro W hSw; (try dsimp only at hSw); go_simp; try with_reducible rfl)
        try simp only [Act.put, List.setIfInBounds_toArray, List.set_cons_zero, List.set_cons_succ]
        refine' wpAnyH_take (i := 15) (oi := oGO16) (v := _) rfl (by kernel_rfl) (by kernel_rfl) (by kernel_rfl) (fun _ _ _ h => h) (Or.inl ⟨by rfl, ?hyH_15⟩) (by assumption) ?reH_15
        case hyH_15 => (intro W hSw; (try dsimp only at hSw); go_simp; try with_reducible rfl)
        try simp only [Act.put, List.setIfInBounds_toArray, List.set_cons_zero, List.set_cons_succ]
        refine' wpAnyH_take (i := 16) (oi := oGO17) (v := _) rfl (by kernel_rfl) (by kernel_rfl) (by kernel_rfl) (fun _ _ _ h => h) (Or.inl ⟨by rfl, ?hyH_16⟩) (by assumption) ?reH_16
        case hyH_16 => (intro W hSw; (try dsimp only at hSw); go_simp; try with_reducible rfl)
        try simp only [Act.put, List.setIfInBounds_toArray, List.set_cons_zero, List.set_cons_succ]
        refine wpAnyH_done (by kernel_rfl) ?_ _
        refine NoPanic.normal ?_
        go_wp2_with fail
        go_ret
        exact ⟨rfl, HE.out _ BWx4.out⟩
end Go.Proofs.YtafmiolehlagkaaGreat

/-
  WorldGoesOn, for every input: what came in, opened; the row.
-/
namespace Go.Proofs.YtafmiolehlagkaaGreat.worldGoesOn
open Go.ChangeShapes Go.WideShapes Go.ChangeAt Go.RowKit
set_option maxRecDepth 100000 in
theorem lifted (os : Os) (started : os.Started) (H : Type) (enc : TypeId × Value → H) :
    ReturnsInHanded {} Tryz.checked os 6 .any (Rows.worldGoesOnSpec.pre6 enc Tryz.prog Tryz.f6 Rows.worldGoesOnRow.domain false) (Rows.worldGoesOnSpec.post enc Tryz.prog Tryz.f6 false true false false) := by
  refine returnsInHanded_of_change_sized (C := Tryz.checked) own started (by kernel_rfl) Tryz.func6
    (ChangeSpec.witness6 (enc := enc) (C := Tryz.checked) false ⟨#[], #[.slice none 0 0, .slice none 0 0], []⟩ 6 (by kernel_rfl) (by kernel_rfl) (by kernel_rfl) (by kernel_rfl)) ?_
  intro W base args ds gs before hval0 hW hcnd hsz0 _
  have hval : ∀ (j : Nat) t v, Tryz.f6.params[j]? = some t → args[j]? = some v → Value.okWide Tryz.prog W .any base t v := hval0
  have hW' := hW
  obtain ⟨p, q, hA0, hV, rfl, hfz, hnd⟩ := hW
  have hA : DataW.TrodAll enc Tryz.prog W 0 (fun _ => true) true Tryz.f6.params.toList args.toList ds p := hA0
  rw [Tryz.params6] at hA hval
  obtain ⟨v0, vs0, d0, ds0, p0, q0, hargs, rfl, rfl, h0, r0⟩ := trodAll_cons hA
  obtain ⟨v1, vs1, d1, ds1, p1, q1, rfl, rfl, rfl, h1, r1⟩ := trodAll_cons r0
  obtain ⟨rfl, rfl, rfl⟩ := trodAll_nil r1
  obtain rfl : args = #[v0, v1] := by cases args; simp_all
  obtain ⟨rfl, rfl⟩ := trodVars_none hV
  obtain ⟨a0, len0, cap0, rfl⟩ := okWide_slice Tryz.underlying58 (hval 0 58 v0 rfl rfl)
  obtain ⟨a1, len1, cap1, rfl⟩ := okWide_slice Tryz.underlying58 (hval 1 58 v1 rfl rfl)
  have lt0 : ∀ x ∈ p0, x.block < W.heap.size := by obtain ⟨m, hm⟩ := h0; exact DataW.trod_lt m _ _ _ hm
  have lt1 : ∀ x ∈ p1, x.block < W.heap.size := by obtain ⟨m, hm⟩ := h1; exact DataW.trod_lt m _ _ _ hm
  obtain ⟨l0, hi0, hb0⟩ := deeds_arg h0
  obtain ⟨l1, hi1, hb1⟩ := deeds_arg h1
  clear hA0 hval0
  refine (goes_walk _ _ l0 l1 W hi0 hi1 hb0 hb1).mono fun e W' ⟨he, bel⟩ => ?_
  subst he
  exact ⟨_, rfl, _, _, _, [], _, [], hW', trodAll_mk1 (shut_bool Tryz.underlying4 _), (trodAll_cons_mk (Below.trod laidOut (by kernel_rfl) (of_decide_eq_true (by kernel_rfl)) h0 bel lt0) (trodAll_cons_mk (Below.trod laidOut (by kernel_rfl) (of_decide_eq_true (by kernel_rfl)) h1 bel lt1) trodAll_mk0)), rfl, bel.frame _, fun h => by cases h⟩
theorem over : Rows.worldGoesOnRow.holds Tryz.pinned (OpenSpec.ofChange Rows.worldGoesOnSpec) :=
  OpenClaim.holds_of_wide 6 Tryz.f6 rfl rfl rfl rfl rfl rfl rfl ⟨rfl, rfl, rfl, rfl, rfl⟩ rfl rfl rfl rfl rfl (by kernel_rfl) Tryz.func6 (by kernel_rfl)
    (of_decide_eq_true (by kernel_rfl)) (by unfold Func.isWrapper; first | (rw [if_pos (by decide +kernel)]; kernel_rfl) | (rw [if_neg (by decide +kernel)]; exact ⟨rfl, rfl⟩))
    (fun os started H enc _ => lifted os started H enc)
end Go.Proofs.YtafmiolehlagkaaGreat.worldGoesOn
namespace Go.Proofs.YtafmiolehlagkaaGreat
theorem worldGoesOn_holds : Rows.WorldGoesOnSaid := worldGoesOn.over
#print axioms worldGoesOn_holds
end Go.Proofs.YtafmiolehlagkaaGreat
