import Derived.Test.YtfkhhplcogedmaaGreatDoorVfU
/-
  Verify: waysOf; a program whose routines are told their depths.
-/
namespace Go.Proofs.YtfkhhplcogedmaaGreatDoor
open Go.RowKit
set_option maxRecDepth 100000
theorem undWays : (Tryz.prog.underlying 80).map (fun d => match d with | .struct _ | .array _ _ => true | _ => false) = some true := by kernel_rfl
theorem res_ways {fn : Func} {p : Tmp} (hr : fn.results = #[.cell p 80]) {tmps : Array Value} {W : World} {g : Nat} {x y : Value} (hp : tmps.getD p undef = .pointer (some ⟨g, 0, none⟩)) (hg : W.heap[g]? = some (.cells #[x, y] 80 (0, 0))) : (results fn tmps).run Tryz.prog W = .ok (.agg #[x, y]) W := by
  obtain ⟨d, hu, hd⟩ := Option.map_eq_some_iff.1 undWays
  exact results_cell_row hr tmps W g 80 _ (0, 0) d hp hg hu (by cases d <;> first | rfl | cases hd) (by kernel_rfl)
theorem alloc_ways (w : World) : (Instr.alloc 80 true (.tuple #[])).run Tryz.prog w = .ok (.pointer (some ⟨w.heap.size, 0, none⟩)) (w.alloc (.cells #[.slice none 0 0, .slice none 0 0] 80)) := by kernel_rfl
set_option maxHeartbeats 4000000 in
theorem waysof_any {Q : Nat → Prop} {W : World} {B gv : Nat} {vs vf vk vr : Value} {p : Pg} {ks : List Kind} {L : List Rv} (h : Pm Q W B gv vs vf vk vr p ks L) (x : Rv) (hx : RvOk Q W x) : Calls Tryz.prog 51 #[.pointer (some ⟨gv, 0, none⟩), rvV x] W fun e w' => e = .returned (.agg #[x.vc, vf]) ∧ Below W.heap.size W w' := by
  have JF : Hid (∀ V, Below W.heap.size W V → V.cell? ⟨gv, 1, none⟩ = some vf) := fun V hV => (h.later hV).cells.2.1
  obtain ⟨af, cf, hvf, -, -⟩ := h.fns.at
  subst hvf
  generalize p.fns.length = nf at *
  have hgvW : gv < W.heap.size := lt_of_block h.blk
  clear h
  obtain ⟨ro, vc, vr', vw, vd⟩ := x
  obtain ⟨rt, pl, sy, re, wrt⟩ := ro
  obtain ⟨nm, pa, lo, code⟩ := rt
  dsimp only [rvV] at hx ⊢
  have hco : Il Q W vc code := hx.co
  have hre : Nl Q W vr' re := hx.re
  have hwr : Nl Q W vw wrt := hx.wr
  have hvd0 : ∃ a n c, vd = .slice a n c := hx.vd
  clear hx
  obtain ⟨ao, co, rfl, -, -⟩ := hco.at
  obtain ⟨ar, cr, rfl, -, -⟩ := hre.at
  obtain ⟨aw, cw, rfl, -, -⟩ := hwr.at
  obtain ⟨ad, nd, cd, rfl⟩ := hvd0
  clear hco hre hwr
  generalize code.length = nc at *
  obtain ⟨W1, hW1⟩ : ∃ X, X = W.alloc (.cells #[.string nm, .int .i64 pa, .int .i64 lo, .slice ao nc co, .int .i64 (pl : Int), .bool sy, .slice ar re.length cr, .slice aw wrt.length cw, .slice ad nd cd] 109) := ⟨_, rfl⟩
  have b1 : Below W.heap.size W W1 := hW1 ▸ below_alloc W _
  obtain ⟨gb, hgb⟩ : ∃ y, y = W.heap.size := ⟨_, rfl⟩
  have kb : W1.heap[gb]? = some (.cells #[.string nm, .int .i64 pa, .int .i64 lo, .slice ao nc co, .int .i64 (pl : Int), .bool sy, .slice ar re.length cr, .slice aw wrt.length cw, .slice ad nd cd] 109 (0, 0)) := by rw [hW1, hgb]; exact heap_alloc_new W _
  obtain ⟨W2, hW2⟩ : ∃ X, X = W1.alloc (.cells #[.slice none 0 0, .slice none 0 0] 80) := ⟨_, rfl⟩
  have b2 : Below W1.heap.size W1 W2 := hW2 ▸ below_alloc W1 _
  obtain ⟨gw, hgw⟩ : ∃ y, y = W1.heap.size := ⟨_, rfl⟩
  have kw : W2.heap[gw]? = some (.cells #[.slice none 0 0, .slice none 0 0] 80 (0, 0)) := by rw [hW2, hgw]; exact heap_alloc_new W1 _
  have sgb : W.heap.size + 1 = gw := by rw [hgw, hW1]; simp
  have x3 : W2.cell? ⟨gb, 3, none⟩ = some (.slice ao nc co) := (row9 ((b2.block gb (lt_of_block kb)).trans kb)).2.2.2.1
  have B2 := hide (below_on b1 b2)
  have c1 := JF.out W2 B2.out
  go_enter Tryz.func51, Tryz.ntmps51
  have hal := alloc_ways
  go_upto_region 1 with fail
  rename_i K1 hK1 K hK
  unfold Oper.wp execOp
  simp only [Sem.run_bind, hal, Result.andThen_ok, Sem.run_pure, Oper.upon]
  refine hK _ _ ?_
  clear hK K
  go_upto_region 1 with fail
  go_frame
  rw [← hW1, ← hW2, ← hgw, ← hgb]
  have hgwW : W.heap.size ≤ gw := by omega
  have hgbw : gb ≠ gw := by omega
  clear hW1 hgb hW2 hgw b1 b2 sgb kb
  have S0 : (W2.drew.cell? ⟨gb, 3, none⟩ = some (.slice ao nc co) ∧ W2.drew.cell? ⟨gv, 1, none⟩ = some (.slice af nf cf)) := ⟨x3, c1⟩
  have zf : ∀ q, W2.frozen? ⟨gw, q, none⟩ = false := fun q => frozen_of_row W2 gw q _ 80 kw
  have y0 : W2.cell? ⟨gw, 0, none⟩ = some (.slice none 0 0) := by rw [cell_of_row W2 _ _ _ 80 (0, 0) kw]; rfl
  have y1 : W2.cell? ⟨gw, 1, none⟩ = some (.slice none 0 0) := by rw [cell_of_row W2 _ _ _ 80 (0, 0) kw]; rfl
  obtain ⟨W3, hW3⟩ : ∃ X, X = ((W2.setCell ⟨gw, 0, none⟩ (.slice ao nc co)).setCell ⟨gw, 1, none⟩ (.slice af nf cf)).drew := ⟨_, rfl⟩
  have hm3 : Mv W2 W3 (fun k => k = gw) := by
    rw [hW3]
    have := ((Mv.refl W2 (fun k => k = gw)).set (g := gw) rfl 0 (.slice ao nc co)).set (g := gw) rfl 1 (.slice af nf cf)
    exact this.later (below_drew _)
  have SZ : W3.cell? ⟨gb, 3, none⟩ = some (.slice ao nc co) ∧ W3.cell? ⟨gv, 1, none⟩ = some (.slice af nf cf) := ⟨hm3.cell x3 hgbw, hm3.cell c1 (by show ¬ gv = gw; omega)⟩
  have k3 : W3.heap[gw]? = some (.cells #[.slice ao nc co, .slice af nf cf] 80 (0, 0)) := by
    rw [hW3]
    show ((W2.setCell ⟨gw, 0, none⟩ (.slice ao nc co)).setCell ⟨gw, 1, none⟩ (.slice af nf cf)).heap[gw]? = _
    have h1 := heap_setCell_same W2 gw 0 _ 80 (.slice ao nc co) kw
    have h2 := heap_setCell_same (W2.setCell ⟨gw, 0, none⟩ (.slice ao nc co)) gw 1 _ 80 (.slice af nf cf) h1
    exact h2
  have B3 : Hid (Below W.heap.size W W3) := by
    have := hm3.below (B := W.heap.size) B2.out.size (fun k e => by omega)
    exact B2.out.trans this
  have SZ' := hW3 ▸ SZ
  refine wp_region_noPanic ?_
  refine wp_region_held_drew (S := (fun V => V.cell? ⟨gb, 3, none⟩ = some (.slice ao nc co) ∧ V.cell? ⟨gv, 1, none⟩ = some (.slice af nf cf))) (by kernel_rfl) (S0) (fun hHeld => ?_)
  refine' wpAnyH_take (i := 0) (oi := { dst := some 5, op := Go.Op.fieldAddr 109 (Go.Operand.tmp 3) 0, type := 0, pos := "verify.go:84", after := #[], guard := none }) (v := _) rfl (by kernel_rfl) (by kernel_rfl) (by kernel_rfl) (fun _ _ _ h => h) (Or.inl ⟨by rfl, ?hyr1_0⟩) (by assumption) ?rer1_0
  case hyr1_0 => (intro W hSw; (try dsimp only at hSw); go_simp; try with_reducible rfl)
  try simp only [Act.put, List.setIfInBounds_toArray, List.set_cons_zero, List.set_cons_succ]
  refine' wpAnyH_take (i := 1) (oi := { dst := some 6, op := Go.Op.fieldAddr 35 (Go.Operand.tmp 5) 3, type := 0, pos := "verify.go:84", after := #[{ on := 0, ground := Go.Ground.data }], guard := none }) (v := _) rfl (by kernel_rfl) (by kernel_rfl) (by kernel_rfl) (fun _ _ _ h => h) (Or.inl ⟨by rfl, ?hyr1_1⟩) (by assumption) ?rer1_1
  case hyr1_1 => (intro W hSw; (try dsimp only at hSw); go_simp; try with_reducible rfl)
  try simp only [Act.put, List.setIfInBounds_toArray, List.set_cons_zero, List.set_cons_succ]
  refine' wpAnyH_take (i := 2) (oi := { dst := some 7, op := Go.Op.load 33 (Go.Operand.tmp 6), type := 33, pos := "verify.go:84", after := #[{ on := 1, ground := Go.Ground.data }], guard := none }) (v := _) rfl (by kernel_rfl) (by kernel_rfl) (by kernel_rfl) (fun _ _ _ h => h) (Or.inl ⟨by rfl, ?hyr1_2⟩) (by assumption) ?rer1_2
  case hyr1_2 => (intro W hSw; (try dsimp only at hSw); go_simp; try with_reducible rfl)
  try simp only [Act.put, List.setIfInBounds_toArray, List.set_cons_zero, List.set_cons_succ]
  refine' wpAnyH_take (i := 3) (oi := { dst := some 8, op := Go.Op.move (Go.Operand.tmp 0), type := 71, pos := "verify.go:84", after := #[], guard := none }) (v := _) rfl (by kernel_rfl) (by kernel_rfl) (by kernel_rfl) (fun _ _ _ h => h) (Or.inl ⟨by rfl, ?hyr1_3⟩) (by assumption) ?rer1_3
  case hyr1_3 => (intro W hSw; (try dsimp only at hSw); go_simp; try with_reducible rfl)
  try simp only [Act.put, List.setIfInBounds_toArray, List.set_cons_zero, List.set_cons_succ]
  refine' wpAnyH_take (i := 4) (oi := { dst := some 9, op := Go.Op.nilCheck (Go.Operand.tmp 8), type := 0, pos := "verify.go:84", after := #[{ on := 3, ground := Go.Ground.data }], guard := none }) (v := _) rfl (by kernel_rfl) (by kernel_rfl) (by kernel_rfl) (fun _ _ _ h => h) (Or.inl ⟨by rfl, ?hyr1_4⟩) (by assumption) ?rer1_4
  case hyr1_4 => (intro W hSw; (try dsimp only at hSw); go_simp; try with_reducible rfl)
  try simp only [Act.put, List.setIfInBounds_toArray, List.set_cons_zero, List.set_cons_succ]
  refine' wpAnyH_take (i := 5) (oi := { dst := some 10, op := Go.Op.fieldAddr 75 (Go.Operand.tmp 9) 0, type := 0, pos := "verify.go:84", after := #[{ on := 4, ground := Go.Ground.data }], guard := none }) (v := _) rfl (by kernel_rfl) (by kernel_rfl) (by kernel_rfl) (fun _ _ _ h => h) (Or.inl ⟨by rfl, ?hyr1_5⟩) (by assumption) ?rer1_5
  case hyr1_5 => (intro W hSw; (try dsimp only at hSw); go_simp; try with_reducible rfl)
  try simp only [Act.put, List.setIfInBounds_toArray, List.set_cons_zero, List.set_cons_succ]
  refine' wpAnyH_take (i := 6) (oi := { dst := some 11, op := Go.Op.fieldAddr 25 (Go.Operand.tmp 10) 1, type := 0, pos := "verify.go:84", after := #[{ on := 5, ground := Go.Ground.data }], guard := none }) (v := _) rfl (by kernel_rfl) (by kernel_rfl) (by kernel_rfl) (fun _ _ _ h => h) (Or.inl ⟨by rfl, ?hyr1_6⟩) (by assumption) ?rer1_6
  case hyr1_6 => (intro W hSw; (try dsimp only at hSw); go_simp; try with_reducible rfl)
  try simp only [Act.put, List.setIfInBounds_toArray, List.set_cons_zero, List.set_cons_succ]
  refine' wpAnyH_take (i := 7) (oi := { dst := some 12, op := Go.Op.load 23 (Go.Operand.tmp 11), type := 23, pos := "verify.go:84", after := #[{ on := 6, ground := Go.Ground.data }], guard := none }) (v := _) rfl (by kernel_rfl) (by kernel_rfl) (by kernel_rfl) (fun _ _ _ h => h) (Or.inl ⟨by rfl, ?hyr1_7⟩) (by assumption) ?rer1_7
  case hyr1_7 => (intro W hSw; (try dsimp only at hSw); go_simp; try with_reducible rfl)
  try simp only [Act.put, List.setIfInBounds_toArray, List.set_cons_zero, List.set_cons_succ]
  refine' wpAnyH_take (i := 8) (oi := { dst := some 13, op := Go.Op.build 80 #[(0, Go.Operand.tmp 7), (1, Go.Operand.tmp 12)], type := 80, pos := "verify.go:84", after := #[{ on := 2, ground := Go.Ground.data }, { on := 7, ground := Go.Ground.data }], guard := none }) (v := _) rfl (by kernel_rfl) (by kernel_rfl) (by kernel_rfl) (fun _ _ _ h => h) (Or.inl ⟨by rfl, ?hyr1_8⟩) (by assumption) ?rer1_8
  case hyr1_8 => (intro W hSw; (try dsimp only at hSw); go_simp; try with_reducible rfl)
  try simp only [Act.put, List.setIfInBounds_toArray, List.set_cons_zero, List.set_cons_succ]
  refine wpAnyH_ready (rs := [9]) (by kernel_rfl) (by simp) ?_
  refine AllReadyH.cons (o := { dst := none, op := Go.Op.store 80 (Go.Operand.tmp 4) (Go.Operand.tmp 13), type := 0, pos := "verify.go:84", after := #[{ on := 8, ground := Go.Ground.data }, { on := 0, ground := Go.Ground.phase }, { on := 1, ground := Go.Ground.phase }, { on := 2, ground := Go.Ground.phase }, { on := 3, ground := Go.Ground.phase }, { on := 4, ground := Go.Ground.phase }, { on := 5, ground := Go.Ground.phase }, { on := 6, ground := Go.Ground.phase }, { on := 7, ground := Go.Ground.phase }, { on := 8, ground := Go.Ground.phase }], guard := none }) rfl (fun K hK => ?_) AllReadyH.nil
  clear hHeld
  go_simp
  refine hK.out _ _ (SZ') (fun hHeld => ?_)
  clear hK K
  try simp only [Act.put, List.setIfInBounds_toArray, List.set_cons_zero, List.set_cons_succ]
  rw [← hW3]
  refine wpAnyH_done (by kernel_rfl) ?_ _
  clear SZ SZ' S0 zf y0 y1 x3 c1 hal hm3 hW3
  refine NoPanic.normal ?_
  go_wp2_with fail
  exact bodyPost_ret (res_ways rfl rfl k3) rfl ⟨rfl, B3.out⟩
end Go.Proofs.YtfkhhplcogedmaaGreatDoor

/-
  Verify: askDepths.
-/
namespace Go.Proofs.YtfkhhplcogedmaaGreatDoor
open Go.RowKit
set_option maxRecDepth 100000
/-- A program that is asked; what is read lay there ahead of its routines. -/
structure Pb (Q : Nat → Prop) (w0 W : World) (gv : Nat) (vs vf vk vr : Value) (p : Pg) (ks : List Kind) (L : List Rv) : Prop where
  blk : W.heap[gv]? = some (.cells #[vs, vf, vk, vr] 75 (0, 0))
  gvb : w0.heap.size ≤ gv
  sys : Sys Q w0 vs p.sys
  fns : Rts Q w0 vf p.fns
  kin : Kr w0 vk ks
  own : W.ownsRow w0.heap.size 109 9 vr L.length (rvs L)
  ros : L.map Rv.ro = rosOf p
  ok : ∀ x ∈ L, RvOk Q w0 x
  tb : Tb w0
  below : Below w0.heap.size w0 W
section
variable {Q : Nat → Prop} {w0 W W' : World} {gv : Nat} {vs vf vk vr : Value} {p : Pg} {ks : List Kind} {L : List Rv}
theorem Pb.pm (h : Pb Q w0 W gv vs vf vk vr p ks L) : Pm Q W w0.heap.size gv vs vf vk vr p ks L :=
  ⟨h.blk, h.sys.later h.below, h.fns.later h.below, h.kin.later h.below, h.own, h.ros, fun x hx => (h.ok x hx).later h.below, h.tb.later h.below⟩
theorem Pb.later (h : Pb Q w0 W gv vs vf vk vr p ks L) (hb : Below W.heap.size W W') : Pb Q w0 W' gv vs vf vk vr p ks L :=
  ⟨(hb.block gv (lt_of_block h.blk)).trans h.blk, h.gvb, h.sys, h.fns, h.kin, own_later h.own hb, h.ros, h.ok, h.tb, below_on h.below hb⟩
end
def rvD (x : Rv) (v : Value) : Rv := ⟨x.ro, x.vc, x.vr, x.vw, v⟩
theorem rvs_set : ∀ (L : List Rv) (i : Nat) (v : Value) (h : i < L.length), (rvs L).set (i * 9 + 8) v = rvs (L.set i (rvD L[i] v))
  | x :: t, 0, v, h => by simp [rvs, rvC, rvD]
  | x :: t, i + 1, v, h => by
    have e : (i + 1) * 9 + 8 = (rvC x).length + (i * 9 + 8) := by
      have : (rvC x).length = 9 := rfl
      omega
    simp only [rvs, List.set_cons_succ, List.getElem_cons_succ]
    rw [e, List.set_append_right _ _ (by omega), Nat.add_sub_cancel_left, rvs_set t i v (by simpa using h)]
/-- A routine's depths are right. -/
def RD (fs : List Rt) (c : List Ins) : Prop := c ≠ [] ∧ Dpo 150 151 153 fs c none
/-- What askDepths answers. -/
def DaO (fs : List Rt) (l : List Ro) (o : Option (Int × Int)) : Prop :=
  (o = none ∧ ∀ n (h : n < l.length), RD fs l[n].rt.code) ∨ ∃ n, ∃ h : n < l.length, (∀ j (hj : j < n), RD fs (l[j]'(by omega)).rt.code) ∧ ((l[n].rt.code = [] ∧ o = some ((l[n].pl : Int), 153)) ∨ ∃ a, l[n].rt.code ≠ [] ∧ Dpo 150 151 153 fs l[n].rt.code (some a) ∧ o = some ((l[n].pl : Int) + (a : Int), wrR 150 151 153 fs l[n].rt.code a))
noncomputable def dpsV (fs : List Rt) (c : List Ins) : List Value := (List.range c.length).map fun p => Value.int .i64 (dpR fs c p)
/-- The depths that are kept so far. -/
def Dk (fs : List Rt) (w0 W : World) (L : List Rv) (i : Nat) : Prop := ∀ j (h : j < L.length), j < i → RD fs L[j].ro.rt.code ∧ W.ownsRow w0.heap.size 3 1 L[j].vd L[j].ro.rt.code.length (dpsV fs L[j].ro.rt.code)
theorem Dk.later {fs : List Rt} {w0 W W' : World} {L : List Rv} {i : Nat} (h : Dk fs w0 W L i) (hb : Below W.heap.size W W') : Dk fs w0 W' L i := fun j hj hi => ⟨(h j hj hi).1, own_later (h j hj hi).2 hb⟩
set_option maxHeartbeats 8000000 in
theorem askdepths_any {Q : Nat → Prop} {w0 W : World} {gv : Nat} {vs vf vk vr : Value} {p : Pg} {ks : List Kind} {L0 : List Rv} (h : Pb Q w0 W gv vs vf vk vr p ks L0) (hk : ∀ r ∈ rosOf p, r.pl + r.rt.code.length ≤ 2000) : Calls Tryz.prog 26 #[.pointer (some ⟨gv, 0, none⟩)] W fun e w' => ∃ v o, e = .returned v ∧ DaO p.fns (rosOf p) o ∧ FltN w0.heap.size w' v o ∧ Below w0.heap.size w0 w' ∧ Mv W w' (fun k => vr.ownBlock = some k) ∧ (o = none → ∃ L, Pb Q w0 w' gv vs vf vk vr p ks L ∧ Dk p.fns w0 w' L L.length) := by
  obtain ⟨af, cf, hvf, -, -⟩ := h.fns.at
  subst hvf
  have HK := hide hk
  have HP0 := hide h
  have JF : Hid (∀ a e W, Calls Tryz.prog 20 #[.int .i64 a, .int .i64 e] W fun en w' => ∃ v, en = .returned v ∧ FltN W.heap.size w' v (some (a, e)) ∧ Below W.heap.size W w') := faultN_any
  obtain ⟨c0, c1, c2, c3⟩ := h.pm.cells
  have hown := h.own
  obtain ⟨nL, hnL⟩ : ∃ n, n = L0.length := ⟨_, rfl⟩
  rw [← hnL] at hown
  obtain ⟨ra, rc, hvr⟩ := own_len hown
  obtain ⟨rc1, rc2⟩ := own_cap (hvr ▸ hown)
  subst hvr
  have HNL : Hid (nL = L0.length ∧ nL = (rosOf p).length) := ⟨hnL, by rw [hnL, h.pm.len, rosOf_len]⟩
  clear h hk hown hnL
  go_enter Tryz.func26, Tryz.ntmps26
  go_wp2_with fail
  clear c0 c1 c2 c3
  go_loopw [13] (fun v13 V => ∃ i : Nat, i ≤ nL ∧ v13 = .int .i64 (i : Int) ∧ Hid (∃ L, L.length = nL ∧ Pb Q w0 V gv vs (.slice af p.fns.length cf) vk (.slice ra nL rc) p ks L ∧ Dk p.fns w0 V L i) ∧ Hid (Mv W V (fun k => Value.ownBlock (.slice ra nL rc) = some k))) (fun v13 _ => nL - (intOf v13).toNat)
  case atStart => exact ⟨0, Nat.zero_le _, rfl, ⟨L0, HNL.out.1.symm, HP0.out, fun j _ hi => absurd hi (by omega)⟩, Mv.refl _ _⟩
  case round =>
    obtain ⟨i, hi, rfl, HR, HMV⟩ := hrel
    clear HP0
    by_cases hlt : i < nL
    · have t1 : (i : Int) < (nL : Int) := by omega
      obtain ⟨L, hL, hp, hd⟩ := HR.out
      have hiL : i < L.length := by omega
      have hiR : i < (rosOf p).length := by have := HNL.out.2; omega
      obtain ⟨g, c, e, -, -, y0, y1, y2, y3, y4, y5, y6, y7, y8⟩ := hp.pm.row hiL
      have hra : ra = some ⟨g, 0, none⟩ := by
        simp only [Value.slice.injEq] at e
        exact e.1
      subst hra
      have hat := hp.pm.at hiL
      have hok := hp.ok L[i] (List.getElem_mem hiL)
      have hkr := HK.out (rosOf p)[i] (List.getElem_mem hiR)
      rw [← hat] at hkr
      have HAT : Hid ((rosOf p)[i] = L[i].ro) := hat.symm
      have HP := hide hp
      have HD := hide hd
      have HL := hide hL
      have JW : Hid (∀ V, Below wr.heap.size wr V → Calls Tryz.prog 51 #[.pointer (some ⟨gv, 0, none⟩), rvV L[i]] V fun e w' => e = .returned (.agg #[L[i].vc, .slice af p.fns.length cf]) ∧ Below V.heap.size V w') := fun V hV => waysof_any (HP.out.later hV).pm L[i] (hok.later (HP.out.later hV).below)
      have JD : Hid (∀ V, Below wr.heap.size wr V → Calls Tryz.prog 28 #[.agg #[L[i].vc, .slice af p.fns.length cf]] V fun e w' => DpOut V.heap.size p.fns L[i].ro.rt.code w' e ∧ Below V.heap.size V w') := fun V hV => depths_any (hok.co.later (HP.out.later hV).below) (HP.out.later hV).pm.fns (HP.out.later hV).pm.tb (by omega)
      obtain ⟨ac, cc, hvc, hc1, hc2⟩ := hok.co.at
      obtain ⟨ar, cr, hvr, -, -⟩ := hok.re.at
      obtain ⟨aw, cw, hvw, -, -⟩ := hok.wr.at
      obtain ⟨ad, nd, cd, hvd⟩ := hok.vd
      have HX : Hid (L[i].ro.rt.code.length = L[i].ro.rt.code.length) := rfl
      obtain ⟨x, hx⟩ : ∃ x, x = L[i] := ⟨_, rfl⟩
      have HXI := hide hx
      rw [← hx] at y0 y1 y2 y3 y4 y5 y6 y7 y8 HAT JW JD hkr hvc hvr hvw hvd hc1
      clear e hok hat hL hp hd hx HX HR
      obtain ⟨ro, vc, vr', vw, vd⟩ := x
      obtain ⟨rt, pl, sy, re, wrt⟩ := ro
      obtain ⟨nm, pa, lo, code⟩ := rt
      dsimp only [rvV] at y0 y1 y2 y3 y4 y5 y6 y7 y8 HAT JW JD hkr hvc hvr hvw hvd hc1
      subst hvc hvr hvw hvd
      obtain ⟨nc, hnc⟩ : ∃ y, y = code.length := ⟨_, rfl⟩
      have HNC := hide hnc
      rw [← hnc] at y3 JW JD hc1 hkr
      clear hnc
      go_upto_region 4 with fail
      obtain ⟨g4, hg4⟩ : ∃ x, x = wr.heap.size := ⟨_, rfl⟩
      obtain ⟨W1, hW1⟩ : ∃ X, X = wr.alloc (.cells #[.string nm, .int .i64 pa, .int .i64 lo, .slice ac nc cc, .int .i64 (pl : Int), .bool sy, .slice ar re.length cr, .slice aw wrt.length cw, .slice ad nd cd] 109) := ⟨_, rfl⟩
      have b1 : Below wr.heap.size wr W1 := hW1 ▸ below_alloc wr _
      have k4 : W1.heap[g4]? = some (.cells #[.string nm, .int .i64 pa, .int .i64 lo, .slice ac nc cc, .int .i64 (pl : Int), .bool sy, .slice ar re.length cr, .slice aw wrt.length cw, .slice ad nd cd] 109 (0, 0)) := by rw [hW1, hg4]; exact heap_alloc_new wr _
      have BW1 := hide b1
      have K4 : Hid (∀ V, Below W1.heap.size W1 V → V.cell? ⟨g4, 4, none⟩ = some (.int .i64 (pl : Int))) := fun V hV => (row9 ((hV.block g4 (lt_of_block k4)).trans k4)).2.2.2.2.1
      rw [← hW1, ← hg4]
      obtain ⟨x0, x1, x2, x3, x4, x5, x6, x7, x8⟩ := row9 k4
      clear hW1 hg4 b1 k4 y0 y1 y2 y3 y4 y5 y6 y7 y8
      have J1 := hide (JW.out W1 BW1.out)
      go_wp2_with fail
      refine J1.out.mono ?_
      rintro e w2 ⟨rfl, b2⟩
      have B2 := hide (below_on BW1.out b2)
      have B12 := hide b2
      have J2 := hide (JD.out w2 B2.out)
      clear x0 x1 x2 x3 x4 x5 x6 x7 x8 J1 b2 JW JD
      go_wp2_with fail
      refine J2.out.mono ?_
      rintro e w3 ⟨ho, b3⟩
      have B3 := hide (below_on B2.out b3)
      have B13 := hide (below_on B12.out b3)
      have hsz3 : w0.heap.size ≤ w2.heap.size := by have := HP.out.below.size; have := B2.out.size; omega
      clear J2 b3
      rcases ho with ⟨k1, rfl⟩ | ⟨k1, a, k2, rfl⟩ | ⟨k1, k2, v, rfl, k3⟩
      · have HO : Hid (DaO p.fns (rosOf p) (some ((pl : Int), 153))) := by
          refine .inr ⟨i, hiR, fun j hj => ?_, .inl ⟨by rw [HAT.out]; exact k1, by rw [HAT.out]⟩⟩
          have h1 := (HD.out j (by omega) hj).1
          rw [HP.out.pm.at (by omega)] at h1
          exact h1
        have x4 := K4.out w3 B13.out
        have BF := hide (below_on HP.out.below B3.out)
        have MF := hide (HMV.out.later B3.out)
        clear k1
        go_wp2_with fail
        refine (JF.out _ _ _).mono ?_
        rintro e w5 ⟨v5, rfl, f5, b5⟩
        have F5 := hide (f5.mono BF.out.size)
        have B5 := hide (below_on BF.out b5)
        have M5 := hide (MF.out.later b5)
        clear f5 b5 x4
        go_wp2_with fail
        go_ret
        first | exact ⟨_, _, rfl, HO.out, F5.out, B5.out, M5.out, fun e => (by cases e)⟩ | exact ⟨_, rfl, _, HO.out, F5.out, B5.out, M5.out, fun e => (by cases e)⟩
      · have hwn : wrR 150 151 153 p.fns code a ≠ 0 := k2.2.1.2
        have hac : a < code.length := k2.1
        have HO : Hid (DaO p.fns (rosOf p) (some ((pl : Int) + (a : Int), wrR 150 151 153 p.fns code a))) := by
          refine .inr ⟨i, hiR, fun j hj => ?_, .inr ⟨a, by rw [HAT.out]; exact k1, by rw [HAT.out]; exact k2, by rw [HAT.out]⟩⟩
          have h1 := (HD.out j (by omega) hj).1
          rw [HP.out.pm.at (by omega)] at h1
          exact h1
        have x4 := K4.out w3 B13.out
        have BF := hide (below_on HP.out.below B3.out)
        have MF := hide (HMV.out.later B3.out)
        obtain ⟨wv, hwv⟩ : ∃ x, x = wrR 150 151 153 p.fns code a := ⟨_, rfl⟩
        rw [← hwv] at hwn HO ⊢
        have f1 : (wv != 0) = true := by simp [hwn]
        have tpa : (pl : Int) + (a : Int) ≤ 2000 := by have := HNC.out; omega
        clear k1 k2 hwv hwn
        go_wp2_with fail
        refine (JF.out _ _ _).mono ?_
        rintro e w5 ⟨v5, rfl, f5, b5⟩
        have F5 := hide (f5.mono BF.out.size)
        have B5 := hide (below_on BF.out b5)
        have M5 := hide (MF.out.later b5)
        clear f5 b5 x4
        go_wp2_with fail
        go_ret
        first | exact ⟨_, _, rfl, HO.out, F5.out, B5.out, M5.out, fun e => (by cases e)⟩ | exact ⟨_, rfl, _, HO.out, F5.out, B5.out, M5.out, fun e => (by cases e)⟩
      · have hp3 := HP.out.later B3.out
        have hd3 := HD.out.later B3.out
        have hk3 : w3.ownsRow w0.heap.size 3 1 v code.length (dpsV p.fns code) := own_lower k3 hsz3
        have hrd : RD p.fns code := ⟨k1, k2⟩
        obtain ⟨av, cv, rfl⟩ := own_len k3
        obtain ⟨g', c', e', -, -, y0, y1, y2, y3, y4, y5, y6, y7, y8⟩ := hp3.pm.row hiL
        simp only [Value.slice.injEq, Option.some.injEq, Addr.mk.injEq, and_true] at e'
        obtain ⟨rfl, -⟩ := e'
        have ho3 := hp3.own
        rw [HL.out] at ho3
        have hfr := ho3.frozenAt (i * 9 + 8)
        obtain ⟨-, -, -, c3⟩ := hp3.pm.cells
        have RN : Hid (∃ L', L'.length = nL ∧ Pb Q w0 (w3.setCell ⟨g, i * 9 + 8, none⟩ (.slice av code.length cv)) gv vs (.slice af p.fns.length cf) vk (.slice (some ⟨g, 0, none⟩) nL rc) p ks L' ∧ Dk p.fns w0 (w3.setCell ⟨g, i * 9 + 8, none⟩ (.slice av code.length cv)) L' (i + 1)) := by
          have hg := grown_set w3 g (i * 9 + 8) (.slice av code.length cv)
          have hgw : w0.heap.size ≤ g := (hp3.own.lt g rfl).1
          have hgg : g ≠ gv := fun e => by
            obtain ⟨cur, hc⟩ := own_blk2 hp3.own (g := g) rfl
            have := hp3.blk
            rw [← e, hc] at this
            simp at this
          have key : ∀ {u : Value} {k : Nat} {xs : List Value}, w3.ownsRow w0.heap.size 3 1 u k xs → (w3.setCell ⟨g, i * 9 + 8, none⟩ (.slice av code.length cv)).ownsRow w0.heap.size 3 1 u k xs := fun hu => own_set hu (fun e => own_ap2 hp3.own hu (by decide) g rfl e)
          refine ⟨L.set i (rvD L[i] (.slice av code.length cv)), by rw [List.length_set]; exact HL.out, ⟨?_, hp3.gvb, hp3.sys, hp3.fns, hp3.kin, ?_, ?_, fun y hy => ?_, hp3.tb, ?_⟩, fun j hj hji => ?_⟩
          · exact (heap_setCell_other w3 ⟨g, i * 9 + 8, none⟩ gv _ (fun e => hgg e.symm)).trans hp3.blk
          · have := (ho3.stored (i * 9 + 8) (.slice av code.length cv)).1
            rw [rvs_set L i _ hiL] at this
            rw [List.length_set, HL.out]
            exact this
          · rw [← hp3.ros]
            apply List.ext_getElem
            · simp
            · intro q h1 h2
              simp only [List.getElem_map, List.getElem_set]
              by_cases e : i = q
              · subst e
                simp [rvD]
              · simp [e]
          · rcases List.mem_or_eq_of_mem_set hy with hy | rfl
            · exact hp3.ok y hy
            · have := hp3.ok L[i] (List.getElem_mem hiL)
              exact ⟨this.co, this.re, this.wr, this.pa, this.lo, _, _, _, rfl⟩
          · exact hp3.below.grown hg hp3.below.size (fun k e => by simp at e; omega)
          · rw [List.length_set] at hj
            by_cases e : i = j
            · subst e
              simp only [List.getElem_set_self]
              have e2 : L[i].ro.rt.code = code := by rw [← HXI.out]
              refine ⟨by show RD p.fns L[i].ro.rt.code; rw [e2]; exact hrd, ?_⟩
              show (w3.setCell _ _).ownsRow _ _ _ (Value.slice av code.length cv) L[i].ro.rt.code.length (dpsV p.fns L[i].ro.rt.code)
              rw [e2]
              exact key hk3
            · simp only [List.getElem_set_ne e]
              obtain ⟨h1, h2⟩ := hd3 j hj (by omega)
              exact ⟨h1, key h2⟩
        have MN : Hid (Mv W (w3.setCell ⟨g, i * 9 + 8, none⟩ (.slice av code.length cv)) (fun k => Value.ownBlock (.slice (some ⟨g, 0, none⟩) nL rc) = some k)) := (HMV.out.later B3.out).set (g := g) rfl _ _
        clear k1 k2 k3 hp3 hd3 hk3 hrd ho3 y0 y1 y2 y3 y4 y5 y6 y7 HD HP
        go_wp2_with fail
        go_roundw
        case rel => exact ⟨i + 1, by omega, rfl, RN, MN⟩
        case measure => simp only [intOf]; omega
    · have t1 : ¬ (i : Int) < (nL : Int) := by omega
      have HF : Hid (DaO p.fns (rosOf p) none ∧ Below w0.heap.size w0 wr ∧ ∃ L, Pb Q w0 wr gv vs (.slice af p.fns.length cf) vk (.slice ra nL rc) p ks L ∧ Dk p.fns w0 wr L L.length) := by
        obtain ⟨L, hL, hp, hd⟩ := HR.out
        have hin : i = L.length := by omega
        refine ⟨.inl ⟨rfl, fun n hn => ?_⟩, hp.below, L, hp, hin ▸ hd⟩
        have hnl : n < L.length := by have := HNL.out.2; omega
        have h1 := (hd n hnl (by omega)).1
        rw [hp.pm.at hnl] at h1
        exact h1
      clear HR
      go_wp2_with fail
      go_ret
      first | exact ⟨_, _, rfl, HF.out.1, FltN.none, HF.out.2.1, HMV.out, fun _ => HF.out.2.2⟩ | exact ⟨_, rfl, _, HF.out.1, FltN.none, HF.out.2.1, HMV.out, fun _ => HF.out.2.2⟩
end Go.Proofs.YtfkhhplcogedmaaGreatDoor
