/-
  World: an entity's row is taken away.
-/
import Derived.Test.YtfbhoemfabgjpaaGreatMgAE
namespace Go.Proofs.YtfbhoemfabgjpaaGreat
open Go.RowKit
set_option maxRecDepth 100000
theorem World.ownsMap.look_one {P : Program} {H : Type} {R : Value → Option (DataW H × List MemPlace)} {k : TypeId} {b n : Nat} {D : DataW H} {w : World} {t e : TypeId} (h : w.ownsMap P k R b n D) (K : Maps.Keyed P k) (ht : P.underlying t = some (.map k e)) {z : Value} (hz : (zeroValue e).run P w = .ok z w) {zd : DataW H} {zp : List MemPlace} (hzd : R z = some (zd, zp))
    {key : Value} {kl : Lit} (hkey : keyOf P k key = some kl) : ∃ v ps, (Instr.lookup t (.map (some b)) key false).run P w = .ok v w ∧ R v = some (D.atKey kl zd, ps) := by
  obtain ⟨es, clock, hb, F, _, rfl⟩ := h
  rcases Maps.fit_look false K ht hz hb F hkey with ⟨hrun, _, hat⟩ | ⟨e0, y, _, _, hrun, hRv, hat, _⟩
  · exact ⟨z, zp, hrun, by rw [hat zd]; exact hzd⟩
  · exact ⟨e0.val, y.2, hrun, by rw [hat zd]; exact hRv⟩
theorem Mp.look1 {w : World} {gm n s : Nat} {f : Int × Int → Option Nat} (h : Mp w gm n f) (a b : Int) (he : InB (a, b)) (hf : f (a, b) = some s) : (Instr.lookup 61 (.map (some gm)) (.agg #[.int .i64 a, .int .i64 b]) false).run Tryz.prog w = .ok (.int .i64 (s : Int)) w := by
  obtain ⟨D, h1, h2⟩ := h
  obtain ⟨kl, hkl⟩ := key_of (a, b) he
  obtain ⟨v, ps, hr, hv⟩ := World.ownsMap.look_one h1 keyed32 Tryz.underlying61 (zero3 w) (plainElem_int Tryz.underlying3 (by decide)) hkl
  obtain ⟨c, rfl, hc, hwc⟩ := plainElem_int_inv Tryz.underlying3 hv
  obtain ⟨h3, h4⟩ := h2 (a, b) he kl hkl
  have := congrArg Prod.fst hc
  rw [h4 s hf] at this
  rw [show c = (s : Int) by simpa using this.symm] at hr
  exact hr
theorem Mq.look1 {w : World} {gm n s g : Nat} {q : Nat → Option Nat} (h : Mq w gm n q) (hs : s < 9007199254740992) (hq : q s = some g) : (Instr.lookup 62 (.map (some gm)) (.int .i64 (s : Int)) false).run Tryz.prog w = .ok (.pointer (some ⟨g, 0, none⟩)) w := by
  obtain ⟨D, h1, h2, -⟩ := h
  obtain ⟨v, ps, hr, hv⟩ := World.ownsMap.look_one h1 keyed3 Tryz.underlying62 (zero133 w) (zd := .nil) (zp := []) rfl (key3 s hs)
  obtain ⟨h3, h4⟩ := h2 s hs
  rw [h4 g hq] at hv
  rw [ptrElem_inv hv] at hr
  exact hr
section
variable {w w' : World} {own : Nat → Nat} {gw gp gm gt M M' : Nat} {vk : Value} {ks : List Kind} {gs fr gs' fr' : List Nat} {f f' : Int × Int → Option Nat} {q q' : Nat → Option Nat} {T T' : Nat → Ts}
/-- What nobody of the world's owns is as it was, and whose each block is. -/
def Wk (own own' : Nat → Nat) (w w' : World) : Prop := (∀ k, k < w.heap.size → own' k = own k) ∧ Mv w w' (fun k => own k ≠ 0 ∧ own k ≠ 2)
theorem Wk.mv {own own' : Nat → Nat} {w w' : World} (h : Wk own own' w w') : Mv w w' (fun k => own k ≠ 0) := h.2.mono (fun _ _ e => e.1)
theorem Wk.refl (own : Nat → Nat) (w : World) : Wk own own w w := ⟨fun _ _ => rfl, Mv.refl _ _⟩
theorem Wk.trans {o1 o2 o3 : Nat → Nat} {w1 w2 w3 : World} (h : Wk o1 o2 w1 w2) (k : Wk o2 o3 w2 w3) : Wk o1 o3 w1 w3 := ⟨fun j hj => (k.1 j (Nat.lt_of_lt_of_le hj h.2.size)).trans (h.1 j hj), h.2.trans k.2 (fun j hj e => by rw [← h.1 j hj]; exact e)⟩
theorem Wk.of {L : Nat} {S : Nat → Prop} (hm : Mv w w' S) (hS : ∀ k, k < w.heap.size → S k → own k ≠ 0 ∧ own k ≠ 2) : Wk own (rel own w L) w w' := ⟨fun _ hk => rel_old hk, hm.mono hS⟩
theorem Wk.later {L : Nat} (hb : Below w.heap.size w w') : Wk own (rel own w L) w w' := Wk.of (Mv.of_below hb (fun _ => False)) (fun _ _ e => e.elim)
theorem Wx.cells {L : Nat} (h : Wx L w own gw vk gp gm gt M ks gs fr f q T) : w.cell? ⟨gw, 0, none⟩ = some vk ∧ w.cell? ⟨gw, 1, none⟩ = some (.pointer (some ⟨gp, 0, none⟩)) ∧ w.cell? ⟨gw, 2, none⟩ = some (.map (some gm)) ∧ w.cell? ⟨gw, 3, none⟩ = some (.map (some gt)) := h.2.2.1.cell
theorem Wx.mp (h : Wx 0 w own gw vk gp gm gt M ks gs fr f q T) : Mp w gm M f := h.2.2.2.2.2.1 (by omega)
theorem Wx.mq (h : Wx 0 w own gw vk gp gm gt M ks gs fr f q T) : Mq w gt M q := h.2.2.2.2.2.2.1 (by omega)
theorem Wx.pl (h : Wx 0 w own gw vk gp gm gt M ks gs fr f q T) : Pl w (Lb own w 3) gp 200 gs fr := h.2.2.2.2.1 (by omega)
theorem Wx.tb {s g : Nat} (h : Wx 0 w own gw vk gp gm gt M ks gs fr f q T) (hq : q s = some g) : TbS w (Lb own w (10 + s)) g (T s) M := h.2.2.2.2.2.2.2 s g hq (by omega)
def lessQ (q : Nat → Option Nat) (T : Nat → Ts) (s : Nat) : Nat → Option Nat := if (T s).1.length = 1 then fun x => if x = s then none else q x else q
def lessT (T : Nat → Ts) (s i : Nat) : Nat → Ts := fun x => if x = s then (rem (T s).1 i, remCols (T s).2 i) else T x
theorem lessT_len (T : Nat → Ts) (s i : Nat) : (lessT T s i s).1.length = (T s).1.length - 1 := by simp [lessT, rem_len]
theorem kx_cells {W : World} {kx : Nat} {a b : Int} (h : w.heap[kx]? = some (.cells #[.int .i64 a, .int .i64 b] 34 (0, 0))) (hb : Below w.heap.size w W) : W.cell? ⟨kx, 0, none⟩ = some (.int .i64 a) ∧ W.cell? ⟨kx, 1, none⟩ = some (.int .i64 b) := by
  have hx := (hb.block kx (lt_of_block h)).trans h
  exact ⟨by rw [cell_of_row W kx _ _ 34 (0, 0) hx]; rfl, by rw [cell_of_row W kx _ _ 34 (0, 0) hx]; rfl⟩
set_option maxHeartbeats 4000000 in
theorem drop_any (h : Wx 0 w own gw vk gp gm gt M ks gs fr f q T) (a b : Int) (hb : InB (a, b)) (s g i : Nat) (hf : f (a, b) = some s) (hq : q s = some g) (hs : s < 8192) (hi : i < (T s).1.length) (hx : (T s).1[i] = (a, b)) (hM : M ≤ 900000) :
    Calls Tryz.prog 69 #[.pointer (some ⟨gw, 0, none⟩), .agg #[.int .i64 a, .int .i64 b]] w fun e w' => e = .returned (.tuple #[]) ∧ ∃ own', Wx 0 w' own' gw vk gp gm gt (M + 1) ks gs fr (fun x => if x = (a, b) then none else f x) (lessQ q T s) (lessT T s i) ∧ Wk own own' w w' := by
  have H := hide h
  have HQ := hide hq
  have HF := hide hf
  have HB := hide hb
  have HX : Hid (∃ hi : i < (T s).1.length, (T s).1[i] = (a, b)) := ⟨hi, hx⟩
  clear h hq hf hb hi hx
  go_enter Tryz.func69, Tryz.ntmps69
  go_upto_region 1 with fail
  obtain ⟨w1, hw1⟩ : ∃ X, X = w.alloc (.cells #[.int .i64 a, .int .i64 b] 34) := ⟨_, rfl⟩
  have B1 : Below w.heap.size w w1 := hw1 ▸ below_alloc w _
  have hx1 : w1.heap[w.heap.size]? = some (.cells #[.int .i64 a, .int .i64 b] 34 (0, 0)) := hw1 ▸ heap_alloc_new w _
  rw [← hw1]
  obtain ⟨kx, hkx⟩ : ∃ k, k = w.heap.size := ⟨_, rfl⟩
  rw [← hkx] at hx1 ⊢
  have HX1 : Hid (w1.heap[kx]? = some (.cells #[.int .i64 a, .int .i64 b] 34 (0, 0)) ∧ rel own w 0 kx = 0) := ⟨hx1, by rw [hkx]; exact rel_new (Nat.le_refl _)⟩
  have p0 : w1.cell? ⟨kx, 0, none⟩ = some (.int .i64 a) := by rw [cell_of_row w1 kx _ _ 34 (0, 0) hx1]; rfl
  have p1 : w1.cell? ⟨kx, 1, none⟩ = some (.int .i64 b) := by rw [cell_of_row w1 kx _ _ 34 (0, 0) hx1]; rfl
  have H1 := hide (H.out.later B1)
  have K1 : Hid (Wk own (rel own w 0) w w1) := Wk.later B1
  obtain ⟨c0, c1, c2, c3⟩ := H1.out.cells
  have hlk := (H1.out.later (below_drew w1)).mp.look1 a b HB.out HF.out
  have hlq := (H1.out.later (below_drew w1)).mq.look1 (by omega) HQ.out
  clear hx1 hw1 hkx B1
  refine wp_region_noPanic ?_
  refine wp_region_late (J := fun i => i != 99) (S := fun W => W.cell? ⟨gw, 2, none⟩ = some (.map (some gm)) ∧ W.cell? ⟨kx, 0, none⟩ = some (.int .i64 a) ∧ W.cell? ⟨kx, 1, none⟩ = some (.int .i64 b)) (by kernel_rfl) ⟨c2, p0, p1⟩ (fun hHeld => ?_)
  refine' wpAnyJ_takeW (i := 0) (oi := { dst := some 6, op := Op.move (Operand.tmp 0), type := 26, pos := "world.go:231", after := #[], guard := none }) (v := _) rfl (by kernel_rfl) (by kernel_rfl) (by kernel_rfl) (fun _ _ _ h => h) (Or.inl ⟨by rfl, ?hyA1⟩) ?reA1
  case hyA1 => (intro W hSw; (try dsimp only at hSw); go_simp; try with_reducible rfl)
  try simp only [Act.put, List.setIfInBounds_toArray, List.set_cons_zero, List.set_cons_succ]
  refine' wpAnyJ_takeW (i := 1) (oi := { dst := some 7, op := Op.nilCheck (Operand.tmp 6), type := 0, pos := "world.go:231", after := #[{ on := 0, ground := Ground.data }], guard := none }) (v := _) rfl (by kernel_rfl) (by kernel_rfl) (by kernel_rfl) (fun _ _ _ h => h) (Or.inl ⟨by rfl, ?hyA2⟩) ?reA2
  case hyA2 => (intro W hSw; (try dsimp only at hSw); go_simp; try with_reducible rfl)
  try simp only [Act.put, List.setIfInBounds_toArray, List.set_cons_zero, List.set_cons_succ]
  refine' wpAnyJ_takeW (i := 2) (oi := { dst := some 8, op := Op.fieldAddr 64 (Operand.tmp 7) 2, type := 0, pos := "world.go:231", after := #[{ on := 1, ground := Ground.data }], guard := none }) (v := _) rfl (by kernel_rfl) (by kernel_rfl) (by kernel_rfl) (fun _ _ _ h => h) (Or.inl ⟨by rfl, ?hyA3⟩) ?reA3
  case hyA3 => (intro W hSw; (try dsimp only at hSw); go_simp; try with_reducible rfl)
  try simp only [Act.put, List.setIfInBounds_toArray, List.set_cons_zero, List.set_cons_succ]
  refine' wpAnyJ_take (i := 3) (oi := { dst := some 9, op := Op.load 61 (Operand.tmp 8), type := 61, pos := "world.go:231", after := #[{ on := 2, ground := Ground.data }], guard := none }) (v := _) rfl (by kernel_rfl) (by kernel_rfl) (by kernel_rfl) (by kernel_rfl) (fun _ _ _ h => h) (Or.inl ⟨by rfl, ?hyA4⟩) (by assumption) ?reA4
  case hyA4 => (intro W hSw; (try dsimp only at hSw); go_simp; try with_reducible rfl)
  try simp only [Act.put, List.setIfInBounds_toArray, List.set_cons_zero, List.set_cons_succ]
  refine' wpAnyJ_take (i := 4) (oi := { dst := some 10, op := Op.load 34 (Operand.tmp 3), type := 34, pos := "world.go:231", after := #[], guard := none }) (v := _) rfl (by kernel_rfl) (by kernel_rfl) (by kernel_rfl) (by kernel_rfl) (fun _ _ _ h => h) (Or.inl ⟨by rfl, ?hyA5⟩) (by assumption) ?reA5
  case hyA5 => (intro W hSw; (try dsimp only at hSw); go_simp; try with_reducible rfl)
  try simp only [Act.put, List.setIfInBounds_toArray, List.set_cons_zero, List.set_cons_succ]
  refine wpAnyJ_ready (rs := [5]) (by kernel_rfl) (by simp) ?_
  refine AllReadyJ.cons (o := { dst := some 11, op := Op.lookup 61 (Operand.tmp 9) (Operand.tmp 10) false, type := 3, pos := "world.go:231", after := #[{ on := 3, ground := Ground.data }, { on := 4, ground := Ground.data }], guard := none }) rfl (fun K hK => ?_) AllReadyJ.nil
  go_simp
  refine hK.out _ _ (fun _ _ => ⟨c2, p0, p1⟩) ?_
  clear hK K
  try simp only [Act.put, List.setIfInBounds_toArray, List.set_cons_zero, List.set_cons_succ]
  refine' wpAnyJ_takeW (i := 6) (oi := { dst := some 4, op := Op.assign (Operand.tmp 11), type := 3, pos := "world.go:231", after := #[{ on := 5, ground := Ground.data }, { on := 0, ground := Ground.phase }, { on := 1, ground := Ground.phase }, { on := 2, ground := Ground.phase }, { on := 3, ground := Ground.phase }, { on := 4, ground := Ground.phase }, { on := 5, ground := Ground.phase }], guard := none }) (v := _) rfl (by kernel_rfl) (by kernel_rfl) (by kernel_rfl) (fun _ _ _ h => h) (Or.inl ⟨by rfl, ?hyA6⟩) ?reA6
  case hyA6 => (intro W hSw; (try dsimp only at hSw); go_simp; try with_reducible rfl)
  try simp only [Act.put, List.setIfInBounds_toArray, List.set_cons_zero, List.set_cons_succ]
  refine wpAnyJ_done (by kernel_rfl) ?_ _
  refine NoPanic.normal ?_
  obtain ⟨w2, hw2⟩ : ∃ X, X = w1.drew := ⟨_, rfl⟩
  rw [← hw2]
  have H2 : Hid (Wx 0 w2 (rel (rel own w 0) w1 0) gw vk gp gm gt M ks gs fr f q T) := hw2 ▸ H1.out.later (below_drew w1)
  have K2 : Hid (Wk own (rel (rel own w 0) w1 0) w w2) := hw2 ▸ K1.out.trans (Wk.later (below_drew w1))
  have X2 : Hid (w2.heap[kx]? = some (.cells #[.int .i64 a, .int .i64 b] 34 (0, 0)) ∧ rel (rel own w 0) w1 0 kx = 0) := ⟨hw2 ▸ HX1.out.1, (rel_old (lt_of_block HX1.out.1)).trans HX1.out.2⟩
  obtain ⟨o2, ho2⟩ : ∃ X, X = rel (rel own w 0) w1 0 := ⟨_, rfl⟩
  rw [← ho2] at H2 K2 X2
  clear hlk hlq p0 p1 c0 c1 c2 c3 H1 K1 HX1 ho2 hw2
  obtain ⟨-, -, c2, c3⟩ := H2.out.cells
  have hlq := H2.out.mq.look1 (by omega) HQ.out
  obtain ⟨hi, hx⟩ := HX.out
  have JF : Hid (Calls Tryz.prog 77 #[.pointer (some ⟨g, 0, none⟩), .agg #[.int .i64 a, .int .i64 b]] w2 fun e w' => e = .returned (.int .i64 (i : Int)) ∧ Hid (Below w2.heap.size w2 w') ∧ w'.cell? ⟨kx, 0, none⟩ = some (.int .i64 a) ∧ w'.cell? ⟨kx, 1, none⟩ = some (.int .i64 b)) := by
    obtain ⟨n, hn, ht⟩ := H2.out.tb HQ.out
    refine (find_any ht a b HB.out).mono ?_
    rintro e w' ⟨r, rfl, hr, hb2⟩
    have hr2 : r = (i : Int) := by
      rcases hr with ⟨-, hr⟩ | ⟨j, hj, rfl, hr⟩
      · exact absurd (hx ▸ List.getElem_mem hi) hr
      · obtain ⟨lab, vr, gm', vc, cs, f', hm, hix, -⟩ := ht
        rw [hix.inj hj hi (hr.trans hx.symm)]
    exact ⟨ret_int hr2, hb2, kx_cells X2.out.1 hb2⟩
  have JR : Hid (∀ W, Hid (Below w2.heap.size w2 W) → Calls Tryz.prog 93 #[.pointer (some ⟨g, 0, none⟩), .int .i64 (i : Int)] W fun e w' => ∃ x y, e = .returned (.tuple #[x, y, .int .i64 0]) ∧ (∃ o3, Hid (Wx 0 w' o3 gw vk gp gm gt (M + 1) ks gs fr f q (lessT T s i) ∧ Wk own o3 w w' ∧ w'.heap[kx]? = some (.cells #[.int .i64 a, .int .i64 b] 34 (0, 0)) ∧ o3 kx = 0)) ∧ w'.cell? ⟨kx, 0, none⟩ = some (.int .i64 a) ∧ w'.cell? ⟨kx, 1, none⟩ = some (.int .i64 b)) := fun W hW => by
    obtain ⟨n, hn, ht⟩ := H2.out.tb HQ.out
    refine (remove_any (ht.later hW.out) i hi (by omega)).mono ?_
    rintro e w' ⟨rfl, h1, h2⟩
    have hmv : Mv w2 w' (Lb o2 w2 (10 + s)) := (Mv.of_below hW.out _).trans h2 (fun k _ e => e)
    have hkn : ¬ Lb o2 w2 (10 + s) kx := fun e => by have := e.2; rw [X2.out.2] at this; omega
    have hkx := hmv.at X2.out.1 hkn
    have hwx := H2.out.table hmv HQ.out (t := (rem (T s).1 i, remCols (T s).2 i)) (M' := M + 1) ⟨n + 1, by omega, h1.mono (fun k e => .inl e)⟩ (by omega)
    refine ⟨_, _, rfl, ⟨_, hwx, K2.out.trans (Wk.of hmv (fun k _ e => by have := e.2; omega)), hkx, (rel_old (lt_of_block X2.out.1)).trans X2.out.2⟩, ?_⟩
    exact kx_cells hkx (Below.refl _ _)
  obtain ⟨p0, p1⟩ := kx_cells X2.out.1 (Below.refl _ w2)
  have HI : Hid (i < (T s).1.length) := hi
  clear hi hx
  go_wp2_with fail
  refine JF.out.mono ?_
  rintro e w2' ⟨rfl, HW2, ZZ0, ZZ1⟩
  go_wp2_with fail
  refine (JR.out _ HW2).mono ?_
  rintro e w3 ⟨x3, y3, rfl, ⟨o3, H3⟩, z0, z1⟩
  clear JF JR p0 p1 ZZ0 ZZ1 HW2 H2 K2 X2 c2 c3 hlq
  have JL : Hid (Calls Tryz.prog 94 #[.pointer (some ⟨g, 0, none⟩)] w3 fun e w' => e = .returned (.int .i64 (((T s).1.length - 1 : Nat) : Int)) ∧ w' = w3) := by
    obtain ⟨n, hn, ht⟩ := H3.out.1.tb HQ.out
    rw [← lessT_len T s i]
    exact len_any ht
  by_cases hm : (T s).1.length = 1
  · rw [hm] at JL
    have EQ : Hid (lessQ q T s = fun x => if x = s then none else q x) := by unfold lessQ Hid; rw [if_pos hm]
    obtain ⟨-, -, c2, c3⟩ := H3.out.1.cells
    obtain ⟨w4, hst, hmq4, htn4⟩ := H3.out.1.mq.drop s (by omega) 0
    have H4 : Hid (Wx 0 w4 (rel o3 w3 5) gw vk gp gm gt (M + 1) ks gs fr f (lessQ q T s) (lessT T s i) ∧ Wk own (rel o3 w3 5) w w4 ∧ w4.heap[kx]? = some (.cells #[.int .i64 a, .int .i64 b] 34 (0, 0)) ∧ rel o3 w3 5 kx = 0) := by
      obtain ⟨k1, k2, k3, k4⟩ := H3.out
      have hne : ¬ kx = gt := fun e => by have := k1.1.2.2; rw [← e, k4] at this; omega
      refine ⟨?_, k2.trans (Wk.of (mv_turned htn4) (fun k _ e => by rw [e, k1.1.2.2]; decide)), (mv_turned htn4).at k3 hne, (rel_old (lt_of_block k3)).trans k4⟩
      rw [EQ.out]
      exact k1.less htn4 hmq4 (Nat.le_refl _) (fun x g' hx => by
        by_cases e : x = s
        · rw [if_pos e] at hx; cases hx
        · rw [if_neg e] at hx; exact hx)
    clear hmq4 htn4 hm EQ
    go_wp2_with fail
    refine JL.out.mono ?_
    rintro e w3' ⟨rfl, rfl⟩
    clear JL
    clear z0 z1
    obtain ⟨-, -, c2, c3⟩ := H4.out.1.cells
    obtain ⟨z0, z1⟩ := kx_cells H4.out.2.2.1 (below_drew w4)
    have B5 := below_drew w4
    have H5 := H4.out.1.later B5
    obtain ⟨w6, hst, hmp6, htn6⟩ := H5.mp.drop (a, b) HB.out 0
    have HE : Hid (∃ own', Wx 0 w6 own' gw vk gp gm gt (M + 1) ks gs fr (fun x => if x = (a, b) then none else f x) (lessQ q T s) (lessT T s i) ∧ Wk own own' w w6) :=
      ⟨_, H5.sets htn6 hmp6 (Nat.le_refl _), (H4.out.2.1.trans (Wk.later B5)).trans (Wk.of (mv_turned htn6) (fun k _ e => by rw [e, H5.1.2.1]; decide))⟩
    have hne : ¬ kx = gm := fun e => by have := H4.out.1.1.2.1; rw [← e, H4.out.2.2.2] at this; omega
    obtain ⟨y0, y1⟩ := kx_cells ((mv_turned htn6).at (w := w4.drew) H4.out.2.2.1 hne) (Below.refl _ w6)
    have hnw : ¬ gw = gm := fun e => by have h1 := H4.out.1.1.1; have h2 := H4.out.1.1.2.1; rw [← e, h1] at h2; omega
    have y2 : w6.cell? ⟨gw, 2, none⟩ = some (.map (some gm)) := (mv_turned htn6).cell (w := w4.drew) c2 hnw
    dsimp only at hst
    clear H5 hmp6 htn6 hne hnw B5
    go_upto_region 6 with fail
    refine wp_region_noPanic ?_
    refine wp_region_late (J := fun i => i != 99) (S := fun W => W.cell? ⟨gw, 2, none⟩ = some (.map (some gm)) ∧ W.cell? ⟨kx, 0, none⟩ = some (.int .i64 a) ∧ W.cell? ⟨kx, 1, none⟩ = some (.int .i64 b)) (by kernel_rfl) ⟨c2, z0, z1⟩ (fun hHeld => ?_)
    refine' wpAnyJ_takeW (i := 0) (oi := { dst := some 31, op := Op.move (Operand.tmp 0), type := 26, pos := "world.go:237", after := #[], guard := none }) (v := _) rfl (by kernel_rfl) (by kernel_rfl) (by kernel_rfl) (fun _ _ _ h => h) (Or.inl ⟨by rfl, ?hyC1⟩) ?reC1
    case hyC1 => (intro W hSw; (try dsimp only at hSw); go_simp; try with_reducible rfl)
    try simp only [Act.put, List.setIfInBounds_toArray, List.set_cons_zero, List.set_cons_succ]
    refine' wpAnyJ_takeW (i := 1) (oi := { dst := some 32, op := Op.nilCheck (Operand.tmp 31), type := 0, pos := "world.go:237", after := #[{ on := 0, ground := Ground.data }], guard := none }) (v := _) rfl (by kernel_rfl) (by kernel_rfl) (by kernel_rfl) (fun _ _ _ h => h) (Or.inl ⟨by rfl, ?hyC2⟩) ?reC2
    case hyC2 => (intro W hSw; (try dsimp only at hSw); go_simp; try with_reducible rfl)
    try simp only [Act.put, List.setIfInBounds_toArray, List.set_cons_zero, List.set_cons_succ]
    refine' wpAnyJ_takeW (i := 2) (oi := { dst := some 33, op := Op.fieldAddr 64 (Operand.tmp 32) 2, type := 0, pos := "world.go:237", after := #[{ on := 1, ground := Ground.data }], guard := none }) (v := _) rfl (by kernel_rfl) (by kernel_rfl) (by kernel_rfl) (fun _ _ _ h => h) (Or.inl ⟨by rfl, ?hyC3⟩) ?reC3
    case hyC3 => (intro W hSw; (try dsimp only at hSw); go_simp; try with_reducible rfl)
    try simp only [Act.put, List.setIfInBounds_toArray, List.set_cons_zero, List.set_cons_succ]
    refine' wpAnyJ_take (i := 3) (oi := { dst := some 34, op := Op.load 61 (Operand.tmp 33), type := 61, pos := "world.go:237", after := #[{ on := 2, ground := Ground.data }], guard := none }) (v := _) rfl (by kernel_rfl) (by kernel_rfl) (by kernel_rfl) (by kernel_rfl) (fun _ _ _ h => h) (Or.inl ⟨by rfl, ?hyC4⟩) (by assumption) ?reC4
    case hyC4 => (intro W hSw; (try dsimp only at hSw); go_simp; try with_reducible rfl)
    try simp only [Act.put, List.setIfInBounds_toArray, List.set_cons_zero, List.set_cons_succ]
    refine' wpAnyJ_take (i := 4) (oi := { dst := some 35, op := Op.load 34 (Operand.tmp 3), type := 34, pos := "world.go:237", after := #[], guard := none }) (v := _) rfl (by kernel_rfl) (by kernel_rfl) (by kernel_rfl) (by kernel_rfl) (fun _ _ _ h => h) (Or.inl ⟨by rfl, ?hyC5⟩) (by assumption) ?reC5
    case hyC5 => (intro W hSw; (try dsimp only at hSw); go_simp; try with_reducible rfl)
    try simp only [Act.put, List.setIfInBounds_toArray, List.set_cons_zero, List.set_cons_succ]
    refine wpAnyJ_ready (rs := [5]) (by kernel_rfl) (by simp) ?_
    refine AllReadyJ.cons (o := { dst := none, op := Op.call { callee := Callee.builtin Builtin.delete, args := #[Operand.tmp 34, Operand.tmp 35], argTypes := #[61, 34] }, type := 0, pos := "world.go:237", after := #[{ on := 3, ground := Ground.data }, { on := 4, ground := Ground.data }], guard := none }) rfl (fun K hK => ?_) AllReadyJ.nil
    go_simp
    refine hK.out _ _ (fun _ _ => ⟨y2, y0, y1⟩) ?_
    clear hK K
    try simp only [Act.put, List.setIfInBounds_toArray, List.set_cons_zero, List.set_cons_succ]
    refine wpAnyJ_done (by kernel_rfl) ?_ _
    refine NoPanic.normal ?_
    go_wp2_with fail
    go_end0
    exact ⟨rfl, HE.out⟩
  · have EQ : Hid (lessQ q T s = q) := by unfold lessQ Hid; rw [if_neg hm]
    have H4 : Hid (Wx 0 w3 o3 gw vk gp gm gt (M + 1) ks gs fr f (lessQ q T s) (lessT T s i) ∧ Wk own o3 w w3 ∧ w3.heap[kx]? = some (.cells #[.int .i64 a, .int .i64 b] 34 (0, 0)) ∧ o3 kx = 0) := by
      rw [EQ.out]
      exact H3.out
    have hm2 : ¬ (((T s).1.length - 1 : Nat) : Int) = 0 := by have := HI.out; omega
    generalize (T s).1.length - 1 = m at *
    have t1 : ((m : Int) == 0) = false := by rw [beq_eq_false_iff_ne]; exact hm2
    clear hm EQ
    go_wp2_with fail
    refine JL.out.mono ?_
    rintro e w3' ⟨rfl, rfl⟩
    clear JL
    obtain ⟨w3, rfl⟩ : ∃ X, X = w3' := ⟨_, rfl⟩
    clear z0 z1
    obtain ⟨-, -, c2, c3⟩ := H4.out.1.cells
    obtain ⟨z0, z1⟩ := kx_cells H4.out.2.2.1 (below_drew w3)
    have B5 := below_drew w3
    have H5 := H4.out.1.later B5
    obtain ⟨w6, hst, hmp6, htn6⟩ := H5.mp.drop (a, b) HB.out 0
    have HE : Hid (∃ own', Wx 0 w6 own' gw vk gp gm gt (M + 1) ks gs fr (fun x => if x = (a, b) then none else f x) (lessQ q T s) (lessT T s i) ∧ Wk own own' w w6) :=
      ⟨_, H5.sets htn6 hmp6 (Nat.le_refl _), (H4.out.2.1.trans (Wk.later B5)).trans (Wk.of (mv_turned htn6) (fun k _ e => by rw [e, H5.1.2.1]; decide))⟩
    have hne : ¬ kx = gm := fun e => by have := H4.out.1.1.2.1; rw [← e, H4.out.2.2.2] at this; omega
    obtain ⟨y0, y1⟩ := kx_cells ((mv_turned htn6).at (w := w3.drew) H4.out.2.2.1 hne) (Below.refl _ w6)
    have hnw : ¬ gw = gm := fun e => by have h1 := H4.out.1.1.1; have h2 := H4.out.1.1.2.1; rw [← e, h1] at h2; omega
    have y2 : w6.cell? ⟨gw, 2, none⟩ = some (.map (some gm)) := (mv_turned htn6).cell (w := w3.drew) c2 hnw
    dsimp only at hst
    clear H5 hmp6 htn6 hne hnw B5
    go_upto_region 6 with fail
    refine wp_region_noPanic ?_
    refine wp_region_late (J := fun i => i != 99) (S := fun W => W.cell? ⟨gw, 2, none⟩ = some (.map (some gm)) ∧ W.cell? ⟨kx, 0, none⟩ = some (.int .i64 a) ∧ W.cell? ⟨kx, 1, none⟩ = some (.int .i64 b)) (by kernel_rfl) ⟨c2, z0, z1⟩ (fun hHeld => ?_)
    refine' wpAnyJ_takeW (i := 0) (oi := { dst := some 31, op := Op.move (Operand.tmp 0), type := 26, pos := "world.go:237", after := #[], guard := none }) (v := _) rfl (by kernel_rfl) (by kernel_rfl) (by kernel_rfl) (fun _ _ _ h => h) (Or.inl ⟨by rfl, ?hyD1⟩) ?reD1
    case hyD1 => (intro W hSw; (try dsimp only at hSw); go_simp; try with_reducible rfl)
    try simp only [Act.put, List.setIfInBounds_toArray, List.set_cons_zero, List.set_cons_succ]
    refine' wpAnyJ_takeW (i := 1) (oi := { dst := some 32, op := Op.nilCheck (Operand.tmp 31), type := 0, pos := "world.go:237", after := #[{ on := 0, ground := Ground.data }], guard := none }) (v := _) rfl (by kernel_rfl) (by kernel_rfl) (by kernel_rfl) (fun _ _ _ h => h) (Or.inl ⟨by rfl, ?hyD2⟩) ?reD2
    case hyD2 => (intro W hSw; (try dsimp only at hSw); go_simp; try with_reducible rfl)
    try simp only [Act.put, List.setIfInBounds_toArray, List.set_cons_zero, List.set_cons_succ]
    refine' wpAnyJ_takeW (i := 2) (oi := { dst := some 33, op := Op.fieldAddr 64 (Operand.tmp 32) 2, type := 0, pos := "world.go:237", after := #[{ on := 1, ground := Ground.data }], guard := none }) (v := _) rfl (by kernel_rfl) (by kernel_rfl) (by kernel_rfl) (fun _ _ _ h => h) (Or.inl ⟨by rfl, ?hyD3⟩) ?reD3
    case hyD3 => (intro W hSw; (try dsimp only at hSw); go_simp; try with_reducible rfl)
    try simp only [Act.put, List.setIfInBounds_toArray, List.set_cons_zero, List.set_cons_succ]
    refine' wpAnyJ_take (i := 3) (oi := { dst := some 34, op := Op.load 61 (Operand.tmp 33), type := 61, pos := "world.go:237", after := #[{ on := 2, ground := Ground.data }], guard := none }) (v := _) rfl (by kernel_rfl) (by kernel_rfl) (by kernel_rfl) (by kernel_rfl) (fun _ _ _ h => h) (Or.inl ⟨by rfl, ?hyD4⟩) (by assumption) ?reD4
    case hyD4 => (intro W hSw; (try dsimp only at hSw); go_simp; try with_reducible rfl)
    try simp only [Act.put, List.setIfInBounds_toArray, List.set_cons_zero, List.set_cons_succ]
    refine' wpAnyJ_take (i := 4) (oi := { dst := some 35, op := Op.load 34 (Operand.tmp 3), type := 34, pos := "world.go:237", after := #[], guard := none }) (v := _) rfl (by kernel_rfl) (by kernel_rfl) (by kernel_rfl) (by kernel_rfl) (fun _ _ _ h => h) (Or.inl ⟨by rfl, ?hyD5⟩) (by assumption) ?reD5
    case hyD5 => (intro W hSw; (try dsimp only at hSw); go_simp; try with_reducible rfl)
    try simp only [Act.put, List.setIfInBounds_toArray, List.set_cons_zero, List.set_cons_succ]
    refine wpAnyJ_ready (rs := [5]) (by kernel_rfl) (by simp) ?_
    refine AllReadyJ.cons (o := { dst := none, op := Op.call { callee := Callee.builtin Builtin.delete, args := #[Operand.tmp 34, Operand.tmp 35], argTypes := #[61, 34] }, type := 0, pos := "world.go:237", after := #[{ on := 3, ground := Ground.data }, { on := 4, ground := Ground.data }], guard := none }) rfl (fun K hK => ?_) AllReadyJ.nil
    go_simp
    refine hK.out _ _ (fun _ _ => ⟨y2, y0, y1⟩) ?_
    clear hK K
    try simp only [Act.put, List.setIfInBounds_toArray, List.set_cons_zero, List.set_cons_succ]
    refine wpAnyJ_done (by kernel_rfl) ?_ _
    refine NoPanic.normal ?_
    go_wp2_with fail
    go_end0
    exact ⟨rfl, HE.out⟩
end
end Go.Proofs.YtfbhoemfabgjpaaGreat
