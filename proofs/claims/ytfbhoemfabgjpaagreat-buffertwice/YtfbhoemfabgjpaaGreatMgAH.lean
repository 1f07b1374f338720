import Derived.Test.YtfbhoemfabgjpaaGreatWDrop
import Derived.Test.YtfbhoemfabgjpaaGreatMgAF
/-
  World: who lives; an entity goes.
-/
namespace Go.Proofs.YtfbhoemfabgjpaaGreat
open Go.RowKit
set_option maxRecDepth 100000
theorem Pl.tight {w : World} {S : Nat → Prop} {g n : Nat} {gs fr : List Nat} (h : Pl w S g n gs fr) : Pl w (fun k => S k ∧ k < w.heap.size) g n gs fr := by
  obtain ⟨⟨vg, vl, vf, hp, s0, s1, s2, s3⟩, ho⟩ := h
  exact ⟨⟨vg, vl, vf, hp, ⟨s0, hp.lt⟩, fun k e => ⟨s1 k e, (hp.2.1.lt k e).2⟩, fun k e => ⟨s2 k e, (hp.2.2.1.lt k e).2⟩, fun k e => ⟨s3 k e, (hp.2.2.2.1.lt k e).2⟩⟩, ho⟩
section
variable {w w' : World} {own : Nat → Nat} {gw gp gm gt M M' : Nat} {vk : Value} {ks : List Kind} {gs fr gs' fr' : List Nat} {f f' : Int × Int → Option Nat} {q q' : Nat → Option Nat} {T T' : Nat → Ts}
theorem Wx.pool' (h : Wx 0 w own gw vk gp gm gt M ks gs fr f q T) (hm : Mv w w' (Lb own w 3)) (ht : Pl w' (Nw w (Lb own w 3)) gp 200 gs' fr') : Wx 0 w' (rel own w 3) gw vk gp gm gt M ks gs' fr' f q T := h.pool hm (ht.tight.mono (fun _ e => Lb.of_new e.1 e.2))
set_option maxHeartbeats 1000000 in
theorem wlives_any (h : Wx 0 w own gw vk gp gm gt M ks gs fr f q T) (a b : Int) : Calls Tryz.prog 13 #[.pointer (some ⟨gw, 0, none⟩), .agg #[.int .i64 a, .int .i64 b]] w fun e w' => e = .returned (.bool (livesOf gs fr a b)) ∧ Below w.heap.size w w' := by
  obtain ⟨w1, hw1⟩ : ∃ X, X = w.alloc (.cells #[.int .i64 a, .int .i64 b] 34) := ⟨_, rfl⟩
  have B1 : Below w.heap.size w w1 := hw1 ▸ below_alloc w _
  have hx1 : w1.heap[w.heap.size]? = some (.cells #[.int .i64 a, .int .i64 b] 34 (0, 0)) := hw1 ▸ heap_alloc_new w _
  have H1 := hide (h.later B1)
  have HB1 := hide B1
  have J : Hid (Calls Tryz.prog 29 #[.pointer (some ⟨gp, 0, none⟩), .agg #[.int .i64 a, .int .i64 b]] w1.drew fun e w' => e = .returned (.bool (livesOf gs fr a b)) ∧ Below w1.drew.heap.size w1.drew w') := lives_any a b (H1.out.pl.later (below_drew w1))
  clear h
  generalize livesOf gs fr a b = r at *
  go_enter Tryz.func13, Tryz.ntmps13
  go_upto_region 1 with fail
  rw [← hw1]
  obtain ⟨kx, hkx⟩ : ∃ k, k = w.heap.size := ⟨_, rfl⟩
  rw [← hkx] at hx1 ⊢
  obtain ⟨p0, p1⟩ := kx_cells hx1 (Below.refl _ w1)
  obtain ⟨-, c1, -, -⟩ := H1.out.cells
  have HX1 := hide hx1
  clear hx1 hw1 hkx B1
  refine wp_region_noPanic ?_
  refine wp_region_late (J := fun i => i != 99) (S := fun W => W.cell? ⟨gw, 1, none⟩ = some (.pointer (some ⟨gp, 0, none⟩)) ∧ W.cell? ⟨kx, 0, none⟩ = some (.int .i64 a) ∧ W.cell? ⟨kx, 1, none⟩ = some (.int .i64 b)) (by kernel_rfl) ⟨c1, p0, p1⟩ (fun hHeld => ?_)
  refine' wpAnyJ_takeW (i := 0) (oi := { dst := some 5, op := Op.move (Operand.tmp 0), type := 26, pos := "world.go:122", after := #[], guard := none }) (v := _) rfl (by kernel_rfl) (by kernel_rfl) (by kernel_rfl) (fun _ _ _ h => h) (Or.inl ⟨by rfl, ?hyA1⟩) ?reA1
  case hyA1 => (intro W hSw; (try dsimp only at hSw); go_simp; try with_reducible rfl)
  try simp only [Act.put, List.setIfInBounds_toArray, List.set_cons_zero, List.set_cons_succ]
  refine' wpAnyJ_takeW (i := 1) (oi := { dst := some 6, op := Op.nilCheck (Operand.tmp 5), type := 0, pos := "world.go:122", after := #[{ on := 0, ground := Ground.data }], guard := none }) (v := _) rfl (by kernel_rfl) (by kernel_rfl) (by kernel_rfl) (fun _ _ _ h => h) (Or.inl ⟨by rfl, ?hyA2⟩) ?reA2
  case hyA2 => (intro W hSw; (try dsimp only at hSw); go_simp; try with_reducible rfl)
  try simp only [Act.put, List.setIfInBounds_toArray, List.set_cons_zero, List.set_cons_succ]
  refine' wpAnyJ_takeW (i := 2) (oi := { dst := some 7, op := Op.fieldAddr 64 (Operand.tmp 6) 1, type := 0, pos := "world.go:122", after := #[{ on := 1, ground := Ground.data }], guard := none }) (v := _) rfl (by kernel_rfl) (by kernel_rfl) (by kernel_rfl) (fun _ _ _ h => h) (Or.inl ⟨by rfl, ?hyA3⟩) ?reA3
  case hyA3 => (intro W hSw; (try dsimp only at hSw); go_simp; try with_reducible rfl)
  try simp only [Act.put, List.setIfInBounds_toArray, List.set_cons_zero, List.set_cons_succ]
  refine' wpAnyJ_take (i := 3) (oi := { dst := some 8, op := Op.load 57 (Operand.tmp 7), type := 57, pos := "world.go:122", after := #[{ on := 2, ground := Ground.data }], guard := none }) (v := _) rfl (by kernel_rfl) (by kernel_rfl) (by kernel_rfl) (by kernel_rfl) (fun _ _ _ h => h) (Or.inl ⟨by rfl, ?hyA4⟩) (by assumption) ?reA4
  case hyA4 => (intro W hSw; (try dsimp only at hSw); go_simp; try with_reducible rfl)
  try simp only [Act.put, List.setIfInBounds_toArray, List.set_cons_zero, List.set_cons_succ]
  refine' wpAnyJ_take (i := 4) (oi := { dst := some 9, op := Op.load 34 (Operand.tmp 3), type := 34, pos := "world.go:122", after := #[], guard := none }) (v := _) rfl (by kernel_rfl) (by kernel_rfl) (by kernel_rfl) (by kernel_rfl) (fun _ _ _ h => h) (Or.inl ⟨by rfl, ?hyA5⟩) (by assumption) ?reA5
  case hyA5 => (intro W hSw; (try dsimp only at hSw); go_simp; try with_reducible rfl)
  try simp only [Act.put, List.setIfInBounds_toArray, List.set_cons_zero, List.set_cons_succ]
  refine wpAnyJ_ready (rs := [5]) (by kernel_rfl) (by simp) ?_
  refine AllReadyJ.cons (o := { dst := some 10, op := Op.call { callee := Callee.value (Operand.func 29), args := #[Operand.tmp 8, Operand.tmp 9], argTypes := #[57, 34] }, type := 4, pos := "world.go:122", after := #[{ on := 3, ground := Ground.data }, { on := 4, ground := Ground.data }], guard := none }) rfl (fun K hK => ?_) AllReadyJ.nil
  go_simp
  go_at_call 29
  refine J.out.mono ?_
  rintro e w2 ⟨rfl, B2⟩
  go_simp
  refine hK.out _ _ (fun _ _ => ⟨(B2.cell (p := ⟨gw, 1, none⟩) (World.block_lt_of_cell? _ _ c1)).trans c1, kx_cells (w := w1.drew) HX1.out B2⟩) ?_
  clear hK K
  try simp only [Act.put, List.setIfInBounds_toArray, List.set_cons_zero, List.set_cons_succ]
  refine' wpAnyJ_takeW (i := 6) (oi := { dst := some 4, op := Op.assign (Operand.tmp 10), type := 4, pos := "world.go:122", after := #[{ on := 5, ground := Ground.data }, { on := 5, ground := Ground.chain }, { on := 0, ground := Ground.phase }, { on := 1, ground := Ground.phase }, { on := 2, ground := Ground.phase }, { on := 3, ground := Ground.phase }, { on := 4, ground := Ground.phase }, { on := 5, ground := Ground.phase }], guard := none }) (v := _) rfl (by kernel_rfl) (by kernel_rfl) (by kernel_rfl) (fun _ _ _ h => h) (Or.inl ⟨by rfl, ?hyA6⟩) ?reA6
  case hyA6 => (intro W hSw; (try dsimp only at hSw); go_simp; try with_reducible rfl)
  try simp only [Act.put, List.setIfInBounds_toArray, List.set_cons_zero, List.set_cons_succ]
  refine wpAnyJ_done (by kernel_rfl) ?_ _
  refine NoPanic.normal ?_
  go_wp2_with fail
  go_ret
  exact ⟨rfl, below_on HB1.out (below_on (below_drew w1) B2)⟩
set_option maxHeartbeats 2000000 in
theorem despawn_stale (h : Wx 0 w own gw vk gp gm gt M ks gs fr f q T) (a b : Int) (hl : livesOf gs fr a b = false) : Calls Tryz.prog 40 #[.pointer (some ⟨gw, 0, none⟩), .agg #[.int .i64 a, .int .i64 b]] w fun e w' => e = .returned (.int .i64 41) ∧ Below w.heap.size w w' := by
  obtain ⟨w1, hw1⟩ : ∃ X, X = w.alloc (.cells #[.int .i64 a, .int .i64 b] 34) := ⟨_, rfl⟩
  have B1 : Below w.heap.size w w1 := hw1 ▸ below_alloc w _
  have hx1 : w1.heap[w.heap.size]? = some (.cells #[.int .i64 a, .int .i64 b] 34 (0, 0)) := hw1 ▸ heap_alloc_new w _
  have H1 := hide (h.later B1)
  have HB1 := hide B1
  have J : Hid (Calls Tryz.prog 68 #[.pointer (some ⟨gp, 0, none⟩), .agg #[.int .i64 a, .int .i64 b]] w1.drew fun e w' => e = .returned (.int .i64 41) ∧ Below w1.drew.heap.size w1.drew w') := give_stale a b (H1.out.pl.later (below_drew w1)) hl
  clear h hl
  go_enter Tryz.func40, Tryz.ntmps40
  go_upto_region 1 with fail
  rw [← hw1]
  obtain ⟨kx, hkx⟩ : ∃ k, k = w.heap.size := ⟨_, rfl⟩
  rw [← hkx] at hx1 ⊢
  obtain ⟨p0, p1⟩ := kx_cells hx1 (Below.refl _ w1)
  obtain ⟨-, c1, -, -⟩ := H1.out.cells
  have HX1 := hide hx1
  clear hx1 hw1 hkx B1
  refine wp_region_noPanic ?_
  refine wp_region_late (J := fun i => i != 99) (S := fun W => W.cell? ⟨gw, 1, none⟩ = some (.pointer (some ⟨gp, 0, none⟩)) ∧ W.cell? ⟨kx, 0, none⟩ = some (.int .i64 a) ∧ W.cell? ⟨kx, 1, none⟩ = some (.int .i64 b)) (by kernel_rfl) ⟨c1, p0, p1⟩ (fun hHeld => ?_)
  refine' wpAnyJ_takeW (i := 0) (oi := { dst := some 6, op := Op.move (Operand.tmp 0), type := 26, pos := "world.go:53", after := #[], guard := none }) (v := _) rfl (by kernel_rfl) (by kernel_rfl) (by kernel_rfl) (fun _ _ _ h => h) (Or.inl ⟨by rfl, ?hyA1⟩) ?reA1
  case hyA1 => (intro W hSw; (try dsimp only at hSw); go_simp; try with_reducible rfl)
  try simp only [Act.put, List.setIfInBounds_toArray, List.set_cons_zero, List.set_cons_succ]
  refine' wpAnyJ_takeW (i := 1) (oi := { dst := some 7, op := Op.nilCheck (Operand.tmp 6), type := 0, pos := "world.go:53", after := #[{ on := 0, ground := Ground.data }], guard := none }) (v := _) rfl (by kernel_rfl) (by kernel_rfl) (by kernel_rfl) (fun _ _ _ h => h) (Or.inl ⟨by rfl, ?hyA2⟩) ?reA2
  case hyA2 => (intro W hSw; (try dsimp only at hSw); go_simp; try with_reducible rfl)
  try simp only [Act.put, List.setIfInBounds_toArray, List.set_cons_zero, List.set_cons_succ]
  refine' wpAnyJ_takeW (i := 2) (oi := { dst := some 8, op := Op.fieldAddr 64 (Operand.tmp 7) 1, type := 0, pos := "world.go:53", after := #[{ on := 1, ground := Ground.data }], guard := none }) (v := _) rfl (by kernel_rfl) (by kernel_rfl) (by kernel_rfl) (fun _ _ _ h => h) (Or.inl ⟨by rfl, ?hyA3⟩) ?reA3
  case hyA3 => (intro W hSw; (try dsimp only at hSw); go_simp; try with_reducible rfl)
  try simp only [Act.put, List.setIfInBounds_toArray, List.set_cons_zero, List.set_cons_succ]
  refine' wpAnyJ_take (i := 3) (oi := { dst := some 9, op := Op.load 57 (Operand.tmp 8), type := 57, pos := "world.go:53", after := #[{ on := 2, ground := Ground.data }], guard := none }) (v := _) rfl (by kernel_rfl) (by kernel_rfl) (by kernel_rfl) (by kernel_rfl) (fun _ _ _ h => h) (Or.inl ⟨by rfl, ?hyA4⟩) (by assumption) ?reA4
  case hyA4 => (intro W hSw; (try dsimp only at hSw); go_simp; try with_reducible rfl)
  try simp only [Act.put, List.setIfInBounds_toArray, List.set_cons_zero, List.set_cons_succ]
  refine' wpAnyJ_take (i := 4) (oi := { dst := some 10, op := Op.load 34 (Operand.tmp 3), type := 34, pos := "world.go:53", after := #[], guard := none }) (v := _) rfl (by kernel_rfl) (by kernel_rfl) (by kernel_rfl) (by kernel_rfl) (fun _ _ _ h => h) (Or.inl ⟨by rfl, ?hyA5⟩) (by assumption) ?reA5
  case hyA5 => (intro W hSw; (try dsimp only at hSw); go_simp; try with_reducible rfl)
  try simp only [Act.put, List.setIfInBounds_toArray, List.set_cons_zero, List.set_cons_succ]
  refine wpAnyJ_ready (rs := [5]) (by kernel_rfl) (by simp) ?_
  refine AllReadyJ.cons (o := { dst := some 11, op := Op.call { callee := Callee.value (Operand.func 68), args := #[Operand.tmp 9, Operand.tmp 10], argTypes := #[57, 34] }, type := 27, pos := "world.go:53", after := #[{ on := 3, ground := Ground.data }, { on := 4, ground := Ground.data }], guard := none }) rfl (fun K hK => ?_) AllReadyJ.nil
  go_simp
  go_at_call 68
  refine J.out.mono ?_
  rintro e w2 ⟨rfl, B2⟩
  go_simp
  refine hK.out _ _ (fun _ _ => ⟨(B2.cell (p := ⟨gw, 1, none⟩) (World.block_lt_of_cell? _ _ c1)).trans c1, kx_cells (w := w1.drew) HX1.out B2⟩) ?_
  clear hK K
  try simp only [Act.put, List.setIfInBounds_toArray, List.set_cons_zero, List.set_cons_succ]
  refine' wpAnyJ_takeW (i := 6) (oi := { dst := some 5, op := Op.assign (Operand.tmp 11), type := 27, pos := "world.go:53", after := #[{ on := 5, ground := Ground.data }, { on := 5, ground := Ground.chain }, { on := 0, ground := Ground.phase }, { on := 1, ground := Ground.phase }, { on := 2, ground := Ground.phase }, { on := 3, ground := Ground.phase }, { on := 4, ground := Ground.phase }, { on := 5, ground := Ground.phase }], guard := none }) (v := _) rfl (by kernel_rfl) (by kernel_rfl) (by kernel_rfl) (fun _ _ _ h => h) (Or.inl ⟨by rfl, ?hyA6⟩) ?reA6
  case hyA6 => (intro W hSw; (try dsimp only at hSw); go_simp; try with_reducible rfl)
  try simp only [Act.put, List.setIfInBounds_toArray, List.set_cons_zero, List.set_cons_succ]
  refine wpAnyJ_done (by kernel_rfl) ?_ _
  refine NoPanic.normal ?_
  go_wp2_with fail
  go_ret
  exact ⟨rfl, below_on HB1.out (below_on (below_drew w1) B2)⟩
/-- What Give makes of what State tells. -/
def giveG (gs : List Nat) (i : Nat) : List Nat := if gs.getD i 0 = 1000000 then gs.set i 1000001 else gs
def giveF (gs fr : List Nat) (i : Nat) : List Nat := if gs.getD i 0 = 1000000 then fr else fr ++ [i]
set_option maxHeartbeats 2000000 in
theorem despawn_live (h : Wx 0 w own gw vk gp gm gt M ks gs fr f q T) (i : Nat) (a b : Int) (ha : a = (i : Int)) (hb : b = ((gs.getD i 0 : Nat) : Int)) (hi : i < gs.length) (hl : gs.getD i 0 ≤ 1000000) (hfr : i ∉ fr) (s g r : Nat) (hf : f (a, b) = some s) (hq : q s = some g) (hs : s < 8192) (hr : r < (T s).1.length) (hx : (T s).1[r] = (a, b)) (hM : M ≤ 900000) (hi2 : i ≤ 1000000) :
    Calls Tryz.prog 40 #[.pointer (some ⟨gw, 0, none⟩), .agg #[.int .i64 a, .int .i64 b]] w fun e w' => e = .returned (.int .i64 0) ∧ ∃ own', Wx 0 w' own' gw vk gp gm gt (M + 1) ks (giveG gs i) (giveF gs fr i) (fun x => if x = (a, b) then none else f x) (lessQ q T s) (lessT T s r) ∧ Wk own own' w w' := by
  have hib : InB (a, b) := by
    subst ha hb
    unfold InB
    dsimp only
    omega
  obtain ⟨w1, hw1⟩ : ∃ X, X = w.alloc (.cells #[.int .i64 a, .int .i64 b] 34) := ⟨_, rfl⟩
  have B1 : Below w.heap.size w w1 := hw1 ▸ below_alloc w _
  have hx1 : w1.heap[w.heap.size]? = some (.cells #[.int .i64 a, .int .i64 b] 34 (0, 0)) := hw1 ▸ heap_alloc_new w _
  have H1 := hide (h.later B1)
  have K1 : Hid (Wk own (rel own w 0) w w1) := Wk.later B1
  have J : Hid (Calls Tryz.prog 68 #[.pointer (some ⟨gp, 0, none⟩), .agg #[.int .i64 a, .int .i64 b]] w1.drew fun e w' => e = .returned (.int .i64 0) ∧ (∃ o2, Hid (Wx 0 w' o2 gw vk gp gm gt M ks (giveG gs i) (giveF gs fr i) f q T ∧ Wk own o2 w w')) ∧ w'.cell? ⟨gw, 1, none⟩ = some (.pointer (some ⟨gp, 0, none⟩)) ∧ w'.cell? ⟨w.heap.size, 0, none⟩ = some (.int .i64 a) ∧ w'.cell? ⟨w.heap.size, 1, none⟩ = some (.int .i64 b)) := by
    have h2 := H1.out.later (below_drew w1)
    have g1 := give_live h2.pl hi hl hfr
    unfold ev at g1
    rw [← ha, ← hb] at g1
    refine g1.mono ?_
    rintro e w2 ⟨rfl, g2, g3⟩
    have h3 := h2.pool' g3 g2
    have hkx : rel (rel own w 0) w1 0 w.heap.size = 0 := (rel_old (lt_of_block hx1)).trans (rel_new (Nat.le_refl _))
    refine ⟨rfl, ⟨_, h3, (K1.out.trans (Wk.later (below_drew w1))).trans (Wk.of g3 (fun k _ e => by have := e.2; omega))⟩, h3.cells.2.1, ?_⟩
    exact kx_cells (g3.at (w := w1.drew) hx1 (fun e => by have := e.2; rw [hkx] at this; omega)) (Below.refl _ _)
  have JD : Hid (∀ (o2 : Nat → Nat) (W : World), Wx 0 W o2 gw vk gp gm gt M ks (giveG gs i) (giveF gs fr i) f q T ∧ Wk own o2 w W → Calls Tryz.prog 69 #[.pointer (some ⟨gw, 0, none⟩), .agg #[.int .i64 a, .int .i64 b]] W fun e w' => e = .returned (.tuple #[]) ∧ ∃ own', Wx 0 w' own' gw vk gp gm gt (M + 1) ks (giveG gs i) (giveF gs fr i) (fun x => if x = (a, b) then none else f x) (lessQ q T s) (lessT T s r) ∧ Wk own own' w w') := fun o2 W hW =>
    (drop_any hW.1 a b hib s g r hf hq hs hr hx hM).mono (fun _e _w' ⟨h1, o3, h3, h4⟩ => ⟨h1, o3, h3, hW.2.trans h4⟩)
  clear h hf hq hs hr hx hM hi2 hib ha hb hi hl hfr K1
  go_enter Tryz.func40, Tryz.ntmps40
  go_upto_region 1 with fail
  rw [← hw1]
  obtain ⟨kx, hkx⟩ : ∃ k, k = w.heap.size := ⟨_, rfl⟩
  rw [← hkx] at hx1 J ⊢
  obtain ⟨p0, p1⟩ := kx_cells hx1 (Below.refl _ w1)
  obtain ⟨-, c1, -, -⟩ := H1.out.cells
  clear hx1 hw1 hkx B1 H1
  refine wp_region_noPanic ?_
  refine wp_region_late (J := fun i => i != 99) (S := fun W => W.cell? ⟨gw, 1, none⟩ = some (.pointer (some ⟨gp, 0, none⟩)) ∧ W.cell? ⟨kx, 0, none⟩ = some (.int .i64 a) ∧ W.cell? ⟨kx, 1, none⟩ = some (.int .i64 b)) (by kernel_rfl) ⟨c1, p0, p1⟩ (fun hHeld => ?_)
  refine' wpAnyJ_takeW (i := 0) (oi := { dst := some 6, op := Op.move (Operand.tmp 0), type := 26, pos := "world.go:53", after := #[], guard := none }) (v := _) rfl (by kernel_rfl) (by kernel_rfl) (by kernel_rfl) (fun _ _ _ h => h) (Or.inl ⟨by rfl, ?hyA1⟩) ?reA1
  case hyA1 => (intro W hSw; (try dsimp only at hSw); go_simp; try with_reducible rfl)
  try simp only [Act.put, List.setIfInBounds_toArray, List.set_cons_zero, List.set_cons_succ]
  refine' wpAnyJ_takeW (i := 1) (oi := { dst := some 7, op := Op.nilCheck (Operand.tmp 6), type := 0, pos := "world.go:53", after := #[{ on := 0, ground := Ground.data }], guard := none }) (v := _) rfl (by kernel_rfl) (by kernel_rfl) (by kernel_rfl) (fun _ _ _ h => h) (Or.inl ⟨by rfl, ?hyA2⟩) ?reA2
  case hyA2 => (intro W hSw; (try dsimp only at hSw); go_simp; try with_reducible rfl)
  try simp only [Act.put, List.setIfInBounds_toArray, List.set_cons_zero, List.set_cons_succ]
  refine' wpAnyJ_takeW (i := 2) (oi := { dst := some 8, op := Op.fieldAddr 64 (Operand.tmp 7) 1, type := 0, pos := "world.go:53", after := #[{ on := 1, ground := Ground.data }], guard := none }) (v := _) rfl (by kernel_rfl) (by kernel_rfl) (by kernel_rfl) (fun _ _ _ h => h) (Or.inl ⟨by rfl, ?hyA3⟩) ?reA3
  case hyA3 => (intro W hSw; (try dsimp only at hSw); go_simp; try with_reducible rfl)
  try simp only [Act.put, List.setIfInBounds_toArray, List.set_cons_zero, List.set_cons_succ]
  refine' wpAnyJ_take (i := 3) (oi := { dst := some 9, op := Op.load 57 (Operand.tmp 8), type := 57, pos := "world.go:53", after := #[{ on := 2, ground := Ground.data }], guard := none }) (v := _) rfl (by kernel_rfl) (by kernel_rfl) (by kernel_rfl) (by kernel_rfl) (fun _ _ _ h => h) (Or.inl ⟨by rfl, ?hyA4⟩) (by assumption) ?reA4
  case hyA4 => (intro W hSw; (try dsimp only at hSw); go_simp; try with_reducible rfl)
  try simp only [Act.put, List.setIfInBounds_toArray, List.set_cons_zero, List.set_cons_succ]
  refine' wpAnyJ_take (i := 4) (oi := { dst := some 10, op := Op.load 34 (Operand.tmp 3), type := 34, pos := "world.go:53", after := #[], guard := none }) (v := _) rfl (by kernel_rfl) (by kernel_rfl) (by kernel_rfl) (by kernel_rfl) (fun _ _ _ h => h) (Or.inl ⟨by rfl, ?hyA5⟩) (by assumption) ?reA5
  case hyA5 => (intro W hSw; (try dsimp only at hSw); go_simp; try with_reducible rfl)
  try simp only [Act.put, List.setIfInBounds_toArray, List.set_cons_zero, List.set_cons_succ]
  refine wpAnyJ_ready (rs := [5]) (by kernel_rfl) (by simp) ?_
  refine AllReadyJ.cons (o := { dst := some 11, op := Op.call { callee := Callee.value (Operand.func 68), args := #[Operand.tmp 9, Operand.tmp 10], argTypes := #[57, 34] }, type := 27, pos := "world.go:53", after := #[{ on := 3, ground := Ground.data }, { on := 4, ground := Ground.data }], guard := none }) rfl (fun K hK => ?_) AllReadyJ.nil
  go_simp
  go_at_call 68
  refine J.out.mono ?_
  rintro e w2 ⟨rfl, ⟨o2, H2⟩, y1, y2, y3⟩
  go_simp
  refine hK.out _ _ (fun _ _ => ⟨y1, y2, y3⟩) ?_
  clear hK K
  try simp only [Act.put, List.setIfInBounds_toArray, List.set_cons_zero, List.set_cons_succ]
  refine' wpAnyJ_takeW (i := 6) (oi := { dst := some 5, op := Op.assign (Operand.tmp 11), type := 27, pos := "world.go:53", after := #[{ on := 5, ground := Ground.data }, { on := 5, ground := Ground.chain }, { on := 0, ground := Ground.phase }, { on := 1, ground := Ground.phase }, { on := 2, ground := Ground.phase }, { on := 3, ground := Ground.phase }, { on := 4, ground := Ground.phase }, { on := 5, ground := Ground.phase }], guard := none }) (v := _) rfl (by kernel_rfl) (by kernel_rfl) (by kernel_rfl) (fun _ _ _ h => h) (Or.inl ⟨by rfl, ?hyA6⟩) ?reA6
  case hyA6 => (intro W hSw; (try dsimp only at hSw); go_simp; try with_reducible rfl)
  try simp only [Act.put, List.setIfInBounds_toArray, List.set_cons_zero, List.set_cons_succ]
  refine wpAnyJ_done (by kernel_rfl) ?_ _
  refine NoPanic.normal ?_
  clear J c1 p0 p1
  have J2 := hide (JD.out o2 w2 H2.out)
  clear JD H2
  go_wp2_with fail
  refine J2.out.mono ?_
  rintro e w3 ⟨rfl, HE⟩
  have HE2 := hide HE
  clear HE
  go_wp2_with fail
  go_ret
  exact ⟨rfl, HE2.out⟩
end
end Go.Proofs.YtfbhoemfabgjpaaGreat

/-
  World: parts as they are read; slices.Clone of parts; their set.
-/
namespace Go.Proofs.YtfbhoemfabgjpaaGreat
open Go.RowKit
set_option maxRecDepth 100000
theorem infoP : (Tryz.prog.info? 51).map (fun i => (i.zero, i.size, i.bytes)) = some (some (.agg #[.int .i64 0, .slice none 0 0]), 2, 32) := by kernel_rfl
theorem pz_one : ∀ l : List Pt, ∀ u ∈ pz l, u.oneCell' = true
  | [], _, h => by cases h
  | p :: t, v, h => by
    simp only [pz, List.mem_cons] at h
    rcases h with rfl | rfl | h
    · rfl
    · rfl
    · exact pz_one t v h
theorem add_at (g o j : Nat) : (⟨g, o, none⟩ : Addr).add j = ⟨g, o + j, none⟩ := by
  unfold Addr.add
  split
  · rename_i h
    subst h
    rfl
  · rfl
/-- Parts that are read, wherever they lie. -/
def Rp (w : World) (v : Value) (l : List Pt) : Prop :=
  (v = .slice none 0 0 ∧ l = []) ∨ ∃ g o c, v = .slice (some ⟨g, o, none⟩) l.length c ∧ l.length ≤ c ∧ c ≤ maxLen ∧ ∀ j u, (pz l)[j]? = some u → w.cell? ⟨g, o + j, none⟩ = some u
theorem Rp.own {w : World} {v : Value} {l : List Pt} {B : Nat} (h : w.ownsRow B 51 2 v l.length (pz l)) : Rp w v l := by
  rcases h.2 with ⟨rfl, hl⟩ | ⟨g, c, cur, rfl, -, hg, h1, h2, hcs, htake⟩
  · exact .inl ⟨rfl, List.eq_nil_of_length_eq_zero hl⟩
  · refine .inr ⟨g, 0, c, rfl, h1, h2, fun j u hj => ?_⟩
    have := h.cells rfl j u hj
    rw [add_at] at this
    exact this
theorem Rp.later {w w' : World} {v : Value} {l : List Pt} (h : Rp w v l) (hb : Below w.heap.size w w') : Rp w' v l := by
  rcases h with h | ⟨g, o, c, rfl, h1, h2, h3⟩
  · exact .inl h
  · exact .inr ⟨g, o, c, rfl, h1, h2, fun j u hj => (hb.cell (p := ⟨g, o + j, none⟩) (World.block_lt_of_cell? w _ (h3 j u hj))).trans (h3 j u hj)⟩
set_option maxHeartbeats 1000000 in
theorem clone_parts (v : Value) (l : List Pt) (w : World) (h : Rp w v l) (hn : l.length ≤ 1000000) :
    Calls Tryz.prog 34 #[v] w fun e w' => ∃ v', e = .returned v' ∧ w'.ownsRow w.heap.size 51 2 v' l.length (pz l) ∧ Below w.heap.size w w' := by
  obtain ⟨i0, hi, hz0, hz1, hz2⟩ := info_parts infoP
  have q72 : ∀ (w : World) (a : Option Addr) (n c n' c' : Nat), (binOp .eql 36 (.slice a n c) (.slice none n' c')).run Tryz.prog w = .ok (.bool a.isNone) w := fun w a n c n' c' => Lib.run_eql_slice_nil w _ _ a n c n' c' Tryz.underlying36
  rcases h with ⟨rfl, rfl⟩ | ⟨g, o, cap, rfl, h1, h2, h3⟩
  · go_enter Tryz.func34, Tryz.ntmps34
    go_wp2_with fail
    go_ret
    exact ⟨_, rfl, World.ownsRow_nil _ _ _ _, Below.refl _ _⟩
  · have H := hide h3
    clear h3
    go_enter Tryz.func34, Tryz.ntmps34
    go_wp2_with (at_builtin; refine wpList_append_own_at _ rfl _ _ 36 rfl w.heap.size 51 i0 (.agg #[.int .i64 0, .slice none 0 0]) 2 32 Tryz.underlying36 hi hz0 hz1 hz2 rfl (by decide) _ 0 [] rfl (World.ownsRow_lit w #[] 0 (Nat.le_refl _) (Nat.zero_le _) rfl) ⟨g, o, none⟩ l.length cap (pz l) rfl (by rw [pz_len]) ?c1 (pz_one l) (by unfold maxLen; omega) (by omega) (by simp) ?_)
    case c1 =>
      intro j u hj
      have hc := H.out j u hj
      rw [add_at]
      exact ((below_alloc w _).cell (p := ⟨g, o + j, none⟩) (World.block_lt_of_cell? w _ hc)).trans hc
    intro v' w' ho hg _ _
    obtain ⟨ao, c, rfl⟩ := own_len ho
    have HO := hide ho
    have HG := hide hg
    clear ho hg
    go_wp2_with fail
    go_ret
    refine ⟨_, rfl, ?_, (below_alloc w _).grown HG.out (by simp) (fun k e => ?_)⟩
    · have := HO.out
      simpa using this
    · simp [Value.ownBlock] at e
      omega
/-! ### The set of some parts -/
def setOf (l : List Pt) : Nat := l.foldl (fun s p => s ||| 2 ^ p.1.toNat) 0
theorem setOf_push (l : List Pt) (p : Pt) : setOf (l ++ [p]) = setOf l ||| 2 ^ p.1.toNat := by simp [setOf]
theorem setOf_lt : ∀ (l : List Pt), (∀ p ∈ l, 1 ≤ p.1 ∧ p.1 ≤ 12) → setOf l < 8192 := by
  have key : ∀ (l : List Pt) (s : Nat), s < 2 ^ 13 → (∀ p ∈ l, 1 ≤ p.1 ∧ p.1 ≤ 12) → l.foldl (fun s p => s ||| 2 ^ p.1.toNat) s < 2 ^ 13 := by
    intro l
    induction l with
    | nil => intro s hs _; exact hs
    | cons p t ih =>
      intro s hs hp
      refine ih _ (Nat.or_lt_two_pow hs ?_) (fun x hx => hp x (List.mem_cons_of_mem _ hx))
      have := hp p (List.mem_cons_self ..)
      exact Nat.pow_lt_pow_right (by omega) (by omega)
  intro l hl
  exact key l 0 (by decide) hl
theorem testBit_fold (k : Nat) : ∀ (l : List Pt) (s : Nat), (l.foldl (fun s p => s ||| 2 ^ p.1.toNat) s).testBit k = (s.testBit k || l.any (fun p => p.1.toNat == k))
  | [], s => by simp
  | p :: t, s => by
    rw [List.foldl_cons, testBit_fold k t, Nat.testBit_or, Nat.testBit_two_pow, List.any_cons, Bool.or_assoc]
    congr 1
theorem setOf_bit (l : List Pt) (k : Nat) : (setOf l).testBit k = l.any (fun p => p.1.toNat == k) := by
  unfold setOf
  rw [testBit_fold]
  simp
/-- The set of parts does not hang on their order. -/
theorem setOf_perm {l l' : List Pt} (h : l'.Perm l) : setOf l' = setOf l := by
  apply Nat.eq_of_testBit_eq
  intro k
  rw [setOf_bit, setOf_bit]
  exact h.any_eq
end Go.Proofs.YtfbhoemfabgjpaaGreat
