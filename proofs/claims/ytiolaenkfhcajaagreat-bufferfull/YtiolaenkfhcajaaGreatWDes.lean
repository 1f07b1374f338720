/-
  World: who lives; an entity goes.
-/
import Derived.Test.YtiolaenkfhcajaaGreatWDrop
namespace Go.Proofs.YtiolaenkfhcajaaGreat
open Go.RowKit
set_option maxRecDepth 100000
theorem Pl.tight {w : World} {S : Nat → Prop} {g n : Nat} {gs fr : List Nat} (h : Pl w S g n gs fr) : Pl w (fun k => S k ∧ k < w.heap.size) g n gs fr := by
  obtain ⟨⟨vg, vl, vf, hp, s0, s1, s2, s3⟩, ho⟩ := h
  exact ⟨⟨vg, vl, vf, hp, ⟨s0, hp.lt⟩, fun k e => ⟨s1 k e, (hp.2.1.lt k e).2⟩, fun k e => ⟨s2 k e, (hp.2.2.1.lt k e).2⟩, fun k e => ⟨s3 k e, (hp.2.2.2.1.lt k e).2⟩⟩, ho⟩
section
variable {w w' : World} {own : Nat → Nat} {gw gp gm gt M M' : Nat} {vk : Value} {ks : List Kind} {gs fr gs' fr' : List Nat} {f f' : Int × Int → Option Nat} {q q' : Nat → Option Nat} {T T' : Nat → Ts}
theorem Wx.pool' (h : Wx 0 w own gw vk gp gm gt M ks gs fr f q T) (hm : Mv w w' (Lb own w 3)) (ht : Pl w' (Nw w (Lb own w 3)) gp 200 gs' fr') : Wx 0 w' (rel own w 3) gw vk gp gm gt M ks gs' fr' f q T := h.pool hm (ht.tight.mono (fun _ e => Lb.of_new e.1 e.2))
set_option maxHeartbeats 1000000 in
theorem wlives_any (h : Wx 0 w own gw vk gp gm gt M ks gs fr f q T) (a b : Int) : Calls Tryz.prog 13 #[.pointer (some ⟨gw, 0, none⟩), .agg #[.int .i64 a, .int .i64 b]] w fun e w' => e = .returned (.bool (livesOf gs fr a b)) ∧ Below w.heap.size w w' := by
  obtain ⟨w1, hw1⟩ : ∃ X, X = w.alloc (.cells #[.int .i64 a, .int .i64 b] 36) := ⟨_, rfl⟩
  have B1 : Below w.heap.size w w1 := hw1 ▸ below_alloc w _
  have hx1 : w1.heap[w.heap.size]? = some (.cells #[.int .i64 a, .int .i64 b] 36 (0, 0)) := hw1 ▸ heap_alloc_new w _
  have H1 := hide (h.later B1)
  have HB1 := hide B1
  have J : Hid (Calls Tryz.prog 25 #[.pointer (some ⟨gp, 0, none⟩), .agg #[.int .i64 a, .int .i64 b]] w1.drew fun e w' => e = .returned (.bool (livesOf gs fr a b)) ∧ Below w1.drew.heap.size w1.drew w') := lives_any a b (H1.out.pl.later (below_drew w1))
  clear h
  generalize livesOf gs fr a b = r at *
  go_enter Tryz.func13, Tryz.ntmps13
  go_upto_region 1 with fail
  rw [← hw1]
  obtain ⟨kx, hkx⟩ : ∃ k, k = w.heap.size := ⟨_, rfl⟩
  rw [← hkx] at hx1 ⊢
  obtain ⟨p0, p1⟩ := kx_cells hx1 (Below.refl _ w1)
  obtain ⟨-, c1, -, -⟩ := H1.out.cells
  have HX1 := hide hx1
  clear hx1 hw1 hkx B1
  refine wp_region_noPanic ?_
  refine wp_region_late (J := fun i => i != 99) (S := fun W => W.cell? ⟨gw, 1, none⟩ = some (.pointer (some ⟨gp, 0, none⟩)) ∧ W.cell? ⟨kx, 0, none⟩ = some (.int .i64 a) ∧ W.cell? ⟨kx, 1, none⟩ = some (.int .i64 b)) (by kernel_rfl) ⟨c1, p0, p1⟩ (fun hHeld => ?_)
  refine' wpAnyJ_takeW (i := 0) (oi := { dst := some 5, op := Op.move (Operand.tmp 0), type := 26, pos := "world.go:122", after := #[], guard := none }) (v := _) rfl (by kernel_rfl) (by kernel_rfl) (by kernel_rfl) (fun _ _ _ h => h) (Or.inl ⟨by rfl, ?hyA1⟩) ?reA1
  case hyA1 => (intro W hSw; (try dsimp only at hSw); go_simp; try with_reducible rfl)
  try simp only [Act.put, List.setIfInBounds_toArray, List.set_cons_zero, List.set_cons_succ]
  refine' wpAnyJ_takeW (i := 1) (oi := { dst := some 6, op := Op.nilCheck (Operand.tmp 5), type := 0, pos := "world.go:122", after := #[{ on := 0, ground := Ground.data }], guard := none }) (v := _) rfl (by kernel_rfl) (by kernel_rfl) (by kernel_rfl) (fun _ _ _ h => h) (Or.inl ⟨by rfl, ?hyA2⟩) ?reA2
  case hyA2 => (intro W hSw; (try dsimp only at hSw); go_simp; try with_reducible rfl)
  try simp only [Act.put, List.setIfInBounds_toArray, List.set_cons_zero, List.set_cons_succ]
  refine' wpAnyJ_takeW (i := 2) (oi := { dst := some 7, op := Op.fieldAddr 63 (Operand.tmp 6) 1, type := 0, pos := "world.go:122", after := #[{ on := 1, ground := Ground.data }], guard := none }) (v := _) rfl (by kernel_rfl) (by kernel_rfl) (by kernel_rfl) (fun _ _ _ h => h) (Or.inl ⟨by rfl, ?hyA3⟩) ?reA3
  case hyA3 => (intro W hSw; (try dsimp only at hSw); go_simp; try with_reducible rfl)
  try simp only [Act.put, List.setIfInBounds_toArray, List.set_cons_zero, List.set_cons_succ]
  refine' wpAnyJ_take (i := 3) (oi := { dst := some 8, op := Op.load 56 (Operand.tmp 7), type := 56, pos := "world.go:122", after := #[{ on := 2, ground := Ground.data }], guard := none }) (v := _) rfl (by kernel_rfl) (by kernel_rfl) (by kernel_rfl) (by kernel_rfl) (fun _ _ _ h => h) (Or.inl ⟨by rfl, ?hyA4⟩) (by assumption) ?reA4
  case hyA4 => (intro W hSw; (try dsimp only at hSw); go_simp; try with_reducible rfl)
  try simp only [Act.put, List.setIfInBounds_toArray, List.set_cons_zero, List.set_cons_succ]
  refine' wpAnyJ_take (i := 4) (oi := { dst := some 9, op := Op.load 36 (Operand.tmp 3), type := 36, pos := "world.go:122", after := #[], guard := none }) (v := _) rfl (by kernel_rfl) (by kernel_rfl) (by kernel_rfl) (by kernel_rfl) (fun _ _ _ h => h) (Or.inl ⟨by rfl, ?hyA5⟩) (by assumption) ?reA5
  case hyA5 => (intro W hSw; (try dsimp only at hSw); go_simp; try with_reducible rfl)
  try simp only [Act.put, List.setIfInBounds_toArray, List.set_cons_zero, List.set_cons_succ]
  refine wpAnyJ_ready (rs := [5]) (by kernel_rfl) (by simp) ?_
  refine AllReadyJ.cons (o := { dst := some 10, op := Op.call { callee := Callee.value (Operand.func 25), args := #[Operand.tmp 8, Operand.tmp 9], argTypes := #[56, 36] }, type := 4, pos := "world.go:122", after := #[{ on := 3, ground := Ground.data }, { on := 4, ground := Ground.data }], guard := none }) rfl (fun K hK => ?_) AllReadyJ.nil
  go_simp
  go_at_call 25
  refine J.out.mono ?_
  rintro e w2 ⟨rfl, B2⟩
  go_simp
  refine hK.out _ _ (fun _ _ => ⟨(B2.cell (p := ⟨gw, 1, none⟩) (World.block_lt_of_cell? _ _ c1)).trans c1, kx_cells (w := w1.drew) HX1.out B2⟩) ?_
  clear hK K
  try simp only [Act.put, List.setIfInBounds_toArray, List.set_cons_zero, List.set_cons_succ]
  refine' wpAnyJ_takeW (i := 6) (oi := { dst := some 4, op := Op.assign (Operand.tmp 10), type := 4, pos := "world.go:122", after := #[{ on := 5, ground := Ground.data }, { on := 5, ground := Ground.chain }, { on := 0, ground := Ground.phase }, { on := 1, ground := Ground.phase }, { on := 2, ground := Ground.phase }, { on := 3, ground := Ground.phase }, { on := 4, ground := Ground.phase }, { on := 5, ground := Ground.phase }], guard := none }) (v := _) rfl (by kernel_rfl) (by kernel_rfl) (by kernel_rfl) (fun _ _ _ h => h) (Or.inl ⟨by rfl, ?hyA6⟩) ?reA6
  case hyA6 => (intro W hSw; (try dsimp only at hSw); go_simp; try with_reducible rfl)
  try simp only [Act.put, List.setIfInBounds_toArray, List.set_cons_zero, List.set_cons_succ]
  refine wpAnyJ_done (by kernel_rfl) ?_ _
  refine NoPanic.normal ?_
  go_wp2_with fail
  go_ret
  exact ⟨rfl, below_on HB1.out (below_on (below_drew w1) B2)⟩
set_option maxHeartbeats 2000000 in
theorem despawn_stale (h : Wx 0 w own gw vk gp gm gt M ks gs fr f q T) (a b : Int) (hl : livesOf gs fr a b = false) : Calls Tryz.prog 35 #[.pointer (some ⟨gw, 0, none⟩), .agg #[.int .i64 a, .int .i64 b]] w fun e w' => e = .returned (.int .i64 41) ∧ Below w.heap.size w w' := by
  obtain ⟨w1, hw1⟩ : ∃ X, X = w.alloc (.cells #[.int .i64 a, .int .i64 b] 36) := ⟨_, rfl⟩
  have B1 : Below w.heap.size w w1 := hw1 ▸ below_alloc w _
  have hx1 : w1.heap[w.heap.size]? = some (.cells #[.int .i64 a, .int .i64 b] 36 (0, 0)) := hw1 ▸ heap_alloc_new w _
  have H1 := hide (h.later B1)
  have HB1 := hide B1
  have J : Hid (Calls Tryz.prog 54 #[.pointer (some ⟨gp, 0, none⟩), .agg #[.int .i64 a, .int .i64 b]] w1.drew fun e w' => e = .returned (.int .i64 41) ∧ Below w1.drew.heap.size w1.drew w') := give_stale a b (H1.out.pl.later (below_drew w1)) hl
  clear h hl
  go_enter Tryz.func35, Tryz.ntmps35
  go_upto_region 1 with fail
  rw [← hw1]
  obtain ⟨kx, hkx⟩ : ∃ k, k = w.heap.size := ⟨_, rfl⟩
  rw [← hkx] at hx1 ⊢
  obtain ⟨p0, p1⟩ := kx_cells hx1 (Below.refl _ w1)
  obtain ⟨-, c1, -, -⟩ := H1.out.cells
  have HX1 := hide hx1
  clear hx1 hw1 hkx B1
  refine wp_region_noPanic ?_
  refine wp_region_late (J := fun i => i != 99) (S := fun W => W.cell? ⟨gw, 1, none⟩ = some (.pointer (some ⟨gp, 0, none⟩)) ∧ W.cell? ⟨kx, 0, none⟩ = some (.int .i64 a) ∧ W.cell? ⟨kx, 1, none⟩ = some (.int .i64 b)) (by kernel_rfl) ⟨c1, p0, p1⟩ (fun hHeld => ?_)
  refine' wpAnyJ_takeW (i := 0) (oi := { dst := some 6, op := Op.move (Operand.tmp 0), type := 26, pos := "world.go:53", after := #[], guard := none }) (v := _) rfl (by kernel_rfl) (by kernel_rfl) (by kernel_rfl) (fun _ _ _ h => h) (Or.inl ⟨by rfl, ?hyA1⟩) ?reA1
  case hyA1 => (intro W hSw; (try dsimp only at hSw); go_simp; try with_reducible rfl)
  try simp only [Act.put, List.setIfInBounds_toArray, List.set_cons_zero, List.set_cons_succ]
  refine' wpAnyJ_takeW (i := 1) (oi := { dst := some 7, op := Op.nilCheck (Operand.tmp 6), type := 0, pos := "world.go:53", after := #[{ on := 0, ground := Ground.data }], guard := none }) (v := _) rfl (by kernel_rfl) (by kernel_rfl) (by kernel_rfl) (fun _ _ _ h => h) (Or.inl ⟨by rfl, ?hyA2⟩) ?reA2
  case hyA2 => (intro W hSw; (try dsimp only at hSw); go_simp; try with_reducible rfl)
  try simp only [Act.put, List.setIfInBounds_toArray, List.set_cons_zero, List.set_cons_succ]
  refine' wpAnyJ_takeW (i := 2) (oi := { dst := some 8, op := Op.fieldAddr 63 (Operand.tmp 7) 1, type := 0, pos := "world.go:53", after := #[{ on := 1, ground := Ground.data }], guard := none }) (v := _) rfl (by kernel_rfl) (by kernel_rfl) (by kernel_rfl) (fun _ _ _ h => h) (Or.inl ⟨by rfl, ?hyA3⟩) ?reA3
  case hyA3 => (intro W hSw; (try dsimp only at hSw); go_simp; try with_reducible rfl)
  try simp only [Act.put, List.setIfInBounds_toArray, List.set_cons_zero, List.set_cons_succ]
  refine' wpAnyJ_take (i := 3) (oi := { dst := some 9, op := Op.load 56 (Operand.tmp 8), type := 56, pos := "world.go:53", after := #[{ on := 2, ground := Ground.data }], guard := none }) (v := _) rfl (by kernel_rfl) (by kernel_rfl) (by kernel_rfl) (by kernel_rfl) (fun _ _ _ h => h) (Or.inl ⟨by rfl, ?hyA4⟩) (by assumption) ?reA4
  case hyA4 => (intro W hSw; (try dsimp only at hSw); go_simp; try with_reducible rfl)
  try simp only [Act.put, List.setIfInBounds_toArray, List.set_cons_zero, List.set_cons_succ]
  refine' wpAnyJ_take (i := 4) (oi := { dst := some 10, op := Op.load 36 (Operand.tmp 3), type := 36, pos := "world.go:53", after := #[], guard := none }) (v := _) rfl (by kernel_rfl) (by kernel_rfl) (by kernel_rfl) (by kernel_rfl) (fun _ _ _ h => h) (Or.inl ⟨by rfl, ?hyA5⟩) (by assumption) ?reA5
  case hyA5 => (intro W hSw; (try dsimp only at hSw); go_simp; try with_reducible rfl)
  try simp only [Act.put, List.setIfInBounds_toArray, List.set_cons_zero, List.set_cons_succ]
  refine wpAnyJ_ready (rs := [5]) (by kernel_rfl) (by simp) ?_
  refine AllReadyJ.cons (o := { dst := some 11, op := Op.call { callee := Callee.value (Operand.func 54), args := #[Operand.tmp 9, Operand.tmp 10], argTypes := #[56, 36] }, type := 27, pos := "world.go:53", after := #[{ on := 3, ground := Ground.data }, { on := 4, ground := Ground.data }], guard := none }) rfl (fun K hK => ?_) AllReadyJ.nil
  go_simp
  go_at_call 54
  refine J.out.mono ?_
  rintro e w2 ⟨rfl, B2⟩
  go_simp
  refine hK.out _ _ (fun _ _ => ⟨(B2.cell (p := ⟨gw, 1, none⟩) (World.block_lt_of_cell? _ _ c1)).trans c1, kx_cells (w := w1.drew) HX1.out B2⟩) ?_
  clear hK K
  try simp only [Act.put, List.setIfInBounds_toArray, List.set_cons_zero, List.set_cons_succ]
  refine' wpAnyJ_takeW (i := 6) (oi := { dst := some 5, op := Op.assign (Operand.tmp 11), type := 27, pos := "world.go:53", after := #[{ on := 5, ground := Ground.data }, { on := 5, ground := Ground.chain }, { on := 0, ground := Ground.phase }, { on := 1, ground := Ground.phase }, { on := 2, ground := Ground.phase }, { on := 3, ground := Ground.phase }, { on := 4, ground := Ground.phase }, { on := 5, ground := Ground.phase }], guard := none }) (v := _) rfl (by kernel_rfl) (by kernel_rfl) (by kernel_rfl) (fun _ _ _ h => h) (Or.inl ⟨by rfl, ?hyA6⟩) ?reA6
  case hyA6 => (intro W hSw; (try dsimp only at hSw); go_simp; try with_reducible rfl)
  try simp only [Act.put, List.setIfInBounds_toArray, List.set_cons_zero, List.set_cons_succ]
  refine wpAnyJ_done (by kernel_rfl) ?_ _
  refine NoPanic.normal ?_
  go_wp2_with fail
  go_ret
  exact ⟨rfl, below_on HB1.out (below_on (below_drew w1) B2)⟩
/-- What Give makes of what State tells. -/
def giveG (gs : List Nat) (i : Nat) : List Nat := if gs.getD i 0 = 1000000 then gs.set i 1000001 else gs
def giveF (gs fr : List Nat) (i : Nat) : List Nat := if gs.getD i 0 = 1000000 then fr else fr ++ [i]
set_option maxHeartbeats 2000000 in
theorem despawn_live (h : Wx 0 w own gw vk gp gm gt M ks gs fr f q T) (i : Nat) (a b : Int) (ha : a = (i : Int)) (hb : b = ((gs.getD i 0 : Nat) : Int)) (hi : i < gs.length) (hl : gs.getD i 0 ≤ 1000000) (hfr : i ∉ fr) (s g r : Nat) (hf : f (a, b) = some s) (hq : q s = some g) (hs : s < 8192) (hr : r < (T s).1.length) (hx : (T s).1[r] = (a, b)) (hM : M ≤ 900000) (hi2 : i ≤ 1000000) :
    Calls Tryz.prog 35 #[.pointer (some ⟨gw, 0, none⟩), .agg #[.int .i64 a, .int .i64 b]] w fun e w' => e = .returned (.int .i64 0) ∧ ∃ own', Wx 0 w' own' gw vk gp gm gt (M + 1) ks (giveG gs i) (giveF gs fr i) (fun x => if x = (a, b) then none else f x) (lessQ q T s) (lessT T s r) ∧ Wk own own' w w' := by
  have hib : InB (a, b) := by
    subst ha hb
    unfold InB
    dsimp only
    omega
  obtain ⟨w1, hw1⟩ : ∃ X, X = w.alloc (.cells #[.int .i64 a, .int .i64 b] 36) := ⟨_, rfl⟩
  have B1 : Below w.heap.size w w1 := hw1 ▸ below_alloc w _
  have hx1 : w1.heap[w.heap.size]? = some (.cells #[.int .i64 a, .int .i64 b] 36 (0, 0)) := hw1 ▸ heap_alloc_new w _
  have H1 := hide (h.later B1)
  have K1 : Hid (Wk own (rel own w 0) w w1) := Wk.later B1
  have J : Hid (Calls Tryz.prog 54 #[.pointer (some ⟨gp, 0, none⟩), .agg #[.int .i64 a, .int .i64 b]] w1.drew fun e w' => e = .returned (.int .i64 0) ∧ (∃ o2, Hid (Wx 0 w' o2 gw vk gp gm gt M ks (giveG gs i) (giveF gs fr i) f q T ∧ Wk own o2 w w')) ∧ w'.cell? ⟨gw, 1, none⟩ = some (.pointer (some ⟨gp, 0, none⟩)) ∧ w'.cell? ⟨w.heap.size, 0, none⟩ = some (.int .i64 a) ∧ w'.cell? ⟨w.heap.size, 1, none⟩ = some (.int .i64 b)) := by
    have h2 := H1.out.later (below_drew w1)
    have g1 := give_live h2.pl hi hl hfr
    unfold ev at g1
    rw [← ha, ← hb] at g1
    refine g1.mono ?_
    rintro e w2 ⟨rfl, g2, g3⟩
    have h3 := h2.pool' g3 g2
    have hkx : rel (rel own w 0) w1 0 w.heap.size = 0 := (rel_old (lt_of_block hx1)).trans (rel_new (Nat.le_refl _))
    refine ⟨rfl, ⟨_, h3, (K1.out.trans (Wk.later (below_drew w1))).trans (Wk.of g3 (fun k _ e => by have := e.2; omega))⟩, h3.cells.2.1, ?_⟩
    exact kx_cells (g3.at (w := w1.drew) hx1 (fun e => by have := e.2; rw [hkx] at this; omega)) (Below.refl _ _)
  have JD : Hid (∀ (o2 : Nat → Nat) (W : World), Wx 0 W o2 gw vk gp gm gt M ks (giveG gs i) (giveF gs fr i) f q T ∧ Wk own o2 w W → Calls Tryz.prog 55 #[.pointer (some ⟨gw, 0, none⟩), .agg #[.int .i64 a, .int .i64 b]] W fun e w' => e = .returned (.tuple #[]) ∧ ∃ own', Wx 0 w' own' gw vk gp gm gt (M + 1) ks (giveG gs i) (giveF gs fr i) (fun x => if x = (a, b) then none else f x) (lessQ q T s) (lessT T s r) ∧ Wk own own' w w') := fun o2 W hW =>
    (drop_any hW.1 a b hib s g r hf hq hs hr hx hM).mono (fun _e _w' ⟨h1, o3, h3, h4⟩ => ⟨h1, o3, h3, hW.2.trans h4⟩)
  clear h hf hq hs hr hx hM hi2 hib ha hb hi hl hfr K1
  go_enter Tryz.func35, Tryz.ntmps35
  go_upto_region 1 with fail
  rw [← hw1]
  obtain ⟨kx, hkx⟩ : ∃ k, k = w.heap.size := ⟨_, rfl⟩
  rw [← hkx] at hx1 J ⊢
  obtain ⟨p0, p1⟩ := kx_cells hx1 (Below.refl _ w1)
  obtain ⟨-, c1, -, -⟩ := H1.out.cells
  clear hx1 hw1 hkx B1 H1
  refine wp_region_noPanic ?_
  refine wp_region_late (J := fun i => i != 99) (S := fun W => W.cell? ⟨gw, 1, none⟩ = some (.pointer (some ⟨gp, 0, none⟩)) ∧ W.cell? ⟨kx, 0, none⟩ = some (.int .i64 a) ∧ W.cell? ⟨kx, 1, none⟩ = some (.int .i64 b)) (by kernel_rfl) ⟨c1, p0, p1⟩ (fun hHeld => ?_)
  refine' wpAnyJ_takeW (i := 0) (oi := { dst := some 6, op := Op.move (Operand.tmp 0), type := 26, pos := "world.go:53", after := #[], guard := none }) (v := _) rfl (by kernel_rfl) (by kernel_rfl) (by kernel_rfl) (fun _ _ _ h => h) (Or.inl ⟨by rfl, ?hyA1⟩) ?reA1
  case hyA1 => (intro W hSw; (try dsimp only at hSw); go_simp; try with_reducible rfl)
  try simp only [Act.put, List.setIfInBounds_toArray, List.set_cons_zero, List.set_cons_succ]
  refine' wpAnyJ_takeW (i := 1) (oi := { dst := some 7, op := Op.nilCheck (Operand.tmp 6), type := 0, pos := "world.go:53", after := #[{ on := 0, ground := Ground.data }], guard := none }) (v := _) rfl (by kernel_rfl) (by kernel_rfl) (by kernel_rfl) (fun _ _ _ h => h) (Or.inl ⟨by rfl, ?hyA2⟩) ?reA2
  case hyA2 => (intro W hSw; (try dsimp only at hSw); go_simp; try with_reducible rfl)
  try simp only [Act.put, List.setIfInBounds_toArray, List.set_cons_zero, List.set_cons_succ]
  refine' wpAnyJ_takeW (i := 2) (oi := { dst := some 8, op := Op.fieldAddr 63 (Operand.tmp 7) 1, type := 0, pos := "world.go:53", after := #[{ on := 1, ground := Ground.data }], guard := none }) (v := _) rfl (by kernel_rfl) (by kernel_rfl) (by kernel_rfl) (fun _ _ _ h => h) (Or.inl ⟨by rfl, ?hyA3⟩) ?reA3
  case hyA3 => (intro W hSw; (try dsimp only at hSw); go_simp; try with_reducible rfl)
  try simp only [Act.put, List.setIfInBounds_toArray, List.set_cons_zero, List.set_cons_succ]
  refine' wpAnyJ_take (i := 3) (oi := { dst := some 9, op := Op.load 56 (Operand.tmp 8), type := 56, pos := "world.go:53", after := #[{ on := 2, ground := Ground.data }], guard := none }) (v := _) rfl (by kernel_rfl) (by kernel_rfl) (by kernel_rfl) (by kernel_rfl) (fun _ _ _ h => h) (Or.inl ⟨by rfl, ?hyA4⟩) (by assumption) ?reA4
  case hyA4 => (intro W hSw; (try dsimp only at hSw); go_simp; try with_reducible rfl)
  try simp only [Act.put, List.setIfInBounds_toArray, List.set_cons_zero, List.set_cons_succ]
  refine' wpAnyJ_take (i := 4) (oi := { dst := some 10, op := Op.load 36 (Operand.tmp 3), type := 36, pos := "world.go:53", after := #[], guard := none }) (v := _) rfl (by kernel_rfl) (by kernel_rfl) (by kernel_rfl) (by kernel_rfl) (fun _ _ _ h => h) (Or.inl ⟨by rfl, ?hyA5⟩) (by assumption) ?reA5
  case hyA5 => (intro W hSw; (try dsimp only at hSw); go_simp; try with_reducible rfl)
  try simp only [Act.put, List.setIfInBounds_toArray, List.set_cons_zero, List.set_cons_succ]
  refine wpAnyJ_ready (rs := [5]) (by kernel_rfl) (by simp) ?_
  refine AllReadyJ.cons (o := { dst := some 11, op := Op.call { callee := Callee.value (Operand.func 54), args := #[Operand.tmp 9, Operand.tmp 10], argTypes := #[56, 36] }, type := 27, pos := "world.go:53", after := #[{ on := 3, ground := Ground.data }, { on := 4, ground := Ground.data }], guard := none }) rfl (fun K hK => ?_) AllReadyJ.nil
  go_simp
  go_at_call 54
  refine J.out.mono ?_
  rintro e w2 ⟨rfl, ⟨o2, H2⟩, y1, y2, y3⟩
  go_simp
  refine hK.out _ _ (fun _ _ => ⟨y1, y2, y3⟩) ?_
  clear hK K
  try simp only [Act.put, List.setIfInBounds_toArray, List.set_cons_zero, List.set_cons_succ]
  refine' wpAnyJ_takeW (i := 6) (oi := { dst := some 5, op := Op.assign (Operand.tmp 11), type := 27, pos := "world.go:53", after := #[{ on := 5, ground := Ground.data }, { on := 5, ground := Ground.chain }, { on := 0, ground := Ground.phase }, { on := 1, ground := Ground.phase }, { on := 2, ground := Ground.phase }, { on := 3, ground := Ground.phase }, { on := 4, ground := Ground.phase }, { on := 5, ground := Ground.phase }], guard := none }) (v := _) rfl (by kernel_rfl) (by kernel_rfl) (by kernel_rfl) (fun _ _ _ h => h) (Or.inl ⟨by rfl, ?hyA6⟩) ?reA6
  case hyA6 => (intro W hSw; (try dsimp only at hSw); go_simp; try with_reducible rfl)
  try simp only [Act.put, List.setIfInBounds_toArray, List.set_cons_zero, List.set_cons_succ]
  refine wpAnyJ_done (by kernel_rfl) ?_ _
  refine NoPanic.normal ?_
  clear J c1 p0 p1
  have J2 := hide (JD.out o2 w2 H2.out)
  clear JD H2
  go_wp2_with fail
  refine J2.out.mono ?_
  rintro e w3 ⟨rfl, HE⟩
  have HE2 := hide HE
  clear HE
  go_wp2_with fail
  go_ret
  exact ⟨rfl, HE2.out⟩
end
end Go.Proofs.YtiolaenkfhcajaaGreat
