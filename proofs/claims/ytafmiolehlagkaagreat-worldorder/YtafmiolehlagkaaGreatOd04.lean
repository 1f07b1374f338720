import Derived.Test.YtafmiolehlagkaaGreatOd03
import Derived.Shelf.SlSortCmp.InsertionK
import Derived.Test.YtafmiolehlagkaaGreatOd02
/-
  World: who lives; an entity goes.
-/
namespace Go.Proofs.YtafmiolehlagkaaGreat
open Go.RowKit
set_option maxRecDepth 100000
theorem Pl.tight {w : World} {S : Nat → Prop} {g n : Nat} {gs fr : List Nat} (h : Pl w S g n gs fr) : Pl w (fun k => S k ∧ k < w.heap.size) g n gs fr := by
  obtain ⟨⟨vg, vl, vf, hp, s0, s1, s2, s3⟩, ho⟩ := h
  exact ⟨⟨vg, vl, vf, hp, ⟨s0, hp.lt⟩, fun k e => ⟨s1 k e, (hp.2.1.lt k e).2⟩, fun k e => ⟨s2 k e, (hp.2.2.1.lt k e).2⟩, fun k e => ⟨s3 k e, (hp.2.2.2.1.lt k e).2⟩⟩, ho⟩
section
variable {w w' : World} {own : Nat → Nat} {gw gp gm gt M M' : Nat} {vk : Value} {ks : List Kind} {gs fr gs' fr' : List Nat} {f f' : Int × Int → Option Nat} {q q' : Nat → Option Nat} {T T' : Nat → Ts}
theorem Wx.pool' (h : Wx 0 w own gw vk gp gm gt M ks gs fr f q T) (hm : Mv w w' (Lb own w 3)) (ht : Pl w' (Nw w (Lb own w 3)) gp 200 gs' fr') : Wx 0 w' (rel own w 3) gw vk gp gm gt M ks gs' fr' f q T := h.pool hm (ht.tight.mono (fun _ e => Lb.of_new e.1 e.2))
set_option maxHeartbeats 1000000 in
theorem wlives_any (h : Wx 0 w own gw vk gp gm gt M ks gs fr f q T) (a b : Int) : Calls Tryz.prog 32 #[.pointer (some ⟨gw, 0, none⟩), .agg #[.int .i64 a, .int .i64 b]] w fun e w' => e = .returned (.bool (livesOf gs fr a b)) ∧ Below w.heap.size w w' := by
  obtain ⟨w1, hw1⟩ : ∃ X, X = w.alloc (.cells #[.int .i64 a, .int .i64 b] 29) := ⟨_, rfl⟩
  have B1 : Below w.heap.size w w1 := hw1 ▸ below_alloc w _
  have hx1 : w1.heap[w.heap.size]? = some (.cells #[.int .i64 a, .int .i64 b] 29 (0, 0)) := hw1 ▸ heap_alloc_new w _
  have H1 := hide (h.later B1)
  have HB1 := hide B1
  have J : Hid (Calls Tryz.prog 87 #[.pointer (some ⟨gp, 0, none⟩), .agg #[.int .i64 a, .int .i64 b]] w1.drew fun e w' => e = .returned (.bool (livesOf gs fr a b)) ∧ Below w1.drew.heap.size w1.drew w') := lives_any a b (H1.out.pl.later (below_drew w1))
  clear h
  generalize livesOf gs fr a b = r at *
  go_enter Tryz.func32, Tryz.ntmps32
  go_upto_region 1 with fail
  rw [← hw1]
  obtain ⟨kx, hkx⟩ : ∃ k, k = w.heap.size := ⟨_, rfl⟩
  rw [← hkx] at hx1 ⊢
  obtain ⟨p0, p1⟩ := kx_cells hx1 (Below.refl _ w1)
  obtain ⟨-, c1, -, -⟩ := H1.out.cells
  have HX1 := hide hx1
  clear hx1 hw1 hkx B1
  refine wp_region_noPanic ?_
  refine wp_region_late (J := fun i => i != 99) (S := fun W => W.cell? ⟨gw, 1, none⟩ = some (.pointer (some ⟨gp, 0, none⟩)) ∧ W.cell? ⟨kx, 0, none⟩ = some (.int .i64 a) ∧ W.cell? ⟨kx, 1, none⟩ = some (.int .i64 b)) (by kernel_rfl) ⟨c1, p0, p1⟩ (fun hHeld => ?_)
  refine' wpAnyJ_takeW (i := 0) (oi := { dst := some 5, op := Op.move (Operand.tmp 0), type := 37, pos := "world.go:122", after := #[], guard := none }) (v := _) rfl (by kernel_rfl) (by kernel_rfl) (by kernel_rfl) (fun _ _ _ h => h) (Or.inl ⟨by rfl, ?hyA1⟩) ?reA1
  case hyA1 => (intro W hSw; (try dsimp only at hSw); go_simp; try with_reducible rfl)
  try simp only [Act.put, List.setIfInBounds_toArray, List.set_cons_zero, List.set_cons_succ]
  refine' wpAnyJ_takeW (i := 1) (oi := { dst := some 6, op := Op.nilCheck (Operand.tmp 5), type := 0, pos := "world.go:122", after := #[{ on := 0, ground := Ground.data }], guard := none }) (v := _) rfl (by kernel_rfl) (by kernel_rfl) (by kernel_rfl) (fun _ _ _ h => h) (Or.inl ⟨by rfl, ?hyA2⟩) ?reA2
  case hyA2 => (intro W hSw; (try dsimp only at hSw); go_simp; try with_reducible rfl)
  try simp only [Act.put, List.setIfInBounds_toArray, List.set_cons_zero, List.set_cons_succ]
  refine' wpAnyJ_takeW (i := 2) (oi := { dst := some 7, op := Op.fieldAddr 109 (Operand.tmp 6) 1, type := 0, pos := "world.go:122", after := #[{ on := 1, ground := Ground.data }], guard := none }) (v := _) rfl (by kernel_rfl) (by kernel_rfl) (by kernel_rfl) (fun _ _ _ h => h) (Or.inl ⟨by rfl, ?hyA3⟩) ?reA3
  case hyA3 => (intro W hSw; (try dsimp only at hSw); go_simp; try with_reducible rfl)
  try simp only [Act.put, List.setIfInBounds_toArray, List.set_cons_zero, List.set_cons_succ]
  refine' wpAnyJ_take (i := 3) (oi := { dst := some 8, op := Op.load 105 (Operand.tmp 7), type := 105, pos := "world.go:122", after := #[{ on := 2, ground := Ground.data }], guard := none }) (v := _) rfl (by kernel_rfl) (by kernel_rfl) (by kernel_rfl) (by kernel_rfl) (fun _ _ _ h => h) (Or.inl ⟨by rfl, ?hyA4⟩) (by assumption) ?reA4
  case hyA4 => (intro W hSw; (try dsimp only at hSw); go_simp; try with_reducible rfl)
  try simp only [Act.put, List.setIfInBounds_toArray, List.set_cons_zero, List.set_cons_succ]
  refine' wpAnyJ_take (i := 4) (oi := { dst := some 9, op := Op.load 29 (Operand.tmp 3), type := 29, pos := "world.go:122", after := #[], guard := none }) (v := _) rfl (by kernel_rfl) (by kernel_rfl) (by kernel_rfl) (by kernel_rfl) (fun _ _ _ h => h) (Or.inl ⟨by rfl, ?hyA5⟩) (by assumption) ?reA5
  case hyA5 => (intro W hSw; (try dsimp only at hSw); go_simp; try with_reducible rfl)
  try simp only [Act.put, List.setIfInBounds_toArray, List.set_cons_zero, List.set_cons_succ]
  refine wpAnyJ_ready (rs := [5]) (by kernel_rfl) (by simp) ?_
  refine AllReadyJ.cons (o := { dst := some 10, op := Op.call { callee := Callee.value (Operand.func 87), args := #[Operand.tmp 8, Operand.tmp 9], argTypes := #[105, 29] }, type := 4, pos := "world.go:122", after := #[{ on := 3, ground := Ground.data }, { on := 4, ground := Ground.data }], guard := none }) rfl (fun K hK => ?_) AllReadyJ.nil
  go_simp
  go_at_call 87
  refine J.out.mono ?_
  rintro e w2 ⟨rfl, B2⟩
  go_simp
  refine hK.out _ _ (fun _ _ => ⟨(B2.cell (p := ⟨gw, 1, none⟩) (World.block_lt_of_cell? _ _ c1)).trans c1, kx_cells (w := w1.drew) HX1.out B2⟩) ?_
  clear hK K
  try simp only [Act.put, List.setIfInBounds_toArray, List.set_cons_zero, List.set_cons_succ]
  refine' wpAnyJ_takeW (i := 6) (oi := { dst := some 4, op := Op.assign (Operand.tmp 10), type := 4, pos := "world.go:122", after := #[{ on := 5, ground := Ground.data }, { on := 5, ground := Ground.chain }, { on := 0, ground := Ground.phase }, { on := 1, ground := Ground.phase }, { on := 2, ground := Ground.phase }, { on := 3, ground := Ground.phase }, { on := 4, ground := Ground.phase }, { on := 5, ground := Ground.phase }], guard := none }) (v := _) rfl (by kernel_rfl) (by kernel_rfl) (by kernel_rfl) (fun _ _ _ h => h) (Or.inl ⟨by rfl, ?hyA6⟩) ?reA6
  case hyA6 => (intro W hSw; (try dsimp only at hSw); go_simp; try with_reducible rfl)
  try simp only [Act.put, List.setIfInBounds_toArray, List.set_cons_zero, List.set_cons_succ]
  refine wpAnyJ_done (by kernel_rfl) ?_ _
  refine NoPanic.normal ?_
  go_wp2_with fail
  go_ret
  exact ⟨rfl, below_on HB1.out (below_on (below_drew w1) B2)⟩
set_option maxHeartbeats 2000000 in
theorem despawn_stale (h : Wx 0 w own gw vk gp gm gt M ks gs fr f q T) (a b : Int) (hl : livesOf gs fr a b = false) : Calls Tryz.prog 31 #[.pointer (some ⟨gw, 0, none⟩), .agg #[.int .i64 a, .int .i64 b]] w fun e w' => e = .returned (.int .i64 41) ∧ Below w.heap.size w w' := by
  obtain ⟨w1, hw1⟩ : ∃ X, X = w.alloc (.cells #[.int .i64 a, .int .i64 b] 29) := ⟨_, rfl⟩
  have B1 : Below w.heap.size w w1 := hw1 ▸ below_alloc w _
  have hx1 : w1.heap[w.heap.size]? = some (.cells #[.int .i64 a, .int .i64 b] 29 (0, 0)) := hw1 ▸ heap_alloc_new w _
  have H1 := hide (h.later B1)
  have HB1 := hide B1
  have J : Hid (Calls Tryz.prog 86 #[.pointer (some ⟨gp, 0, none⟩), .agg #[.int .i64 a, .int .i64 b]] w1.drew fun e w' => e = .returned (.int .i64 41) ∧ Below w1.drew.heap.size w1.drew w') := give_stale a b (H1.out.pl.later (below_drew w1)) hl
  clear h hl
  go_enter Tryz.func31, Tryz.ntmps31
  go_upto_region 1 with fail
  rw [← hw1]
  obtain ⟨kx, hkx⟩ : ∃ k, k = w.heap.size := ⟨_, rfl⟩
  rw [← hkx] at hx1 ⊢
  obtain ⟨p0, p1⟩ := kx_cells hx1 (Below.refl _ w1)
  obtain ⟨-, c1, -, -⟩ := H1.out.cells
  have HX1 := hide hx1
  clear hx1 hw1 hkx B1
  refine wp_region_noPanic ?_
  refine wp_region_late (J := fun i => i != 99) (S := fun W => W.cell? ⟨gw, 1, none⟩ = some (.pointer (some ⟨gp, 0, none⟩)) ∧ W.cell? ⟨kx, 0, none⟩ = some (.int .i64 a) ∧ W.cell? ⟨kx, 1, none⟩ = some (.int .i64 b)) (by kernel_rfl) ⟨c1, p0, p1⟩ (fun hHeld => ?_)
  refine' wpAnyJ_takeW (i := 0) (oi := { dst := some 6, op := Op.move (Operand.tmp 0), type := 37, pos := "world.go:53", after := #[], guard := none }) (v := _) rfl (by kernel_rfl) (by kernel_rfl) (by kernel_rfl) (fun _ _ _ h => h) (Or.inl ⟨by rfl, ?hyA1⟩) ?reA1
  case hyA1 => (intro W hSw; (try dsimp only at hSw); go_simp; try with_reducible rfl)
  try simp only [Act.put, List.setIfInBounds_toArray, List.set_cons_zero, List.set_cons_succ]
  refine' wpAnyJ_takeW (i := 1) (oi := { dst := some 7, op := Op.nilCheck (Operand.tmp 6), type := 0, pos := "world.go:53", after := #[{ on := 0, ground := Ground.data }], guard := none }) (v := _) rfl (by kernel_rfl) (by kernel_rfl) (by kernel_rfl) (fun _ _ _ h => h) (Or.inl ⟨by rfl, ?hyA2⟩) ?reA2
  case hyA2 => (intro W hSw; (try dsimp only at hSw); go_simp; try with_reducible rfl)
  try simp only [Act.put, List.setIfInBounds_toArray, List.set_cons_zero, List.set_cons_succ]
  refine' wpAnyJ_takeW (i := 2) (oi := { dst := some 8, op := Op.fieldAddr 109 (Operand.tmp 7) 1, type := 0, pos := "world.go:53", after := #[{ on := 1, ground := Ground.data }], guard := none }) (v := _) rfl (by kernel_rfl) (by kernel_rfl) (by kernel_rfl) (fun _ _ _ h => h) (Or.inl ⟨by rfl, ?hyA3⟩) ?reA3
  case hyA3 => (intro W hSw; (try dsimp only at hSw); go_simp; try with_reducible rfl)
  try simp only [Act.put, List.setIfInBounds_toArray, List.set_cons_zero, List.set_cons_succ]
  refine' wpAnyJ_take (i := 3) (oi := { dst := some 9, op := Op.load 105 (Operand.tmp 8), type := 105, pos := "world.go:53", after := #[{ on := 2, ground := Ground.data }], guard := none }) (v := _) rfl (by kernel_rfl) (by kernel_rfl) (by kernel_rfl) (by kernel_rfl) (fun _ _ _ h => h) (Or.inl ⟨by rfl, ?hyA4⟩) (by assumption) ?reA4
  case hyA4 => (intro W hSw; (try dsimp only at hSw); go_simp; try with_reducible rfl)
  try simp only [Act.put, List.setIfInBounds_toArray, List.set_cons_zero, List.set_cons_succ]
  refine' wpAnyJ_take (i := 4) (oi := { dst := some 10, op := Op.load 29 (Operand.tmp 3), type := 29, pos := "world.go:53", after := #[], guard := none }) (v := _) rfl (by kernel_rfl) (by kernel_rfl) (by kernel_rfl) (by kernel_rfl) (fun _ _ _ h => h) (Or.inl ⟨by rfl, ?hyA5⟩) (by assumption) ?reA5
  case hyA5 => (intro W hSw; (try dsimp only at hSw); go_simp; try with_reducible rfl)
  try simp only [Act.put, List.setIfInBounds_toArray, List.set_cons_zero, List.set_cons_succ]
  refine wpAnyJ_ready (rs := [5]) (by kernel_rfl) (by simp) ?_
  refine AllReadyJ.cons (o := { dst := some 11, op := Op.call { callee := Callee.value (Operand.func 86), args := #[Operand.tmp 9, Operand.tmp 10], argTypes := #[105, 29] }, type := 61, pos := "world.go:53", after := #[{ on := 3, ground := Ground.data }, { on := 4, ground := Ground.data }], guard := none }) rfl (fun K hK => ?_) AllReadyJ.nil
  go_simp
  go_at_call 86
  refine J.out.mono ?_
  rintro e w2 ⟨rfl, B2⟩
  go_simp
  refine hK.out _ _ (fun _ _ => ⟨(B2.cell (p := ⟨gw, 1, none⟩) (World.block_lt_of_cell? _ _ c1)).trans c1, kx_cells (w := w1.drew) HX1.out B2⟩) ?_
  clear hK K
  try simp only [Act.put, List.setIfInBounds_toArray, List.set_cons_zero, List.set_cons_succ]
  refine' wpAnyJ_takeW (i := 6) (oi := { dst := some 5, op := Op.assign (Operand.tmp 11), type := 61, pos := "world.go:53", after := #[{ on := 5, ground := Ground.data }, { on := 5, ground := Ground.chain }, { on := 0, ground := Ground.phase }, { on := 1, ground := Ground.phase }, { on := 2, ground := Ground.phase }, { on := 3, ground := Ground.phase }, { on := 4, ground := Ground.phase }, { on := 5, ground := Ground.phase }], guard := none }) (v := _) rfl (by kernel_rfl) (by kernel_rfl) (by kernel_rfl) (fun _ _ _ h => h) (Or.inl ⟨by rfl, ?hyA6⟩) ?reA6
  case hyA6 => (intro W hSw; (try dsimp only at hSw); go_simp; try with_reducible rfl)
  try simp only [Act.put, List.setIfInBounds_toArray, List.set_cons_zero, List.set_cons_succ]
  refine wpAnyJ_done (by kernel_rfl) ?_ _
  refine NoPanic.normal ?_
  go_wp2_with fail
  go_ret
  exact ⟨rfl, below_on HB1.out (below_on (below_drew w1) B2)⟩
/-- What Give makes of what State tells. -/
def giveG (gs : List Nat) (i : Nat) : List Nat := if gs.getD i 0 = 1000000 then gs.set i 1000001 else gs
def giveF (gs fr : List Nat) (i : Nat) : List Nat := if gs.getD i 0 = 1000000 then fr else fr ++ [i]
set_option maxHeartbeats 2000000 in
theorem despawn_live (h : Wx 0 w own gw vk gp gm gt M ks gs fr f q T) (i : Nat) (a b : Int) (ha : a = (i : Int)) (hb : b = ((gs.getD i 0 : Nat) : Int)) (hi : i < gs.length) (hl : gs.getD i 0 ≤ 1000000) (hfr : i ∉ fr) (s g r : Nat) (hf : f (a, b) = some s) (hq : q s = some g) (hs : s < 8192) (hr : r < (T s).1.length) (hx : (T s).1[r] = (a, b)) (hM : M ≤ 900000) (hi2 : i ≤ 1000000) :
    Calls Tryz.prog 31 #[.pointer (some ⟨gw, 0, none⟩), .agg #[.int .i64 a, .int .i64 b]] w fun e w' => e = .returned (.int .i64 0) ∧ ∃ own', Wx 0 w' own' gw vk gp gm gt (M + 1) ks (giveG gs i) (giveF gs fr i) (fun x => if x = (a, b) then none else f x) (lessQ q T s) (lessT T s r) ∧ Wk own own' w w' := by
  have hib : InB (a, b) := by
    subst ha hb
    unfold InB
    dsimp only
    omega
  obtain ⟨w1, hw1⟩ : ∃ X, X = w.alloc (.cells #[.int .i64 a, .int .i64 b] 29) := ⟨_, rfl⟩
  have B1 : Below w.heap.size w w1 := hw1 ▸ below_alloc w _
  have hx1 : w1.heap[w.heap.size]? = some (.cells #[.int .i64 a, .int .i64 b] 29 (0, 0)) := hw1 ▸ heap_alloc_new w _
  have H1 := hide (h.later B1)
  have K1 : Hid (Wk own (rel own w 0) w w1) := Wk.later B1
  have J : Hid (Calls Tryz.prog 86 #[.pointer (some ⟨gp, 0, none⟩), .agg #[.int .i64 a, .int .i64 b]] w1.drew fun e w' => e = .returned (.int .i64 0) ∧ (∃ o2, Hid (Wx 0 w' o2 gw vk gp gm gt M ks (giveG gs i) (giveF gs fr i) f q T ∧ Wk own o2 w w')) ∧ w'.cell? ⟨gw, 1, none⟩ = some (.pointer (some ⟨gp, 0, none⟩)) ∧ w'.cell? ⟨w.heap.size, 0, none⟩ = some (.int .i64 a) ∧ w'.cell? ⟨w.heap.size, 1, none⟩ = some (.int .i64 b)) := by
    have h2 := H1.out.later (below_drew w1)
    have g1 := give_live h2.pl hi hl hfr
    unfold ev at g1
    rw [← ha, ← hb] at g1
    refine g1.mono ?_
    rintro e w2 ⟨rfl, g2, g3⟩
    have h3 := h2.pool' g3 g2
    have hkx : rel (rel own w 0) w1 0 w.heap.size = 0 := (rel_old (lt_of_block hx1)).trans (rel_new (Nat.le_refl _))
    refine ⟨rfl, ⟨_, h3, (K1.out.trans (Wk.later (below_drew w1))).trans (Wk.of g3 (fun k _ e => by have := e.2; omega))⟩, h3.cells.2.1, ?_⟩
    exact kx_cells (g3.at (w := w1.drew) hx1 (fun e => by have := e.2; rw [hkx] at this; omega)) (Below.refl _ _)
  have JD : Hid (∀ (o2 : Nat → Nat) (W : World), Wx 0 W o2 gw vk gp gm gt M ks (giveG gs i) (giveF gs fr i) f q T ∧ Wk own o2 w W → Calls Tryz.prog 80 #[.pointer (some ⟨gw, 0, none⟩), .agg #[.int .i64 a, .int .i64 b]] W fun e w' => e = .returned (.tuple #[]) ∧ ∃ own', Wx 0 w' own' gw vk gp gm gt (M + 1) ks (giveG gs i) (giveF gs fr i) (fun x => if x = (a, b) then none else f x) (lessQ q T s) (lessT T s r) ∧ Wk own own' w w') := fun o2 W hW =>
    (drop_any hW.1 a b hib s g r hf hq hs hr hx hM).mono (fun _e _w' ⟨h1, o3, h3, h4⟩ => ⟨h1, o3, h3, hW.2.trans h4⟩)
  clear h hf hq hs hr hx hM hi2 hib ha hb hi hl hfr K1
  go_enter Tryz.func31, Tryz.ntmps31
  go_upto_region 1 with fail
  rw [← hw1]
  obtain ⟨kx, hkx⟩ : ∃ k, k = w.heap.size := ⟨_, rfl⟩
  rw [← hkx] at hx1 J ⊢
  obtain ⟨p0, p1⟩ := kx_cells hx1 (Below.refl _ w1)
  obtain ⟨-, c1, -, -⟩ := H1.out.cells
  clear hx1 hw1 hkx B1 H1
  refine wp_region_noPanic ?_
  refine wp_region_late (J := fun i => i != 99) (S := fun W => W.cell? ⟨gw, 1, none⟩ = some (.pointer (some ⟨gp, 0, none⟩)) ∧ W.cell? ⟨kx, 0, none⟩ = some (.int .i64 a) ∧ W.cell? ⟨kx, 1, none⟩ = some (.int .i64 b)) (by kernel_rfl) ⟨c1, p0, p1⟩ (fun hHeld => ?_)
  refine' wpAnyJ_takeW (i := 0) (oi := { dst := some 6, op := Op.move (Operand.tmp 0), type := 37, pos := "world.go:53", after := #[], guard := none }) (v := _) rfl (by kernel_rfl) (by kernel_rfl) (by kernel_rfl) (fun _ _ _ h => h) (Or.inl ⟨by rfl, ?hyA1⟩) ?reA1
  case hyA1 => (intro W hSw; (try dsimp only at hSw); go_simp; try with_reducible rfl)
  try simp only [Act.put, List.setIfInBounds_toArray, List.set_cons_zero, List.set_cons_succ]
  refine' wpAnyJ_takeW (i := 1) (oi := { dst := some 7, op := Op.nilCheck (Operand.tmp 6), type := 0, pos := "world.go:53", after := #[{ on := 0, ground := Ground.data }], guard := none }) (v := _) rfl (by kernel_rfl) (by kernel_rfl) (by kernel_rfl) (fun _ _ _ h => h) (Or.inl ⟨by rfl, ?hyA2⟩) ?reA2
  case hyA2 => (intro W hSw; (try dsimp only at hSw); go_simp; try with_reducible rfl)
  try simp only [Act.put, List.setIfInBounds_toArray, List.set_cons_zero, List.set_cons_succ]
  refine' wpAnyJ_takeW (i := 2) (oi := { dst := some 8, op := Op.fieldAddr 109 (Operand.tmp 7) 1, type := 0, pos := "world.go:53", after := #[{ on := 1, ground := Ground.data }], guard := none }) (v := _) rfl (by kernel_rfl) (by kernel_rfl) (by kernel_rfl) (fun _ _ _ h => h) (Or.inl ⟨by rfl, ?hyA3⟩) ?reA3
  case hyA3 => (intro W hSw; (try dsimp only at hSw); go_simp; try with_reducible rfl)
  try simp only [Act.put, List.setIfInBounds_toArray, List.set_cons_zero, List.set_cons_succ]
  refine' wpAnyJ_take (i := 3) (oi := { dst := some 9, op := Op.load 105 (Operand.tmp 8), type := 105, pos := "world.go:53", after := #[{ on := 2, ground := Ground.data }], guard := none }) (v := _) rfl (by kernel_rfl) (by kernel_rfl) (by kernel_rfl) (by kernel_rfl) (fun _ _ _ h => h) (Or.inl ⟨by rfl, ?hyA4⟩) (by assumption) ?reA4
  case hyA4 => (intro W hSw; (try dsimp only at hSw); go_simp; try with_reducible rfl)
  try simp only [Act.put, List.setIfInBounds_toArray, List.set_cons_zero, List.set_cons_succ]
  refine' wpAnyJ_take (i := 4) (oi := { dst := some 10, op := Op.load 29 (Operand.tmp 3), type := 29, pos := "world.go:53", after := #[], guard := none }) (v := _) rfl (by kernel_rfl) (by kernel_rfl) (by kernel_rfl) (by kernel_rfl) (fun _ _ _ h => h) (Or.inl ⟨by rfl, ?hyA5⟩) (by assumption) ?reA5
  case hyA5 => (intro W hSw; (try dsimp only at hSw); go_simp; try with_reducible rfl)
  try simp only [Act.put, List.setIfInBounds_toArray, List.set_cons_zero, List.set_cons_succ]
  refine wpAnyJ_ready (rs := [5]) (by kernel_rfl) (by simp) ?_
  refine AllReadyJ.cons (o := { dst := some 11, op := Op.call { callee := Callee.value (Operand.func 86), args := #[Operand.tmp 9, Operand.tmp 10], argTypes := #[105, 29] }, type := 61, pos := "world.go:53", after := #[{ on := 3, ground := Ground.data }, { on := 4, ground := Ground.data }], guard := none }) rfl (fun K hK => ?_) AllReadyJ.nil
  go_simp
  go_at_call 86
  refine J.out.mono ?_
  rintro e w2 ⟨rfl, ⟨o2, H2⟩, y1, y2, y3⟩
  go_simp
  refine hK.out _ _ (fun _ _ => ⟨y1, y2, y3⟩) ?_
  clear hK K
  try simp only [Act.put, List.setIfInBounds_toArray, List.set_cons_zero, List.set_cons_succ]
  refine' wpAnyJ_takeW (i := 6) (oi := { dst := some 5, op := Op.assign (Operand.tmp 11), type := 61, pos := "world.go:53", after := #[{ on := 5, ground := Ground.data }, { on := 5, ground := Ground.chain }, { on := 0, ground := Ground.phase }, { on := 1, ground := Ground.phase }, { on := 2, ground := Ground.phase }, { on := 3, ground := Ground.phase }, { on := 4, ground := Ground.phase }, { on := 5, ground := Ground.phase }], guard := none }) (v := _) rfl (by kernel_rfl) (by kernel_rfl) (by kernel_rfl) (fun _ _ _ h => h) (Or.inl ⟨by rfl, ?hyA6⟩) ?reA6
  case hyA6 => (intro W hSw; (try dsimp only at hSw); go_simp; try with_reducible rfl)
  try simp only [Act.put, List.setIfInBounds_toArray, List.set_cons_zero, List.set_cons_succ]
  refine wpAnyJ_done (by kernel_rfl) ?_ _
  refine NoPanic.normal ?_
  clear J c1 p0 p1
  have J2 := hide (JD.out o2 w2 H2.out)
  clear JD H2
  go_wp2_with fail
  refine J2.out.mono ?_
  rintro e w3 ⟨rfl, HE⟩
  have HE2 := hide HE
  clear HE
  go_wp2_with fail
  go_ret
  exact ⟨rfl, HE2.out⟩
end
end Go.Proofs.YtafmiolehlagkaaGreat

/-
  World: parts are put in order by their kinds (slices.SortFunc at twelve or fewer).
-/
namespace Go.Proofs.YtafmiolehlagkaaGreat
open Go.RowKit Go.Shelf Go.Lib Go.Sort
set_option maxRecDepth 100000
set_option maxHeartbeats 1000000 in
theorem isnan_any (x : Int) (w : World) : Calls Tryz.prog 155 #[.int .i64 x] w fun e w' => e = .returned (.bool false) ∧ w' = w := by
  go_enter Tryz.func155, Tryz.ntmps155
  go_wp2_with fail
  go_ret
  exact ⟨rfl, rfl⟩
set_option maxHeartbeats 1000000 in
theorem cmp_any (x y : Int) (w : World) : Calls Tryz.prog 84 #[.int .i64 x, .int .i64 y] w fun e w' => e = .returned (.int .i64 (Lib.compareInt x y)) ∧ w' = w := by
  have J1 := fun W => isnan_any x W
  have J2 := fun W => isnan_any y W
  have J1 := hide J1
  have J2 := hide J2
  by_cases h1 : x < y
  · have e1 : Lib.compareInt x y = -1 := by unfold Lib.compareInt; rw [if_pos h1]
    rw [e1]
    go_enter Tryz.func84, Tryz.ntmps84
    go_wp2_with fail
    refine (J1.out _).mono ?_
    rintro e w' ⟨rfl, rfl⟩
    go_wp2_with fail
    refine (J2.out _).mono ?_
    rintro e w' ⟨rfl, rfl⟩
    go_wp2_with fail
    go_ret
    exact ⟨rfl, rfl⟩
  · by_cases h2 : x > y
    · have e1 : Lib.compareInt x y = 1 := by unfold Lib.compareInt; rw [if_neg h1, if_pos h2]
      rw [e1]
      go_enter Tryz.func84, Tryz.ntmps84
      go_wp2_with fail
      refine (J1.out _).mono ?_
      rintro e w' ⟨rfl, rfl⟩
      go_wp2_with fail
      refine (J2.out _).mono ?_
      rintro e w' ⟨rfl, rfl⟩
      go_wp2_with fail
      go_ret
      exact ⟨rfl, rfl⟩
    · have e1 : Lib.compareInt x y = 0 := by unfold Lib.compareInt; rw [if_neg h1, if_neg h2]
      rw [e1]
      go_enter Tryz.func84, Tryz.ntmps84
      go_wp2_with fail
      refine (J1.out _).mono ?_
      rintro e w' ⟨rfl, rfl⟩
      go_wp2_with fail
      refine (J2.out _).mono ?_
      rintro e w' ⟨rfl, rfl⟩
      go_wp2_with fail
      go_ret
      exact ⟨rfl, rfl⟩
/-- A part's two cells: its kind, where its values lie. -/
abbrev Pt := Int × Option Addr × Nat × Nat
def encP (p : Pt) : List Value := [.int .i64 p.1, .slice p.2.1 p.2.2.1 p.2.2.2]
def cfP (p r : Pt) : Int := Lib.compareInt p.1 r.1
set_option maxHeartbeats 1000000 in
theorem byKind_any (p r : Pt) (w : World) : Calls Tryz.prog 137 #[.agg (encP p).toArray, .agg (encP r).toArray] w fun e w' => e = .returned (.int .i64 (cfP p r)) ∧ ∃ q os', w' = grow (w.drewN q) os' := by
  obtain ⟨x, ax, nx, cx⟩ := p
  obtain ⟨y, ay, ny, cy⟩ := r
  unfold encP cfP
  dsimp only
  have J := fun W => cmp_any x y W
  have J := hide J
  generalize Lib.compareInt x y = z at *
  go_enter Tryz.func137, Tryz.ntmps137
  go_wp2_with fail
  refine (J.out _).mono ?_
  rintro e w' ⟨rfl, rfl⟩
  go_wp2_with fail
  go_ret
  exact ⟨rfl, 0, _, by rw [alloc_eq_grow, alloc_eq_grow, grow_grow]; rfl⟩
def renP : Ren := ⟨fun x => if x = 20 then 202 else x, fun x => if x = 22 then 33 else if x = 24 then 32 else if x = 25 then 190 else x, fun x => x⟩
set_option maxHeartbeats 4000000 in
theorem laidP : SlLaysF0.n20 Tryz.prog renP where
  mixed := by kernel_rfl
  f20 := ⟨"slices.insertionSortCmpFunc[hindcast/api.Part]", by decide, by kernel_rfl⟩
  t0 := by kernel_rfl
  a0 := fun w => by kernel_rfl
  z0 := fun w => by kernel_rfl
  v0 := fun w => by kernel_rfl
  t3 := by kernel_rfl
  a3 := fun w => by kernel_rfl
  z3 := fun w => by kernel_rfl
  v3 := fun w => by kernel_rfl
  t4 := by kernel_rfl
  a4 := fun w => by kernel_rfl
  z4 := fun w => by kernel_rfl
  v4 := fun w => by kernel_rfl
  t22 := by kernel_rfl
  a22 := fun w => by kernel_rfl
  z22 := fun w => by kernel_rfl
  v22 := fun w => by kernel_rfl
  t25 := by kernel_rfl
  a25 := fun w => by kernel_rfl
  z25 := fun w => by kernel_rfl
  v25 := fun w => by kernel_rfl
/-! ### Rows of parts -/
def pz : List Pt → List Value
  | [] => []
  | p :: l => .int .i64 p.1 :: .slice p.2.1 p.2.2.1 p.2.2.2 :: pz l
theorem pz_len : ∀ l : List Pt, (pz l).length = l.length * 2
  | [] => rfl
  | p :: t => by simp [pz, pz_len t]; omega
theorem pz_append : ∀ a b : List Pt, pz (a ++ b) = pz a ++ pz b
  | [], _ => rfl
  | h :: t, b => by simp [pz, pz_append t b]
theorem pz_at : ∀ (l : List Pt) (i : Nat) (h : i < l.length), (pz l)[i * 2]? = some (.int .i64 l[i].1) ∧ (pz l)[i * 2 + 1]? = some (.slice l[i].2.1 l[i].2.2.1 l[i].2.2.2)
  | p :: t, 0, _ => ⟨rfl, rfl⟩
  | p :: t, i + 1, h => by
    have := pz_at t i (by simpa using h)
    rw [show (i + 1) * 2 = i * 2 + 1 + 1 by omega]
    simpa [pz] using this
theorem pz_flat (l : List Pt) : (flatK encP 2 l.toArray).toList = pz l := by
  apply List.ext_getElem?
  intro j
  rw [Array.getElem?_toList]
  by_cases hj : j < l.length * 2
  · have h1 : j < (flatK encP 2 l.toArray).size := by simpa using hj
    rw [Array.getElem?_eq_getElem h1, ← getElem!_pos (flatK encP 2 l.toArray) j h1, get_flatK _ _ _ j (by simpa using hj)]
    have hi : j / 2 < l.length := by omega
    have e1 : (l.toArray[j / 2]!) = l[j / 2] := by rw [getElem!_pos _ _ (by simpa using hi)]; simp
    rw [e1]
    obtain ⟨a, b⟩ := pz_at l (j / 2) hi
    rcases Nat.mod_two_eq_zero_or_one j with h | h
    · rw [show j / 2 * 2 = j by omega] at a
      rw [h, a]
      rfl
    · rw [show j / 2 * 2 + 1 = j by omega] at b
      rw [h, b]
      rfl
  · rw [Array.getElem?_eq_none (by simpa using hj), List.getElem?_eq_none (by rw [pz_len]; omega)]
theorem part_holds {w : World} {g c : Nat} {l : List Pt} (h : w.ownsRow 0 32 2 (.slice (some ⟨g, 0, none⟩) l.length c) l.length (pz l)) : HoldsK encP 2 w g 0 l.toArray := by
  intro j hj
  have hj2 : j < l.length * 2 := by simpa using hj
  refine ⟨?_, ?_⟩
  · rw [Nat.zero_add, h.cellAt j hj2, ← pz_flat l, Array.getElem?_toList, Array.getElem?_eq_getElem hj, getElem!_pos (flatK encP 2 l.toArray) j hj]
    rfl
  · rw [Nat.zero_add]
    exact h.frozenAt j
theorem part_sorted {w : World} {g c n : Nat} {l l' : List Pt} {os : Array Obj} (h : w.ownsRow 0 32 2 (.slice (some ⟨g, 0, none⟩) l.length c) l.length (pz l)) (hl : l'.length = l.length) :
    (sortWorldK encP 2 w g 0 n l'.toArray os).ownsRow 0 32 2 (.slice (some ⟨g, 0, none⟩) l.length c) l.length (pz l') ∧ w.grownBy (sortWorldK encP 2 w g 0 n l'.toArray os) (some g) := by
  rcases h.2 with ⟨e0, _⟩ | ⟨g', cap', cur, e0, hb, hg, hn, hm, hs, ht⟩
  · cases e0
  · injection e0 with e1 _ e3
    injection e1 with e1
    injection e1 with e1
    subst e1; subst e3
    have hlt : g < w.heap.size := lt_of_block hg
    have hsz : (flatK encP 2 l'.toArray).size = l.length * 2 := by simp [hl]
    refine ⟨⟨by rw [pz_len, hl], .inr ⟨g, c, putCells id 0 (flatK encP 2 l'.toArray) cur, rfl, hb, ?_, hn, hm, by simpa [putCells] using hs, ?_⟩⟩, ⟨rfl, rfl, rfl, ?_, fun k hk hne => ?_⟩⟩
    · unfold sortWorldK
      rw [heap_grow_old _ _ (by simpa [putRowK, putRow, mapBlock, Sort.ahead] using hlt)]
      simp [putRowK, putRow, mapBlock, Sort.ahead, Array.getElem?_modify, hg, onCells]
    · rw [← pz_flat l']
      apply List.ext_getElem?
      intro j
      rw [List.getElem?_take, Array.getElem?_toList, Array.getElem?_toList]
      by_cases hj : j < l.length * 2
      · have hjc : j < cur.size := by rw [hs]; omega
        simp only [if_pos hj, putCells, Array.getElem?_mapIdx, Array.getElem?_eq_getElem hjc, Option.map_some]
        have hF : j < (flatK encP 2 l'.toArray).size := by omega
        rw [if_pos ⟨Nat.zero_le _, by omega⟩, Nat.sub_zero, Array.getElem?_eq_getElem hF, getElem!_pos (flatK encP 2 l'.toArray) j hF]
        rfl
      · rw [if_neg hj, Array.getElem?_eq_none (by omega)]
    · simp [sortWorldK, putRowK, putRow, mapBlock, Sort.ahead]
    · have hne2 : ¬ g = k := fun e => hne (by rw [e])
      unfold sortWorldK
      rw [heap_grow_old _ _ (by simpa [putRowK, putRow, mapBlock, Sort.ahead] using hk)]
      simp [putRowK, putRow, mapBlock, Sort.ahead, Array.getElem?_modify, hne2]
/-! ### The sort -/
theorem ltP (x y : Pt) : ltOf cfP x y = decide (x.1 < y.1) := by
  unfold ltOf cfP Lib.compareInt
  by_cases h1 : x.1 < y.1
  · simp [h1]
  · by_cases h2 : y.1 < x.1 <;> simp [h1, h2]
theorem swoP : SWO (ltOf cfP) where
  irrefl x := by rw [ltP]; simp
  trans x y z h1 h2 := by rw [ltP] at *; simp at *; omega
  ntrans x y z h1 h2 := by rw [ltP] at *; simp at *; omega
set_option maxHeartbeats 4000000 in
theorem len64_small (n : Nat) (w : World) (h : n ≤ 12) : Calls Tryz.prog 165 #[.int .u64 (n : Int)] w fun e w' => (∃ l : Int, e = .returned (.int .i64 l)) ∧ w' = w := by
  have hc : n = 0 ∨ n = 1 ∨ n = 2 ∨ n = 3 ∨ n = 4 ∨ n = 5 ∨ n = 6 ∨ n = 7 ∨ n = 8 ∨ n = 9 ∨ n = 10 ∨ n = 11 ∨ n = 12 := by omega
  rcases hc with rfl | rfl | rfl | rfl | rfl | rfl | rfl | rfl | rfl | rfl | rfl | rfl | rfl
  all_goals
    go_enter Tryz.func165, Tryz.ntmps165
    go_wp2_with fail
    go_ret
    exact ⟨⟨_, rfl⟩, rfl⟩
set_option maxHeartbeats 1000000 in
theorem len_small (n : Nat) (w : World) (h : n ≤ 12) : Calls Tryz.prog 154 #[.int .u64 (n : Int)] w fun e w' => (∃ l : Int, e = .returned (.int .i64 l)) ∧ w' = w := by
  have J := hide (len64_small n w h)
  go_enter Tryz.func154, Tryz.ntmps154
  go_wp2_with fail
  refine J.out.mono ?_
  rintro e w' ⟨⟨l, rfl⟩, rfl⟩
  go_wp2_with fail
  go_ret
  exact ⟨⟨_, rfl⟩, rfl⟩
/-- Nothing is put in order. -/
theorem ins_none (ao : Option Addr) (c : Nat) (fv : Value) (w : World) : Calls Tryz.prog 202 #[.slice ao 0 c, .int .i64 0, .int .i64 0, fv] w fun e w' => e = .returned (.tuple #[]) ∧ w' = w := by
  go_enter Tryz.func202, Tryz.ntmps202
  go_wp2_with fail
  refine wp_loop_rounds 1 ?_
  rw [rounds_succ]
  go_wp2_with fail
  go_end0
  exact ⟨rfl, rfl⟩
set_option maxHeartbeats 2000000 in
theorem pdq_small (R : World → Prop) (ao : Option Addr) (n c : Nat) (fv : Value) (w : World) (lim : Int) (h : n ≤ 12) (J : Calls Tryz.prog 202 #[.slice ao n c, .int .i64 0, .int .i64 (n : Int), fv] w fun e w' => e = .returned (.tuple #[]) ∧ R w') :
    Calls Tryz.prog 179 #[.slice ao n c, .int .i64 0, .int .i64 (n : Int), .int .i64 lim, fv] w fun e w' => e = .returned (.tuple #[]) ∧ R w' := by
  have J := hide J
  have t1 : IntKind.i64.wrap ((n : Int) - 0) = (n : Int) := by rw [IntKind.wrap_i64]; omega
  have t2 : (n : Int) ≤ 12 := by omega
  go_enter Tryz.func179, Tryz.ntmps179
  go_wp2_with fail
  refine wp_loop_rounds 1 ?_
  rw [rounds_succ]
  go_wp2_with fail
  refine J.out.mono ?_
  rintro e w' ⟨rfl, hR⟩
  have HR := hide hR
  clear hR
  go_wp2_with fail
  (try simp only [Exit.inBlock, Exit.then]); refine bodyPost_ret (results_none rfl _ _ _) rfl ?_
  exact ⟨rfl, HR.out⟩
set_option maxHeartbeats 2000000 in
theorem sortf_small (R : World → Prop) (ao : Option Addr) (n c : Nat) (fv : Value) (w : World) (h : n ≤ 12) (J : Calls Tryz.prog 202 #[.slice ao n c, .int .i64 0, .int .i64 (n : Int), fv] w fun e w' => e = .returned (.tuple #[]) ∧ R w') :
    Calls Tryz.prog 136 #[.slice ao n c, fv] w fun e w' => e = .returned (.tuple #[]) ∧ R w' := by
  have JL := hide (len_small n w h)
  have JP : Hid (∀ lim : Int, Calls Tryz.prog 179 #[.slice ao n c, .int .i64 0, .int .i64 (n : Int), .int .i64 lim, fv] w fun e w' => e = .returned (.tuple #[]) ∧ R w') := fun lim => pdq_small R ao n c fv w lim h J
  clear J
  go_enter Tryz.func136, Tryz.ntmps136
  go_wp2_with fail
  refine JL.out.mono ?_
  rintro e w' ⟨⟨l, rfl⟩, rfl⟩
  go_wp2_with fail
  refine (JP.out _).mono ?_
  rintro e w' ⟨rfl, hR⟩
  have HR := hide hR
  clear hR
  go_wp2_with fail
  go_end0
  exact ⟨rfl, HR.out⟩
/-- slices.SortFunc, by rising kinds. -/
theorem sort_any {w : World} {v : Value} {l : List Pt} (h : w.ownsRow 0 32 2 v l.length (pz l)) (h12 : l.length ≤ 12) : Calls Tryz.prog 136 #[v, .func (.func 137) #[] #[]] w fun e w' => e = .returned (.tuple #[]) ∧ ∃ l', l'.Perm l ∧ l'.Pairwise (fun x y => x.1 ≤ y.1) ∧ w'.ownsRow 0 32 2 v l.length (pz l') ∧ w.grownBy w' v.ownBlock := by
  by_cases hn : v = .slice none 0 0
  · subst hn
    have hl : l.length = 0 := by
      rcases h.2 with ⟨_, h0⟩ | ⟨g, c, cur, e, _⟩
      · exact h0
      · cases e
    obtain rfl := List.eq_nil_of_length_eq_zero hl
    refine sortf_small (fun w' => ∃ l', l'.Perm [] ∧ l'.Pairwise (fun x y => x.1 ≤ y.1) ∧ w'.ownsRow 0 32 2 (.slice none 0 0) 0 (pz l') ∧ w.grownBy w' none) none 0 0 _ w (by omega) ((ins_none _ _ _ w).mono ?_)
    rintro e w' ⟨rfl, rfl⟩
    exact ⟨rfl, [], List.Perm.refl _, List.Pairwise.nil, h, grown_later (Below.refl _ _)⟩
  · obtain ⟨g, c, rfl⟩ : ∃ g c, v = .slice (some ⟨g, 0, none⟩) l.length c := by
      rcases h.2 with ⟨e, _⟩ | ⟨g, c, cur, e, _⟩
      · exact absurd e hn
      · exact ⟨g, c, e⟩
    have hg := (h.lt g rfl).2
    refine sortf_small (fun w' => ∃ l', l'.Perm l ∧ l'.Pairwise (fun x y => x.1 ≤ y.1) ∧ w'.ownsRow 0 32 2 (.slice (some ⟨g, 0, none⟩) l.length c) l.length (pz l') ∧ w.grownBy w' (some g)) _ l.length c _ w h12 ?_
    have eg : ∀ args w, (callFunc 137 args).run Tryz.prog w = .ok (.enter 137 args) w := enters_of Tryz.func137 (by kernel_rfl) rfl
    have hcon := AnyQ.insertionSortCmpFunc laidP 2 (fun w => by kernel_rfl) (fun w => by kernel_rfl) encP (fun _ => rfl) (fun x v hv => by simp [encP] at hv; rcases hv with rfl | rfl <;> rfl) cfP 137 #[] g 0 c 0 l.length l.toArray w eg (fun _ _ _ _ x y => byKind_any x y _) (part_holds h) hg (Nat.zero_le _) (by simp) (by simp; omega)
    have hsrt := insertionSort_holds (lt := ltOf cfP) swoP l.toArray 0 l.length (Nat.zero_le _) (by simp)
    change Calls Tryz.prog 202 _ _ _ at hcon
    simp only [List.size_toArray] at hcon
    refine hcon.mono ?_
    rintro e w' ⟨rfl, n, os, rfl⟩
    obtain ⟨d', hd'⟩ : ∃ d', d' = Sort.insertionSort (ltOf cfP) l.toArray 0 l.length := ⟨_, rfl⟩
    rw [← hd'] at hsrt ⊢
    obtain ⟨⟨hp1, -, hp3⟩, hs⟩ := hsrt
    have hsz : d'.toList.length = l.length := by simpa using hp1
    have hperm : d'.toList.Perm l := by
      have e1 : d'.extract 0 l.length = d' := by rw [← hsz]; simp
      rw [e1] at hp3
      simpa using hp3
    obtain ⟨k1, k2⟩ := part_sorted (n := n) (os := os) (l' := d'.toList) h hsz
    refine ⟨rfl, d'.toList, hperm, ?_, k1, k2⟩
    rw [List.pairwise_iff_getElem]
    intro i j hi hj hij
    have := hs i j (Nat.zero_le _) hij (by omega)
    rw [ltP, decide_eq_false_iff_not, getElem!_pos d' i (by simpa using hi), getElem!_pos d' j (by simpa using hj)] at this
    simp only [Array.getElem_toList]
    omega
end Go.Proofs.YtafmiolehlagkaaGreat

/-
  World: parts as they are read; slices.Clone of parts; their set.
-/
namespace Go.Proofs.YtafmiolehlagkaaGreat
open Go.RowKit
set_option maxRecDepth 100000
theorem infoP : (Tryz.prog.info? 32).map (fun i => (i.zero, i.size, i.bytes)) = some (some (.agg #[.int .i64 0, .slice none 0 0]), 2, 32) := by kernel_rfl
theorem pz_one : ∀ l : List Pt, ∀ u ∈ pz l, u.oneCell' = true
  | [], _, h => by cases h
  | p :: t, v, h => by
    simp only [pz, List.mem_cons] at h
    rcases h with rfl | rfl | h
    · rfl
    · rfl
    · exact pz_one t v h
theorem add_at (g o j : Nat) : (⟨g, o, none⟩ : Addr).add j = ⟨g, o + j, none⟩ := by
  unfold Addr.add
  split
  · rename_i h
    subst h
    rfl
  · rfl
/-- Parts that are read, wherever they lie. -/
def Rp (w : World) (v : Value) (l : List Pt) : Prop :=
  (v = .slice none 0 0 ∧ l = []) ∨ ∃ g o c, v = .slice (some ⟨g, o, none⟩) l.length c ∧ l.length ≤ c ∧ c ≤ maxLen ∧ ∀ j u, (pz l)[j]? = some u → w.cell? ⟨g, o + j, none⟩ = some u
theorem Rp.own {w : World} {v : Value} {l : List Pt} {B : Nat} (h : w.ownsRow B 32 2 v l.length (pz l)) : Rp w v l := by
  rcases h.2 with ⟨rfl, hl⟩ | ⟨g, c, cur, rfl, -, hg, h1, h2, hcs, htake⟩
  · exact .inl ⟨rfl, List.eq_nil_of_length_eq_zero hl⟩
  · refine .inr ⟨g, 0, c, rfl, h1, h2, fun j u hj => ?_⟩
    have := h.cells rfl j u hj
    rw [add_at] at this
    exact this
theorem Rp.later {w w' : World} {v : Value} {l : List Pt} (h : Rp w v l) (hb : Below w.heap.size w w') : Rp w' v l := by
  rcases h with h | ⟨g, o, c, rfl, h1, h2, h3⟩
  · exact .inl h
  · exact .inr ⟨g, o, c, rfl, h1, h2, fun j u hj => (hb.cell (p := ⟨g, o + j, none⟩) (World.block_lt_of_cell? w _ (h3 j u hj))).trans (h3 j u hj)⟩
set_option maxHeartbeats 1000000 in
theorem clone_parts (v : Value) (l : List Pt) (w : World) (h : Rp w v l) (hn : l.length ≤ 1000000) :
    Calls Tryz.prog 135 #[v] w fun e w' => ∃ v', e = .returned v' ∧ w'.ownsRow w.heap.size 32 2 v' l.length (pz l) ∧ Below w.heap.size w w' := by
  obtain ⟨i0, hi, hz0, hz1, hz2⟩ := info_parts infoP
  have q72 : ∀ (w : World) (a : Option Addr) (n c n' c' : Nat), (binOp .eql 33 (.slice a n c) (.slice none n' c')).run Tryz.prog w = .ok (.bool a.isNone) w := fun w a n c n' c' => Lib.run_eql_slice_nil w _ _ a n c n' c' Tryz.underlying33
  rcases h with ⟨rfl, rfl⟩ | ⟨g, o, cap, rfl, h1, h2, h3⟩
  · go_enter Tryz.func135, Tryz.ntmps135
    go_wp2_with fail
    go_ret
    exact ⟨_, rfl, World.ownsRow_nil _ _ _ _, Below.refl _ _⟩
  · have H := hide h3
    clear h3
    go_enter Tryz.func135, Tryz.ntmps135
    go_wp2_with (at_builtin; refine wpList_append_own_at _ rfl _ _ 33 rfl w.heap.size 32 i0 (.agg #[.int .i64 0, .slice none 0 0]) 2 32 Tryz.underlying33 hi hz0 hz1 hz2 rfl (by decide) _ 0 [] rfl (World.ownsRow_lit w #[] 0 (Nat.le_refl _) (Nat.zero_le _) rfl) ⟨g, o, none⟩ l.length cap (pz l) rfl (by rw [pz_len]) ?c1 (pz_one l) (by unfold maxLen; omega) (by omega) (by simp) ?_)
    case c1 =>
      intro j u hj
      have hc := H.out j u hj
      rw [add_at]
      exact ((below_alloc w _).cell (p := ⟨g, o + j, none⟩) (World.block_lt_of_cell? w _ hc)).trans hc
    intro v' w' ho hg _ _
    obtain ⟨ao, c, rfl⟩ := own_len ho
    have HO := hide ho
    have HG := hide hg
    clear ho hg
    go_wp2_with fail
    go_ret
    refine ⟨_, rfl, ?_, (below_alloc w _).grown HG.out (by simp) (fun k e => ?_)⟩
    · have := HO.out
      simpa using this
    · simp [Value.ownBlock] at e
      omega
/-! ### The set of some parts -/
def setOf (l : List Pt) : Nat := l.foldl (fun s p => s ||| 2 ^ p.1.toNat) 0
theorem setOf_push (l : List Pt) (p : Pt) : setOf (l ++ [p]) = setOf l ||| 2 ^ p.1.toNat := by simp [setOf]
theorem setOf_lt : ∀ (l : List Pt), (∀ p ∈ l, 1 ≤ p.1 ∧ p.1 ≤ 12) → setOf l < 8192 := by
  have key : ∀ (l : List Pt) (s : Nat), s < 2 ^ 13 → (∀ p ∈ l, 1 ≤ p.1 ∧ p.1 ≤ 12) → l.foldl (fun s p => s ||| 2 ^ p.1.toNat) s < 2 ^ 13 := by
    intro l
    induction l with
    | nil => intro s hs _; exact hs
    | cons p t ih =>
      intro s hs hp
      refine ih _ (Nat.or_lt_two_pow hs ?_) (fun x hx => hp x (List.mem_cons_of_mem _ hx))
      have := hp p (List.mem_cons_self ..)
      exact Nat.pow_lt_pow_right (by omega) (by omega)
  intro l hl
  exact key l 0 (by decide) hl
theorem testBit_fold (k : Nat) : ∀ (l : List Pt) (s : Nat), (l.foldl (fun s p => s ||| 2 ^ p.1.toNat) s).testBit k = (s.testBit k || l.any (fun p => p.1.toNat == k))
  | [], s => by simp
  | p :: t, s => by
    rw [List.foldl_cons, testBit_fold k t, Nat.testBit_or, Nat.testBit_two_pow, List.any_cons, Bool.or_assoc]
    congr 1
theorem setOf_bit (l : List Pt) (k : Nat) : (setOf l).testBit k = l.any (fun p => p.1.toNat == k) := by
  unfold setOf
  rw [testBit_fold]
  simp
/-- The set of parts does not hang on their order. -/
theorem setOf_perm {l l' : List Pt} (h : l'.Perm l) : setOf l' = setOf l := by
  apply Nat.eq_of_testBit_eq
  intro k
  rw [setOf_bit, setOf_bit]
  exact h.any_eq
end Go.Proofs.YtafmiolehlagkaaGreat

/-
  World: parts are laid down as those of an entity.
-/
namespace Go.Proofs.YtafmiolehlagkaaGreat
open Go.RowKit
set_option maxRecDepth 100000
def ptV (p : Pt) : Value := .slice p.2.1 p.2.2.1 p.2.2.2
theorem Iz.later {w w' : World} {v : Value} {l : List Int} (h : Iz w v l) (hb : Below w.heap.size w w') : Iz w' v l := h.frame (Mv.of_below hb (fun _ => False)) (fun _ _ e => e)
theorem own_part {w : World} {B g n c : Nat} {l : List Pt} (h : w.ownsRow B 32 2 (.slice (some ⟨g, 0, none⟩) n c) n (pz l)) (i : Nat) (hi : i < l.length) :
    w.cell? ⟨g, i * 2, none⟩ = some (.int .i64 l[i].1) ∧ w.cell? ⟨g, i * 2 + 1, none⟩ = some (ptV l[i]) := by
  have hl := h.1
  rw [pz_len] at hl
  rw [h.cellAt (i * 2) (by omega), h.cellAt (i * 2 + 1) (by omega)]
  exact pz_at l i hi
/-- One more part's values behind those of the parts ahead. -/
theorem flat_push (V : Pt → List Int) (l : List Pt) (i : Nat) (hi : i < l.length) : (l.take (i + 1)).flatMap V = (l.take i).flatMap V ++ V l[i] := by
  rw [List.take_succ_eq_append_getElem hi, List.flatMap_append]
  simp
theorem set_push (l : List Pt) (i : Nat) (hi : i < l.length) : setOf (l.take (i + 1)) = setOf (l.take i) ||| 2 ^ (l[i].1.toNat) := by
  rw [List.take_succ_eq_append_getElem hi, setOf_push]
theorem flat_le (V : Pt → List Int) (l : List Pt) (i : Nat) : ((l.take i).flatMap V).length ≤ (l.flatMap V).length := by
  conv => rhs; rw [← List.take_append_drop i l]
  rw [List.flatMap_append, List.length_append]
  omega
theorem shl_small : ∀ k : Fin 13, wrap64 ((2 : Int) ^ k.val) = ((2 ^ k.val : Nat) : Int) := by decide +kernel
theorem or_set (S k : Nat) (hS : S < 8192) (hk : k ≤ 12) : bits .or .i64 (S : Int) (wrap64 ((2 : Int) ^ k)) = ((S ||| 2 ^ k : Nat) : Int) := by
  rw [shl_small ⟨k, by omega⟩]
  have : 2 ^ k ≤ 2 ^ 12 := Nat.pow_le_pow_right (by omega) hk
  exact i64_or_nat S (2 ^ k) (by omega) (by omega)
/-- Numbers of one's own, read. -/
theorem Iz.own {w : World} {v : Value} {l : List Int} {B : Nat} (h : w.ownsRow B 2 1 v l.length (zc l)) : Iz w v l := by
  rcases h.2 with ⟨rfl, hl⟩ | ⟨g, c, cur, rfl, -, hg, h1, h2, hcs, htake⟩
  · obtain rfl := List.eq_nil_of_length_eq_zero hl
    exact ⟨none, 0, rfl, Nat.le_refl _, Nat.zero_le _, fun j hj => absurd hj (by simp)⟩
  · exact ⟨_, c, rfl, h1, h2, fun j hj => ⟨g, 0, rfl, by rw [Nat.zero_add]; exact own_num h j hj⟩⟩
theorem add_wx {w : World} {own : Nat → Nat} {gw gp gm gt M s g : Nat} {vk : Value} {ks : List Kind} {gs fr : List Nat} {f : Int × Int → Option Nat} {q : Nat → Option Nat} {T : Nat → Ts} (h : Wx 0 w own gw vk gp gm gt M ks gs fr f q T) (a b : Int) (hib : InB (a, b)) (v : Value) (vals : List Int) (hv : Iz w v vals) (hvl : ∀ k, v.ownBlock = some k → own k = 0 ∧ k < w.heap.size) (hq : q s = some g) (hl : vals.length = (T s).2.length) (hne : (a, b) ∉ (T s).1) (h200 : (T s).1.length < 200) (hM : M ≤ 1000000) :
    Calls Tryz.prog 139 #[.pointer (some ⟨g, 0, none⟩), .agg #[.int .i64 a, .int .i64 b], v] w fun e w' => (∃ r : Int, e = .returned (.tuple #[.int .i64 r, .int .i64 0])) ∧ Wx 0 w' (rel own w (10 + s)) gw vk gp gm gt (M + 1) ks gs fr f q (fun x => if x = s then ((T s).1 ++ [(a, b)], addRow (T s).2 vals) else T x) ∧ Mv w w' (Lb own w (10 + s)) := by
  obtain ⟨n, hn, ht⟩ := h.tb hq
  refine (add_any ht a b v vals hv (fun k e => ⟨fun e' => by have := e'.2; rw [(hvl k e).1] at this; omega, (hvl k e).2⟩) hl hib hne h200 (by omega)).mono ?_
  rintro e w' ⟨rfl, h1, h2⟩
  exact ⟨⟨_, rfl⟩, h.table h2 hq (t := ((T s).1 ++ [(a, b)], addRow (T s).2 vals)) ⟨n + 1, by omega, h1⟩ (by omega), h2⟩
def baseT (q : Nat → Option Nat) (T : Nat → Ts) (s n : Nat) : Ts := if (q s).isSome then T s else ([], List.replicate n [])
def moreT (q : Nat → Option Nat) (T : Nat → Ts) (s : Nat) (e : Int × Int) (vals : List Int) : Nat → Ts := fun x => if x = s then ((baseT q T s vals.length).1 ++ [e], addRow (baseT q T s vals.length).2 vals) else T x
section
variable {w w' : World} {own : Nat → Nat} {gw gp gm gt M M' : Nat} {vk : Value} {ks : List Kind} {gs fr gs' fr' : List Nat} {f f' : Int × Int → Option Nat} {q q' : Nat → Option Nat} {T T' : Nat → Ts}
set_option maxHeartbeats 4000000 in
theorem put_any (h : Wx 0 w own gw vk gp gm gt M ks gs fr f q T) (a b : Int) (hib : InB (a, b)) (v : Value) (l : List Pt) (V : Pt → List Int) (hv : Rp w v l) (h12 : l.length ≤ 12) (hV : ∀ p ∈ l, Iz w (ptV p) (V p) ∧ (p.2.1 = none → p.2.2 = (0, 0))) (hkd : ∀ p ∈ l, 1 ≤ p.1 ∧ p.1 ≤ 12) (h48 : (l.flatMap V).length ≤ 48) (hM : M ≤ 900000) (hqs : ∀ g, q (setOf l) = some g → (a, b) ∉ (T (setOf l)).1 ∧ (T (setOf l)).1.length < 200 ∧ (l.flatMap V).length = (T (setOf l)).2.length) :
    Calls Tryz.prog 67 #[.pointer (some ⟨gw, 0, none⟩), .agg #[.int .i64 a, .int .i64 b], v] w fun e w' => e = .returned (.tuple #[]) ∧ ∃ (l' : List Pt) (g : Nat) (own' : Nat → Nat), l'.Perm l ∧ l'.Pairwise (fun x y => x.1 ≤ y.1) ∧ Wx 0 w' own' gw vk gp gm gt (M + 3) ks gs fr (fun x => if x = (a, b) then some (setOf l) else f x) (fun x => if x = setOf l then some g else q x) (moreT q T (setOf l) (a, b) (l'.flatMap V)) ∧ Wk own own' w w' := by
  obtain ⟨i2, hi2, hz0, hz1, hz2⟩ := info_parts info2
  have H := hide h
  obtain ⟨ao, n, c, rfl⟩ : ∃ ao n c, v = .slice ao n c := by
    rcases hv with ⟨rfl, -⟩ | ⟨g, o, c, rfl, -⟩
    · exact ⟨_, _, _, rfl⟩
    · exact ⟨_, _, _, rfl⟩
  have B0 := below_alloc w (.cells #[.int .i64 a, .int .i64 b] 29)
  have JC := hide (clone_parts _ l (w.alloc (.cells #[.int .i64 a, .int .i64 b] 29)) (hv.later B0) (by omega))
  have HV := hide hV
  have HK := hide hkd
  have HQS := hide hqs
  clear h hv hV hkd hqs
  go_enter Tryz.func67, Tryz.ntmps67
  go_wp2_with fail
  refine JC.out.mono ?_
  rintro e w1 ⟨v1, rfl, ho1, b1⟩
  have B1 := hide (below_on B0 b1)
  have HX1 : Hid (w1.heap[w.heap.size]? = some (.cells #[.int .i64 a, .int .i64 b] 29 (0, 0))) := (b1.block w.heap.size (by simp)).trans (heap_alloc_new w _)
  have O1 : Hid (w1.ownsRow (w.heap.size + 1) 32 2 v1 l.length (pz l)) := by simpa [Hid] using ho1
  have JS := hide (sort_any (own_lower ho1 (Nat.zero_le _)) h12)
  obtain ⟨a1, c1, rfl⟩ := own_len ho1
  clear JC ho1 b1 B0
  go_wp2_with fail
  refine JS.out.mono ?_
  rintro e w2 ⟨rfl, l', hperm, hsort, ho2, hg2⟩
  clear JS
  have hlen := hperm.length_eq
  have h48' : (l'.flatMap V).length ≤ 48 := by rw [(hperm.flatMap_right V).length_eq]; exact h48
  have hib1 : ∀ k, (Value.slice a1 l.length c1).ownBlock = some k → w.heap.size + 1 ≤ k := fun k e => (O1.out.lt k e).1
  have B2 : Hid (Below w.heap.size w w2) := B1.out.grown hg2 B1.out.size (fun k e => by have := hib1 k e; omega)
  have HX2 : Hid (w2.heap[w.heap.size]? = some (.cells #[.int .i64 a, .int .i64 b] 29 (0, 0))) := (hg2.block _ (lt_of_block HX1.out) (fun e => by have := hib1 _ e.symm; omega)).trans HX1.out
  rw [← hlen] at ho2 h12 ⊢
  have O2 := hide ho2
  have HP := hide hperm
  have HS := hide hsort
  have HL := hide hlen
  have HM := hide h48'
  have HV2 : Hid (∀ p ∈ l', Iz w (ptV p) (V p) ∧ (p.2.1 = none → p.2.2 = (0, 0))) := fun p hp => HV.out p (hperm.mem_iff.1 hp)
  have HK2 : Hid (∀ p ∈ l', 1 ≤ p.1 ∧ p.1 ≤ 12) := fun p hp => HK.out p (hperm.mem_iff.1 hp)
  obtain ⟨kx, hkx⟩ : ∃ k, k = w.heap.size := ⟨_, rfl⟩
  rw [← hkx] at HX2 ⊢
  have HKB : Hid (w.heap.size ≤ kx ∧ w.heap.size ≤ w2.heap.size) := ⟨by omega, B2.out.size⟩
  clear ho2 hg2 hib1 hperm hsort hlen HX1 B1 O1 h48 h48' HV HK hkx
  obtain ⟨hc1, hc2⟩ := own_cap O2.out
  go_wp2_with fail
  go_loopw [7, 8, 19] (fun v7 v8 v19 W => ∃ i : Nat, i ≤ l'.length ∧ v19 = .int .i64 (i : Int) ∧ v7 = .int .i64 ((setOf (l'.take i) : Nat) : Int) ∧ Hid (Below w2.heap.size w2 W) ∧ Hid (W.ownsRow w2.heap.size 2 1 v8 ((l'.take i).flatMap V).length (zc ((l'.take i).flatMap V)))) (fun _ _ v19 _ => l'.length - (intOf v19).toNat)
  case atStart => exact ⟨0, Nat.zero_le _, rfl, rfl, Below.refl _ _, World.ownsRow_nil _ _ _ _⟩
  case round =>
    obtain ⟨i, hil, rfl, rfl, HB, HO⟩ := hrel
    by_cases hlt : i < l'.length
    · have t1 : (i : Int) < (l'.length : Int) := by omega
      have hP := own_later O2.out HB.out
      obtain ⟨gr, c', ee, -, -⟩ := own_form hP (by omega)
      simp only [Value.slice.injEq] at ee
      obtain ⟨rfl, -, rfl⟩ := ee
      obtain ⟨e1, e2⟩ := own_part hP i hlt
      obtain ⟨hiz, hnil⟩ := HV2.out l'[i] (List.getElem_mem hlt)
      have hkk := HK2.out l'[i] (List.getElem_mem hlt)
      have hs1 := hide (set_push l' i hlt)
      have hf1 := hide (flat_push V l' i hlt)
      have hfl := Nat.le_trans (flat_le V l' (i + 1)) HM.out
      have hsl : setOf (l'.take i) < 8192 := setOf_lt _ (fun p hp => HK2.out p (List.mem_of_mem_take hp))
      rw [hf1.out, List.length_append] at hfl
      generalize setOf (l'.take i) = S at *
      generalize (l'.take i).flatMap V = F at *
      have hiz := hiz.later (below_on B2.out HB.out)
      generalize V l'[i] = N at *
      generalize l'[i] = p at *
      obtain ⟨x, av, nv, cv⟩ := p
      obtain ⟨k, rfl⟩ : ∃ k : Nat, x = (k : Int) := ⟨x.toNat, by have := hkk.1; dsimp only at this; omega⟩
      have hk1 : 1 ≤ k ∧ k ≤ 12 := by dsimp only at hkk; omega
      obtain ⟨ao3, c3, rfl⟩ := own_len HO.out
      unfold ptV at *
      dsimp only at e1 e2 hiz hnil hkk hs1
      have t2 : ¬ (k : Int) < 0 := by omega
      have hsz := HB.out.size
      clear hP hkk
      rw [Int.toNat_natCast] at hs1
      have HOR := hide (or_set S k hsl hk1.2)
      have HA : Hid (∀ (v' : Value) (w' : World), w'.ownsRow w2.heap.size 2 1 v' (F.length + N.length) (zc F ++ zc N) → (wr.alloc (.cells #[.int .i64 (k : Int), .slice av nv cv] 32)).grownBy w' (Value.slice ao3 F.length c3).ownBlock → Below w2.heap.size w2 w' ∧ w'.ownsRow w2.heap.size 2 1 v' ((l'.take (i + 1)).flatMap V).length (zc ((l'.take (i + 1)).flatMap V))) := fun v' w' g1 g2 => by
        refine ⟨(below_on HB.out (below_alloc wr _)).grown g2 (by simp; omega) (fun k e => (HO.out.lt k e).1), ?_⟩
        rw [hf1.out, List.length_append, zc_append]
        exact g1
      clear hf1
      cases av with
      | none =>
        obtain ⟨rfl, rfl⟩ : nv = 0 ∧ cv = 0 := by simpa using hnil rfl
        obtain rfl : N = [] := by
          obtain ⟨ao', c', e', -⟩ := hiz
          simp only [Value.slice.injEq] at e'
          exact List.eq_nil_of_length_eq_zero e'.2.1.symm
        clear hiz hnil
        go_wp2_with (at_builtin; refine wpList_append_own_none rfl _ _ 30 rfl w2.heap.size 2 i2 1 Tryz.underlying30 hi2 _ _ _ rfl (HO.out.alloc _) rfl ?_)
        go_wp2_with fail
        go_roundw
        case rel =>
          obtain ⟨k1, k2⟩ := HA.out _ _ (by simpa [zc] using HO.out.alloc (.cells #[.int .i64 (k : Int), .slice none 0 0] 32)) ⟨rfl, rfl, rfl, Nat.le_refl _, fun _ _ _ => rfl⟩
          exact ⟨i + 1, by omega, by go_num, by rw [hs1.out]; exact val_int HOR.out, k1, k2⟩
        case measure => simp [intOf]; omega
      | some ad =>
        have hN : nv = N.length ∧ ∀ j u, (zc N)[j]? = some u → (wr.alloc (.cells #[.int .i64 (k : Int), .slice (some ad) nv cv] 32)).cell? (ad.add j) = some u := by
          obtain ⟨ao', c', e', z1, z2, z3⟩ := hiz
          simp only [Value.slice.injEq] at e'
          obtain ⟨rfl, e'2, rfl⟩ := e'
          refine ⟨e'2, fun j u hj => ?_⟩
          have hj2 : j < N.length := by
            have := (List.getElem?_eq_some_iff.1 hj).1
            rwa [zc_len] at this
          rw [zc_at N j hj2] at hj
          obtain ⟨g', o', e3, z4⟩ := z3 j hj2
          obtain rfl := Option.some.inj e3
          rw [add_at, ← Option.some.inj hj]
          exact ((below_alloc wr _).cell (p := ⟨g', o' + j, none⟩) (World.block_lt_of_cell? wr _ z4)).trans z4
        obtain ⟨rfl, hN2⟩ := hN
        have HN2 := hide hN2
        clear hiz hnil hN2
        go_wp2_with (at_builtin; refine wpList_append_own_at _ rfl _ _ 30 rfl w2.heap.size 2 i2 (.int .i64 0) 1 8 Tryz.underlying30 hi2 hz0 hz1 hz2 rfl (by decide) _ F.length (zc F) rfl (HO.out.alloc _) ad N.length cv (zc N) rfl (by rw [zc_len]; omega) HN2.out (zc_one N) (by unfold maxLen; omega) (by omega) (by simp; omega) ?_)
        intro v' w' ho hg _ _
        obtain ⟨k1, k2⟩ := HA.out _ _ ho hg
        have K1 := hide k1
        have K2 := hide k2
        clear ho hg k1 k2 HA HN2
        go_wp2_with fail
        go_roundw
        case rel => exact ⟨i + 1, by omega, by go_num, by rw [hs1.out]; exact val_int HOR.out, K1, K2⟩
        case measure => simp [intOf]; omega
    · obtain rfl : i = l'.length := by omega
      have ho := HO.out
      rw [List.take_length] at ho ⊢
      have hsl := setOf_lt l' HK2.out
      obtain ⟨a8, c8, rfl⟩ := own_len ho
      have O8 := hide ho
      have t1 : ¬ (l'.length : Int) < (l'.length : Int) := by omega
      have B3 : Hid (Below w.heap.size w wr) := below_on B2.out HB.out
      have HX3 : Hid (wr.heap[kx]? = some (.cells #[.int .i64 a, .int .i64 b] 29 (0, 0))) := (HB.out.block kx (lt_of_block HX2.out)).trans HX2.out
      clear ho HO HB HX2 B2 O2 HV2
      have hsp : setOf l' = setOf l := setOf_perm HP.out
      have hfp : (l'.flatMap V).length = (l.flatMap V).length := (HP.out.flatMap_right V).length_eq
      have hqs := HQS.out
      rw [← hsp, ← hfp] at hqs
      obtain ⟨vals, hvals⟩ : ∃ X, X = l'.flatMap V := ⟨_, rfl⟩
      have HVL := hide hvals
      rw [← hvals] at hqs O8 ⊢
      have HQ2 := hide hqs
      obtain ⟨p0, p1⟩ := kx_cells HX3.out (Below.refl _ wr)
      have H4 : Hid (Wx 0 wr (rel own w 0) gw vk gp gm gt M ks gs fr f q T) := H.out.later B3.out
      have hkb : w.heap.size ≤ kx ∧ w.heap.size ≤ w2.heap.size := HKB.out
      have hgt : gt < w.heap.size := H.out.2.1.2
      have IZ8 : Hid (∀ W, Mv wr W (fun k => k = gt) → Iz W (.slice a8 (vals).length c8) (vals)) := fun W hW => Iz.own (hW.own O8.out (fun k e e2 => by have := (O8.out.lt k e).1; omega))
      have hob : ∀ k, (Value.slice a8 (vals).length c8).ownBlock = some k → w.heap.size ≤ k ∧ k < wr.heap.size := fun k e => ⟨Nat.le_trans hkb.2 (O8.out.lt k e).1, (O8.out.lt k e).2⟩
      have H5 : Hid (Wx 0 wr (rel own w 0) gw vk gp gm gt M ks gs fr f q T ∧ Wk own (rel own w 0) w wr ∧ (wr.heap[kx]? = some (.cells #[.int .i64 a, .int .i64 b] 29 (0, 0)) ∧ rel own w 0 kx = 0) ∧ Mv wr wr (fun k => k = gt) ∧ ∀ k, (Value.slice a8 (vals).length c8).ownBlock = some k → rel own w 0 k = 0 ∧ k < wr.heap.size) := ⟨H4.out, Wk.later B3.out, ⟨HX3.out, rel_new hkb.1⟩, Mv.refl _ _, fun k e => ⟨rel_new (hob k e).1, (hob k e).2⟩⟩
      have EV : Hid ((fun x => if x = (a, b) then some (setOf l) else f x) = (fun x => if x = (a, b) then some (setOf l') else f x) ∧ (∀ g : Nat, (fun x => if x = setOf l then some g else q x) = (fun x => if x = setOf l' then some g else q x)) ∧ moreT q T (setOf l) (a, b) (vals) = moreT q T (setOf l') (a, b) (vals)) := by rw [hsp]; exact ⟨rfl, fun _ => rfl, rfl⟩
      obtain ⟨c0, c1', c2, c3⟩ := H4.out.cells
      obtain ⟨v9, hlk, hv9⟩ := H4.out.mq.look (setOf l') (by omega)
      clear hqs hfp HQS hob hsp hvals
      cases hq : q (setOf l') with
      | some g =>
        obtain rfl := hv9 g hq
        rw [hq] at hlk
        obtain ⟨n1, n2, n3⟩ := HQ2.out g hq
        have HN := hide (And.intro n1 (And.intro n2 n3))
        simp only [Option.isSome_some] at hlk
        clear n1 n2 n3 hv9
        have HQq := hide hq
        clear hq
        go_upto_region 15 with fail
        have hq := HQq.out
        clear hlk c0 c1' c2 c3 H4
        have HI8 : Hid (Iz wr (.slice a8 (vals).length c8) (vals)) := IZ8.out _ H5.out.2.2.2.1
        have JA := hide (add_wx (s := setOf l') (g := g) H5.out.1 a b hib _ _ HI8.out H5.out.2.2.2.2 hq HN.out.2.2 HN.out.1 HN.out.2.1 (by omega))
        go_wp2_with fail
        refine JA.out.mono ?_
        rintro e w7 ⟨⟨r7, rfl⟩, h7, m7⟩
        have k7 : Wk own (rel (rel own w 0) wr (10 + setOf l')) w w7 := H5.out.2.1.trans (Wk.of m7 (fun k _ e => by have := e.2; omega))
        have x7 : w7.heap[kx]? = some (.cells #[.int .i64 a, .int .i64 b] 29 (0, 0)) ∧ rel (rel own w 0) wr (10 + setOf l') kx = 0 := ⟨m7.at H5.out.2.2.1.1 (fun e => by have := e.2; rw [H5.out.2.2.1.2] at this; omega), (rel_old (lt_of_block H5.out.2.2.1.1)).trans H5.out.2.2.1.2⟩
        have h8 := h7.later (below_drew w7)
        obtain ⟨w9, hst, hmp9, htn9⟩ := h8.mp.store (a, b) hib (setOf l') (by omega) (by omega)
        have h9 := h8.sets htn9 hmp9 (by omega)
        have k9 := (k7.trans (Wk.later (L := 0) (below_drew w7))).trans (Wk.of (L := 4) (mv_turned htn9) (fun k _ e => by rw [e, h8.1.2.1]; decide))
        obtain ⟨-, -, c2, -⟩ := h8.cells
        obtain ⟨z0, z1⟩ := kx_cells x7.1 (below_drew w7)
        obtain ⟨-, -, y2, -⟩ := h9.cells
        have hne : ¬ kx = gm := fun e => by have h1 := h7.1.2.1; rw [← e, x7.2] at h1; omega
        obtain ⟨y0, y1⟩ := kx_cells ((mv_turned htn9).at (w := w7.drew) x7.1 hne) (Below.refl _ w9)
        have H9 := hide h9
        have K9 := hide k9
        dsimp only at hst
        clear h7 m7 k7 x7 h8 hmp9 htn9 h9 k9 hne JA HI8
        go_upto_region 16 with fail
        refine wp_region_noPanic ?_
        refine wp_region_late (J := fun i => i != 99) (S := fun W => W.cell? ⟨gw, 2, none⟩ = some (.map (some gm)) ∧ W.cell? ⟨kx, 0, none⟩ = some (.int .i64 a) ∧ W.cell? ⟨kx, 1, none⟩ = some (.int .i64 b)) (by kernel_rfl) ⟨c2, z0, z1⟩ (fun hHeld => ?_)
        refine' wpAnyJ_takeW (i := 0) (oi := { dst := some 60, op := Op.move (Operand.tmp 0), type := 37, pos := "world.go:226", after := #[], guard := none }) (v := _) rfl (by kernel_rfl) (by kernel_rfl) (by kernel_rfl) (fun _ _ _ h => h) (Or.inl ⟨by rfl, ?hyA1⟩) ?reA1
        case hyA1 => (intro W hSw; (try dsimp only at hSw); go_simp; try with_reducible rfl)
        try simp only [Act.put, List.setIfInBounds_toArray, List.set_cons_zero, List.set_cons_succ]
        refine' wpAnyJ_takeW (i := 1) (oi := { dst := some 61, op := Op.nilCheck (Operand.tmp 60), type := 0, pos := "world.go:226", after := #[{ on := 0, ground := Ground.data }], guard := none }) (v := _) rfl (by kernel_rfl) (by kernel_rfl) (by kernel_rfl) (fun _ _ _ h => h) (Or.inl ⟨by rfl, ?hyA2⟩) ?reA2
        case hyA2 => (intro W hSw; (try dsimp only at hSw); go_simp; try with_reducible rfl)
        try simp only [Act.put, List.setIfInBounds_toArray, List.set_cons_zero, List.set_cons_succ]
        refine' wpAnyJ_takeW (i := 2) (oi := { dst := some 62, op := Op.fieldAddr 109 (Operand.tmp 61) 2, type := 0, pos := "world.go:226", after := #[{ on := 1, ground := Ground.data }], guard := none }) (v := _) rfl (by kernel_rfl) (by kernel_rfl) (by kernel_rfl) (fun _ _ _ h => h) (Or.inl ⟨by rfl, ?hyA3⟩) ?reA3
        case hyA3 => (intro W hSw; (try dsimp only at hSw); go_simp; try with_reducible rfl)
        try simp only [Act.put, List.setIfInBounds_toArray, List.set_cons_zero, List.set_cons_succ]
        refine' wpAnyJ_take (i := 3) (oi := { dst := some 63, op := Op.load 106 (Operand.tmp 62), type := 106, pos := "world.go:226", after := #[{ on := 2, ground := Ground.data }], guard := none }) (v := _) rfl (by kernel_rfl) (by kernel_rfl) (by kernel_rfl) (by kernel_rfl) (fun _ _ _ h => h) (Or.inl ⟨by rfl, ?hyA4⟩) (by assumption) ?reA4
        case hyA4 => (intro W hSw; (try dsimp only at hSw); go_simp; try with_reducible rfl)
        try simp only [Act.put, List.setIfInBounds_toArray, List.set_cons_zero, List.set_cons_succ]
        refine' wpAnyJ_take (i := 4) (oi := { dst := some 64, op := Op.load 29 (Operand.tmp 4), type := 29, pos := "world.go:226", after := #[], guard := none }) (v := _) rfl (by kernel_rfl) (by kernel_rfl) (by kernel_rfl) (by kernel_rfl) (fun _ _ _ h => h) (Or.inl ⟨by rfl, ?hyA5⟩) (by assumption) ?reA5
        case hyA5 => (intro W hSw; (try dsimp only at hSw); go_simp; try with_reducible rfl)
        try simp only [Act.put, List.setIfInBounds_toArray, List.set_cons_zero, List.set_cons_succ]
        refine' wpAnyJ_takeW (i := 5) (oi := { dst := some 65, op := Op.move (Operand.tmp 7), type := 3, pos := "world.go:226", after := #[], guard := none }) (v := _) rfl (by kernel_rfl) (by kernel_rfl) (by kernel_rfl) (fun _ _ _ h => h) (Or.inl ⟨by rfl, ?hyA6⟩) ?reA6
        case hyA6 => (intro W hSw; (try dsimp only at hSw); go_simp; try with_reducible rfl)
        try simp only [Act.put, List.setIfInBounds_toArray, List.set_cons_zero, List.set_cons_succ]
        refine wpAnyJ_ready (rs := [6]) (by kernel_rfl) (by simp) ?_
        refine AllReadyJ.cons (o := { dst := none, op := Op.mapUpdate 106 (Operand.tmp 63) (Operand.tmp 64) (Operand.tmp 65), type := 0, pos := "world.go:226", after := #[{ on := 3, ground := Ground.data }, { on := 4, ground := Ground.data }, { on := 5, ground := Ground.data }, { on := 0, ground := Ground.phase }, { on := 1, ground := Ground.phase }, { on := 2, ground := Ground.phase }, { on := 3, ground := Ground.phase }, { on := 4, ground := Ground.phase }, { on := 5, ground := Ground.phase }], guard := none }) rfl (fun K hK => ?_) AllReadyJ.nil
        go_simp
        refine hK.out _ _ (fun _ _ => ⟨y2, y0, y1⟩) ?_
        clear hK K
        try simp only [Act.put, List.setIfInBounds_toArray, List.set_cons_zero, List.set_cons_succ]
        refine wpAnyJ_done (by kernel_rfl) ?_ _
        refine NoPanic.normal ?_
        go_wp2_with fail
        go_end0
        refine ⟨rfl, l', g, _, HP.out, HS.out, ?_, K9.out⟩
        have eq1 : (fun x => if x = setOf l' then some g else q x) = q := by
          funext x
          by_cases e : x = setOf l'
          · rw [if_pos e, e, hq]
          · rw [if_neg e]
        have eq2 : moreT q T (setOf l') (a, b) (vals) = fun x => if x = setOf l' then ((T (setOf l')).1 ++ [(a, b)], addRow (T (setOf l')).2 (vals)) else T x := by
          unfold moreT baseT
          rw [hq]
          rfl
        rw [← HVL.out, EV.out.1, EV.out.2.1, EV.out.2.2, eq1, eq2]
        have hfin := H9.out.up (M' := M + 3) (by omega)
        exact hfin
      | none =>
        rw [hq] at hlk
        have HQq := hide hq
        simp only [Option.isSome_none] at hlk
        have JN := hide (new_any vals.length wr (by rw [HVL.out]; exact HM.out))
        clear hq hv9
        go_wp2_with fail
        refine JN.out.mono ?_
        rintro e w4 ⟨g, rfl, ht4, b4⟩
        clear JN hlk
        obtain ⟨w5, hst, hmq5, htn5⟩ := (H5.out.1.mq.same (b4.block gt (Nat.lt_of_lt_of_le hgt B3.out.size))).store (setOf l') g (by omega) (by omega)
        have h5 := H5.out.1.more (s := setOf l') b4 (t := ([], List.replicate vals.length [])) ⟨0, by omega, ht4⟩ (Nat.le_succ M) HQq.out htn5 hmq5
        have hm5 : Mv wr w5 (fun k => k = gt) := (Mv.of_below b4 _).trans (mv_turned htn5) (fun k _ e => e)
        have hnk : ¬ kx = gt := by omega
        have H6 : Hid (Wx 0 w5 (rel (rel (rel own w 0) wr (10 + setOf l')) w4 5) gw vk gp gm gt (M + 1) ks gs fr f (fun x => if x = setOf l' then some g else q x) (fun x => if x = setOf l' then ([], List.replicate vals.length []) else T x) ∧ Wk own (rel (rel (rel own w 0) wr (10 + setOf l')) w4 5) w w5 ∧ (w5.heap[kx]? = some (.cells #[.int .i64 a, .int .i64 b] 29 (0, 0)) ∧ rel (rel (rel own w 0) wr (10 + setOf l')) w4 5 kx = 0) ∧ Mv wr w5 (fun k => k = gt) ∧ ∀ k, (Value.slice a8 vals.length c8).ownBlock = some k → rel (rel (rel own w 0) wr (10 + setOf l')) w4 5 k = 0 ∧ k < w5.heap.size) := by
          have l1 : ∀ k, k < wr.heap.size → rel own w 0 k = 0 → rel (rel (rel own w 0) wr (10 + setOf l')) w4 5 k = 0 := fun k hk e => by
            rw [rel_old (Nat.lt_of_lt_of_le hk b4.size), rel_old hk, e]
          refine ⟨h5, (H5.out.2.1.trans (Wk.later (L := 10 + setOf l') b4)).trans (Wk.of (mv_turned htn5) (fun k _ e => ?_)), ⟨hm5.at H5.out.2.2.1.1 hnk, l1 _ (lt_of_block H5.out.2.2.1.1) H5.out.2.2.1.2⟩, hm5, fun k e => ?_⟩
          · rw [e, rel_old (Nat.lt_of_lt_of_le hgt B3.out.size), H5.out.1.1.2.2]
            decide
          · obtain ⟨e1, e2⟩ := H5.out.2.2.2.2 k e
            exact ⟨l1 k e2 e1, Nat.lt_of_lt_of_le e2 hm5.size⟩
        obtain ⟨-, -, -, c3'⟩ := (H5.out.1.later b4).cells
        obtain ⟨p0', p1'⟩ := kx_cells H6.out.2.2.1.1 (Below.refl _ w5)
        clear ht4 b4 hmq5 htn5 h5 hm5 c0 c1' c2 c3 p0 p1
        go_upto_region 15 with fail
        clear hst c3'
        have HI8 : Hid (Iz w5 (.slice a8 (vals).length c8) (vals)) := IZ8.out _ H6.out.2.2.2.1
        have JA := hide (add_wx (s := setOf l') (g := g) H6.out.1 a b hib _ _ HI8.out H6.out.2.2.2.2 (by simp) (by simp) (by simp) (by simp) (by omega))
        go_wp2_with fail
        refine JA.out.mono ?_
        rintro e w7 ⟨⟨r7, rfl⟩, h7, m7⟩
        have k7 : Wk own (rel (rel (rel (rel own w 0) wr (10 + setOf l')) w4 5) w5 (10 + setOf l')) w w7 := H6.out.2.1.trans (Wk.of m7 (fun k _ e => by have := e.2; omega))
        have x7 : w7.heap[kx]? = some (.cells #[.int .i64 a, .int .i64 b] 29 (0, 0)) ∧ rel (rel (rel (rel own w 0) wr (10 + setOf l')) w4 5) w5 (10 + setOf l') kx = 0 := ⟨m7.at H6.out.2.2.1.1 (fun e => by have := e.2; rw [H6.out.2.2.1.2] at this; omega), (rel_old (lt_of_block H6.out.2.2.1.1)).trans H6.out.2.2.1.2⟩
        have h8 := h7.later (below_drew w7)
        obtain ⟨w9, hst, hmp9, htn9⟩ := h8.mp.store (a, b) hib (setOf l') (by omega) (by omega)
        have h9 := h8.sets htn9 hmp9 (by omega)
        have k9 := (k7.trans (Wk.later (L := 0) (below_drew w7))).trans (Wk.of (L := 4) (mv_turned htn9) (fun k _ e => by rw [e, h8.1.2.1]; decide))
        obtain ⟨-, -, c2, -⟩ := h8.cells
        obtain ⟨z0, z1⟩ := kx_cells x7.1 (below_drew w7)
        obtain ⟨-, -, y2, -⟩ := h9.cells
        have hne : ¬ kx = gm := fun e => by have h1 := h7.1.2.1; rw [← e, x7.2] at h1; omega
        obtain ⟨y0, y1⟩ := kx_cells ((mv_turned htn9).at (w := w7.drew) x7.1 hne) (Below.refl _ w9)
        have H9 := hide h9
        have K9 := hide k9
        dsimp only at hst
        clear h7 m7 k7 x7 h8 hmp9 htn9 h9 k9 hne JA HI8
        go_upto_region 16 with fail
        refine wp_region_noPanic ?_
        refine wp_region_late (J := fun i => i != 99) (S := fun W => W.cell? ⟨gw, 2, none⟩ = some (.map (some gm)) ∧ W.cell? ⟨kx, 0, none⟩ = some (.int .i64 a) ∧ W.cell? ⟨kx, 1, none⟩ = some (.int .i64 b)) (by kernel_rfl) ⟨c2, z0, z1⟩ (fun hHeld => ?_)
        refine' wpAnyJ_takeW (i := 0) (oi := { dst := some 60, op := Op.move (Operand.tmp 0), type := 37, pos := "world.go:226", after := #[], guard := none }) (v := _) rfl (by kernel_rfl) (by kernel_rfl) (by kernel_rfl) (fun _ _ _ h => h) (Or.inl ⟨by rfl, ?hyB1⟩) ?reB1
        case hyB1 => (intro W hSw; (try dsimp only at hSw); go_simp; try with_reducible rfl)
        try simp only [Act.put, List.setIfInBounds_toArray, List.set_cons_zero, List.set_cons_succ]
        refine' wpAnyJ_takeW (i := 1) (oi := { dst := some 61, op := Op.nilCheck (Operand.tmp 60), type := 0, pos := "world.go:226", after := #[{ on := 0, ground := Ground.data }], guard := none }) (v := _) rfl (by kernel_rfl) (by kernel_rfl) (by kernel_rfl) (fun _ _ _ h => h) (Or.inl ⟨by rfl, ?hyB2⟩) ?reB2
        case hyB2 => (intro W hSw; (try dsimp only at hSw); go_simp; try with_reducible rfl)
        try simp only [Act.put, List.setIfInBounds_toArray, List.set_cons_zero, List.set_cons_succ]
        refine' wpAnyJ_takeW (i := 2) (oi := { dst := some 62, op := Op.fieldAddr 109 (Operand.tmp 61) 2, type := 0, pos := "world.go:226", after := #[{ on := 1, ground := Ground.data }], guard := none }) (v := _) rfl (by kernel_rfl) (by kernel_rfl) (by kernel_rfl) (fun _ _ _ h => h) (Or.inl ⟨by rfl, ?hyB3⟩) ?reB3
        case hyB3 => (intro W hSw; (try dsimp only at hSw); go_simp; try with_reducible rfl)
        try simp only [Act.put, List.setIfInBounds_toArray, List.set_cons_zero, List.set_cons_succ]
        refine' wpAnyJ_take (i := 3) (oi := { dst := some 63, op := Op.load 106 (Operand.tmp 62), type := 106, pos := "world.go:226", after := #[{ on := 2, ground := Ground.data }], guard := none }) (v := _) rfl (by kernel_rfl) (by kernel_rfl) (by kernel_rfl) (by kernel_rfl) (fun _ _ _ h => h) (Or.inl ⟨by rfl, ?hyB4⟩) (by assumption) ?reB4
        case hyB4 => (intro W hSw; (try dsimp only at hSw); go_simp; try with_reducible rfl)
        try simp only [Act.put, List.setIfInBounds_toArray, List.set_cons_zero, List.set_cons_succ]
        refine' wpAnyJ_take (i := 4) (oi := { dst := some 64, op := Op.load 29 (Operand.tmp 4), type := 29, pos := "world.go:226", after := #[], guard := none }) (v := _) rfl (by kernel_rfl) (by kernel_rfl) (by kernel_rfl) (by kernel_rfl) (fun _ _ _ h => h) (Or.inl ⟨by rfl, ?hyB5⟩) (by assumption) ?reB5
        case hyB5 => (intro W hSw; (try dsimp only at hSw); go_simp; try with_reducible rfl)
        try simp only [Act.put, List.setIfInBounds_toArray, List.set_cons_zero, List.set_cons_succ]
        refine' wpAnyJ_takeW (i := 5) (oi := { dst := some 65, op := Op.move (Operand.tmp 7), type := 3, pos := "world.go:226", after := #[], guard := none }) (v := _) rfl (by kernel_rfl) (by kernel_rfl) (by kernel_rfl) (fun _ _ _ h => h) (Or.inl ⟨by rfl, ?hyB6⟩) ?reB6
        case hyB6 => (intro W hSw; (try dsimp only at hSw); go_simp; try with_reducible rfl)
        try simp only [Act.put, List.setIfInBounds_toArray, List.set_cons_zero, List.set_cons_succ]
        refine wpAnyJ_ready (rs := [6]) (by kernel_rfl) (by simp) ?_
        refine AllReadyJ.cons (o := { dst := none, op := Op.mapUpdate 106 (Operand.tmp 63) (Operand.tmp 64) (Operand.tmp 65), type := 0, pos := "world.go:226", after := #[{ on := 3, ground := Ground.data }, { on := 4, ground := Ground.data }, { on := 5, ground := Ground.data }, { on := 0, ground := Ground.phase }, { on := 1, ground := Ground.phase }, { on := 2, ground := Ground.phase }, { on := 3, ground := Ground.phase }, { on := 4, ground := Ground.phase }, { on := 5, ground := Ground.phase }], guard := none }) rfl (fun K hK => ?_) AllReadyJ.nil
        go_simp
        refine hK.out _ _ (fun _ _ => ⟨y2, y0, y1⟩) ?_
        clear hK K
        try simp only [Act.put, List.setIfInBounds_toArray, List.set_cons_zero, List.set_cons_succ]
        refine wpAnyJ_done (by kernel_rfl) ?_ _
        refine NoPanic.normal ?_
        go_wp2_with fail
        go_end0
        refine ⟨rfl, l', g, _, HP.out, HS.out, ?_, K9.out⟩
        have eq2 : moreT q T (setOf l') (a, b) vals = fun x => if x = setOf l' then ((if True then (([], List.replicate vals.length []) : Ts) else T (setOf l')).1 ++ [(a, b)], addRow (if True then (([], List.replicate vals.length []) : Ts) else T (setOf l')).2 vals) else if x = setOf l' then ([], List.replicate vals.length []) else T x := by
          unfold moreT baseT
          rw [HQq.out]
          funext x
          by_cases e : x = setOf l'
          · simp [e]
          · simp [e]
        rw [← HVL.out, EV.out.1, EV.out.2.1, EV.out.2.2, eq2]
        have hfin := H9.out.up (M' := M + 3) (by omega)
        exact hfin
end
end Go.Proofs.YtafmiolehlagkaaGreat

/-
  A region that draws its order: a load may be taken first where only operations that wait for it write its cell.
  (As the library's own law on held regions, but the condition need not be shown behind those that wait for all that lean on it.)
-/
namespace Go.Proofs.YtafmiolehlagkaaGreat
section
variable {P : Program} {ops : Array Oper} {Q : Exit → Act → World → Prop} {md : Region.Mode} {J : Nat → Bool} {S : World → Prop}
end
end Go.Proofs.YtafmiolehlagkaaGreat
