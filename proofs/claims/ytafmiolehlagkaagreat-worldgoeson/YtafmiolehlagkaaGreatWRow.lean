/-
  World: Row.
-/
import Derived.Test.YtafmiolehlagkaaGreatWParts
namespace Go.Proofs.YtafmiolehlagkaaGreat
open Go.RowKit
set_option maxRecDepth 100000
section
variable {w w' : World} {own : Nat → Nat} {gw gp gm gt M M' : Nat} {vk : Value} {ks : List Kind} {gs fr gs' fr' : List Nat} {f f' : Int × Int → Option Nat} {q q' : Nat → Option Nat} {T T' : Nat → Ts}
theorem row_cells {w W : World} {kr : Nat} (h : w.heap[kr]? = some (.cells #[.int .i64 0, .int .i64 0, .slice none 0 0] 87 (0, 0))) (hb : Below w.heap.size w W) : (W.cell? ⟨kr, 0, none⟩ = some (.int .i64 0) ∧ W.cell? ⟨kr, 1, none⟩ = some (.int .i64 0) ∧ W.cell? ⟨kr, 2, none⟩ = some (.slice none 0 0)) ∧ W.frozen? ⟨kr, 0, none⟩ = false ∧ W.frozen? ⟨kr, 1, none⟩ = false ∧ W.frozen? ⟨kr, 2, none⟩ = false := by
  have hx := (hb.block kr (lt_of_block h)).trans h
  refine ⟨⟨?_, ?_, ?_⟩, frozen_of_row W kr 0 _ 87 hx, frozen_of_row W kr 1 _ 87 hx, frozen_of_row W kr 2 _ 87 hx⟩ <;> rw [cell_of_row W kr _ _ 87 (0, 0) hx] <;> rfl
set_option maxHeartbeats 4000000 in
theorem row_stale (h : Wx 0 w own gw vk gp gm gt M ks gs fr f q T) (a b : Int) (hl : livesOf gs fr a b = false) : Calls Tryz.prog 33 #[.pointer (some ⟨gw, 0, none⟩), .agg #[.int .i64 a, .int .i64 b]] w fun e w' => e = .returned (.tuple #[.agg #[.int .i64 0, .int .i64 0, .slice none 0 0], .int .i64 41]) ∧ Below w.heap.size w w' := by
  obtain ⟨w2, hw2⟩ : ∃ X, X = (w.alloc (.cells #[.int .i64 a, .int .i64 b] 29)).alloc (.cells #[.int .i64 0, .int .i64 0, .slice none 0 0] 87) := ⟨_, rfl⟩
  have B2 : Hid (Below w.heap.size w w2) := hw2 ▸ below_on (below_alloc w _) (below_alloc _ _)
  have hx1 : w2.heap[w.heap.size]? = some (.cells #[.int .i64 a, .int .i64 b] 29 (0, 0)) := by
    rw [hw2]
    exact ((below_alloc _ _).block w.heap.size (by simp)).trans (heap_alloc_new w _)
  have hx2 : w2.heap[w.heap.size + 1]? = some (.cells #[.int .i64 0, .int .i64 0, .slice none 0 0] 87 (0, 0)) := by
    have := heap_alloc_new (w.alloc (.cells #[.int .i64 a, .int .i64 b] 29)) (.cells #[.int .i64 0, .int .i64 0, .slice none 0 0] 87)
    rw [hw2]
    simpa using this
  have J1 := hide (wlives_any (h.later B2.out) a b)
  rw [hl] at J1
  clear h hl
  go_enter Tryz.func33, Tryz.ntmps33
  go_wp2_with fail
  rw [← hw2]
  obtain ⟨kx, hkx⟩ : ∃ k, k = w.heap.size := ⟨_, rfl⟩
  obtain ⟨kr, hkr⟩ : ∃ k, k = w.heap.size + 1 := ⟨_, rfl⟩
  have HKR : Hid (w.heap.size ≤ kr) := by unfold Hid; omega
  rw [← hkr] at hx2 ⊢
  rw [← hkx] at hx1 ⊢
  clear hkx hkr hw2
  refine J1.out.mono ?_
  rintro e w3 ⟨rfl, hb3⟩
  have B3 := hide (below_on B2.out hb3)
  obtain ⟨⟨z0, z1, z2⟩, f0, f1, f2⟩ := row_cells hx2 hb3
  have HB7 : Hid (Below w.heap.size w (((w3.setCell ⟨kr, 0, none⟩ (.int .i64 0)).setCell ⟨kr, 1, none⟩ (.int .i64 0)).setCell ⟨kr, 2, none⟩ (.slice none 0 0))) := below_set (below_set (below_set B3.out HKR.out) HKR.out) HKR.out
  clear hb3 hx1 hx2 J1
  go_wp2_with fail
  (try simp only [Exit.inBlock, Exit.then])
  refine bodyPost_ret (v := .tuple #[.agg #[.int .i64 0, .int .i64 0, .slice none 0 0], .int .i64 41]) ?_ rfl ⟨rfl, HB7.out⟩
  rw [results_cell_tmp rfl]
  go_simp
theorem row_end {w w5 W' : World} {B kr n c : Nat} {a5 : Option Addr} {L : List Pt} {R : List (Nat × List Int)} (hg : w5.grownBy W' (some kr)) (ho : w5.ownsRow B 32 2 (.slice a5 L.length c) L.length (pz L)) (hv : Pv B w5 L R) (hb : Below w.heap.size w w5) (hB : w.heap.size ≤ B) (hk : w.heap.size ≤ kr) (hkn : kr < n) (hn : n ≤ B) : (W'.ownsRow w.heap.size 32 2 (.slice a5 L.length c) L.length (pz L) ∧ Pv w.heap.size W' L R) ∧ Below w.heap.size w W' := by
  refine ⟨⟨own_lower (own_kept ho hg (fun j e e2 => by have := (ho.lt j e).1; have := Option.some.inj e2; omega)) hB, ?_⟩, hb.grown hg hb.size (fun j e => by have := Option.some.inj e; omega)⟩
  have h2 := hv.grown hg (fun p hp j e e2 => by
    obtain ⟨m, hm, rfl⟩ := List.getElem_of_mem hp
    have := ((hv.2 m hm (by rw [← hv.1]; exact hm)).2.lt j e).1
    have := Option.some.inj e2
    omega)
  exact ⟨h2.1, fun i h1 h3 => ⟨(h2.2 i h1 h3).1, own_lower (h2.2 i h1 h3).2 hB⟩⟩
set_option maxHeartbeats 8000000 in
theorem row_live (h : Wx 0 w own gw vk gp gm gt M ks gs fr f q T) (a b : Int) (hl : livesOf gs fr a b = true) (hib : InB (a, b)) (hks : ks.length ≤ 12) (s g i : Nat) (hf : f (a, b) = some s) (hq : q s = some g) (hs : s < 8192) (hi : i < (T s).1.length) (hx : (T s).1[i] = (a, b)) (hcol : (T s).2.length = fsum ks s 1) :
    Calls Tryz.prog 33 #[.pointer (some ⟨gw, 0, none⟩), .agg #[.int .i64 a, .int .i64 b]] w fun e w' => ∃ v, e = .returned (.tuple #[.agg #[.int .i64 a, .int .i64 b, v], .int .i64 0]) ∧ (∃ L, w'.ownsRow w.heap.size 32 2 v L.length (pz L) ∧ Pv w.heap.size w' L (partsL ks s 1 (rowOf (T s).2 i))) ∧ Below w.heap.size w w' := by
  obtain ⟨w2, hw2⟩ : ∃ X, X = (w.alloc (.cells #[.int .i64 a, .int .i64 b] 29)).alloc (.cells #[.int .i64 0, .int .i64 0, .slice none 0 0] 87) := ⟨_, rfl⟩
  have B2 : Hid (Below w.heap.size w w2) := hw2 ▸ below_on (below_alloc w _) (below_alloc _ _)
  have hx1 : w2.heap[w.heap.size]? = some (.cells #[.int .i64 a, .int .i64 b] 29 (0, 0)) := by
    rw [hw2]
    exact ((below_alloc _ _).block w.heap.size (by simp)).trans (heap_alloc_new w _)
  have hx2 : w2.heap[w.heap.size + 1]? = some (.cells #[.int .i64 0, .int .i64 0, .slice none 0 0] 87 (0, 0)) := by
    have := heap_alloc_new (w.alloc (.cells #[.int .i64 a, .int .i64 b] 29)) (.cells #[.int .i64 0, .int .i64 0, .slice none 0 0] 87)
    rw [hw2]
    simpa using this
  have J1 := hide (wlives_any (h.later B2.out) a b)
  rw [hl] at J1
  have JP : Hid (∀ W, Below w2.heap.size w2 W → Calls Tryz.prog 78 #[.pointer (some ⟨gw, 0, none⟩), .agg #[.int .i64 a, .int .i64 b]] W fun e w' => ∃ v, e = .returned v ∧ ∃ L, w'.ownsRow W.heap.size 32 2 v L.length (pz L) ∧ Pv W.heap.size w' L (partsL ks s 1 (rowOf (T s).2 i)) ∧ Below W.heap.size W w') := fun W hW => parts_any (h.later (below_on B2.out hW)) a b hib hks s g i hf hq hs hi hx hcol
  generalize partsL ks s 1 (rowOf (T s).2 i) = R at *
  clear h hl hf hq hi hx hcol
  go_enter Tryz.func33, Tryz.ntmps33
  go_wp2_with fail
  rw [← hw2]
  obtain ⟨kx, hkx⟩ : ∃ k, k = w.heap.size := ⟨_, rfl⟩
  obtain ⟨kr, hkr⟩ : ∃ k, k = w.heap.size + 1 := ⟨_, rfl⟩
  have HKR : Hid (w.heap.size ≤ kr) := by unfold Hid; omega
  rw [← hkr] at hx2 ⊢
  rw [← hkx] at hx1 ⊢
  clear hkx hkr hw2
  refine J1.out.mono ?_
  rintro e w3 ⟨rfl, hb3⟩
  have B3 := hide (below_on B2.out hb3)
  obtain ⟨p0, p1⟩ := kx_cells hx1 (below_on hb3 (below_drew w3))
  have J2 := hide (JP.out w3.drew (below_on hb3 (below_drew w3)))
  have X1 := hide hx1
  have X2 := hide hx2
  have HB3 := hide hb3
  clear JP J1 hb3 hx1 hx2
  go_upto_region 3 with fail
  refine wp_region_noPanic ?_
  refine wp_region_late (J := fun i => i != 5) (S := fun W => W.cell? ⟨kx, 0, none⟩ = some (.int .i64 a) ∧ W.cell? ⟨kx, 1, none⟩ = some (.int .i64 b)) (by kernel_rfl) ⟨p0, p1⟩ (fun hHeld => ?_)
  refine' wpAnyJ_take (i := 0) (oi := { dst := some 11, op := Op.load 29 (Operand.tmp 3), type := 29, pos := "world.go:118", after := #[], guard := none }) (v := _) rfl (by kernel_rfl) (by kernel_rfl) (by kernel_rfl) (by kernel_rfl) (fun _ _ _ h => h) (Or.inl ⟨by rfl, ?hyA1⟩) (by assumption) ?reA1
  case hyA1 => (intro W hSw; (try dsimp only at hSw); go_simp; try with_reducible rfl)
  try simp only [Act.put, List.setIfInBounds_toArray, List.set_cons_zero, List.set_cons_succ]
  refine' wpAnyJ_takeW (i := 1) (oi := { dst := some 12, op := Op.move (Operand.tmp 0), type := 37, pos := "world.go:118", after := #[], guard := none }) (v := _) rfl (by kernel_rfl) (by kernel_rfl) (by kernel_rfl) (fun _ _ _ h => h) (Or.inl ⟨by rfl, ?hyA2⟩) ?reA2
  case hyA2 => (intro W hSw; (try dsimp only at hSw); go_simp; try with_reducible rfl)
  try simp only [Act.put, List.setIfInBounds_toArray, List.set_cons_zero, List.set_cons_succ]
  refine' wpAnyJ_take (i := 2) (oi := { dst := some 13, op := Op.load 29 (Operand.tmp 3), type := 29, pos := "world.go:118", after := #[], guard := none }) (v := _) rfl (by kernel_rfl) (by kernel_rfl) (by kernel_rfl) (by kernel_rfl) (fun _ _ _ h => h) (Or.inl ⟨by rfl, ?hyA3⟩) (by assumption) ?reA3
  case hyA3 => (intro W hSw; (try dsimp only at hSw); go_simp; try with_reducible rfl)
  try simp only [Act.put, List.setIfInBounds_toArray, List.set_cons_zero, List.set_cons_succ]
  refine wpAnyJ_ready (rs := [3]) (by kernel_rfl) (by simp) ?_
  refine AllReadyJ.cons (o := { dst := some 14, op := Op.call { callee := Callee.value (Operand.func 78), args := #[Operand.tmp 12, Operand.tmp 13], argTypes := #[37, 29] }, type := 33, pos := "world.go:118", after := #[{ on := 1, ground := Ground.data }, { on := 2, ground := Ground.data }], guard := none }) rfl (fun K hK => ?_) AllReadyJ.nil
  go_simp
  go_at_call 78
  refine J2.out.mono ?_
  rintro e w5 ⟨v5, rfl, L, ho5, hv5, hb5⟩
  have b6 := below_on HB3.out (below_on (below_drew w3) hb5)
  obtain ⟨⟨z0, z1, z2⟩, f0, f1, f2⟩ := row_cells X2.out b6
  obtain ⟨y0, y1⟩ := kx_cells X1.out b6
  obtain ⟨a5, c5, rfl⟩ := own_len ho5
  have HE : Hid (∀ W', w5.grownBy W' (some kr) → (W'.ownsRow w.heap.size 32 2 (.slice a5 L.length c5) L.length (pz L) ∧ Pv w.heap.size W' L R) ∧ Below w.heap.size w W') := fun W' hg => row_end hg ho5 hv5 (below_on B2.out b6) (below_on B2.out HB3.out).size HKR.out (lt_of_block X2.out) HB3.out.size
  clear b6 ho5 hv5 hb5
  go_simp
  refine hK.out _ _ (fun _ _ => ⟨y0, y1⟩) ?_
  clear hK K J2
  try simp only [Act.put, List.setIfInBounds_toArray, List.set_cons_zero, List.set_cons_succ]
  refine' wpAnyJ_takeW (i := 4) (oi := { dst := some 15, op := Op.build 87 #[(0, Operand.tmp 11), (1, Operand.tmp 14)], type := 87, pos := "world.go:118", after := #[{ on := 0, ground := Ground.data }, { on := 3, ground := Ground.data }], guard := none }) (v := _) rfl (by kernel_rfl) (by kernel_rfl) (by kernel_rfl) (fun _ _ _ h => h) (Or.inl ⟨by rfl, ?hyA4⟩) ?reA4
  case hyA4 => (intro W hSw; (try dsimp only at hSw); go_simp; try with_reducible rfl)
  try simp only [Act.put, List.setIfInBounds_toArray, List.set_cons_zero, List.set_cons_succ]
  refine wpAnyJ_ready (rs := [5]) (by kernel_rfl) (by simp) ?_
  refine AllReadyJ.cons (o := { dst := none, op := Op.store 87 (Operand.tmp 4) (Operand.tmp 15), type := 0, pos := "world.go:118", after := #[{ on := 4, ground := Ground.data }, { on := 3, ground := Ground.chain }, { on := 0, ground := Ground.phase }, { on := 1, ground := Ground.phase }, { on := 2, ground := Ground.phase }, { on := 3, ground := Ground.phase }, { on := 4, ground := Ground.phase }], guard := none }) rfl (fun K hK => ?_) AllReadyJ.nil
  go_simp
  refine hK.out _ _ (fun h => absurd h (by decide)) ?_
  clear hK K
  try simp only [Act.put, List.setIfInBounds_toArray, List.set_cons_zero, List.set_cons_succ]
  refine' wpAnyJ_takeW (i := 6) (oi := { dst := some 5, op := Op.assign (Operand.const (Value.int IntKind.i64 0)), type := 61, pos := "world.go:118", after := #[{ on := 5, ground := Ground.chain }, { on := 0, ground := Ground.phase }, { on := 1, ground := Ground.phase }, { on := 2, ground := Ground.phase }, { on := 3, ground := Ground.phase }, { on := 4, ground := Ground.phase }, { on := 5, ground := Ground.phase }], guard := none }) (v := _) rfl (by kernel_rfl) (by kernel_rfl) (by kernel_rfl) (fun _ _ _ h => h) (Or.inl ⟨by rfl, ?hyA5⟩) ?reA5
  case hyA5 => (intro W hSw; (try dsimp only at hSw); go_simp; try with_reducible rfl)
  try simp only [Act.put, List.setIfInBounds_toArray, List.set_cons_zero, List.set_cons_succ]
  refine wpAnyJ_done (by kernel_rfl) ?_ _
  refine NoPanic.normal ?_
  have hg9 : w5.grownBy (((w5.setCell ⟨kr, 0, none⟩ (.int .i64 a)).setCell ⟨kr, 1, none⟩ (.int .i64 b)).setCell ⟨kr, 2, none⟩ (.slice a5 L.length c5)) (some kr) := grown_two (grown_two (grown_set _ _ _ _) (grown_set _ _ _ _)) (grown_set _ _ _ _)
  have HF := hide (HE.out _ hg9)
  clear hg9 HE
  go_wp2_with fail
  (try simp only [Exit.inBlock, Exit.then])
  refine bodyPost_ret (v := .tuple #[.agg #[.int .i64 a, .int .i64 b, .slice a5 L.length c5], .int .i64 0]) ?_ rfl ⟨_, rfl, ⟨L, HF.out.1⟩, HF.out.2⟩
  rw [results_cell_tmp rfl]
  go_simp
end
end Go.Proofs.YtafmiolehlagkaaGreat
