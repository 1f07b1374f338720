/-
  Buffer: turns are held against one another.
-/
import Derived.Test.YtiolaenkfhcajaaGreatBLaid
import Derived.Deep.RegionHeld3
namespace Go.Proofs.YtiolaenkfhcajaaGreat
open Go.RowKit Go.Shelf Go.Lib Go.Sort
set_option maxRecDepth 100000
theorem or_any {W : World} {g : Nat} (a b : Int) (h0 : W.cell? ⟨g, 0, none⟩ = some (.int .i64 a)) (h1 : W.cell? ⟨g, 1, none⟩ = some (.int .i64 b)) : Calls Tryz.prog 33 #[.slice (some ⟨g, 0, none⟩) 2 2] W fun e w' => e = .returned (.int .i64 (if a = 0 then b else a)) ∧ w' = W := by
  by_cases ha : a = 0
  · subst ha
    rw [if_pos rfl]
    by_cases hb : b = 0
    · subst hb
      go_enter Tryz.func33, Tryz.ntmps33
      go_wp2_with fail
      refine wp_loop_rounds 3 ?_
      rw [rounds_succ]
      go_wp2_with fail
      rw [rounds_succ]
      go_wp2_with fail
      rw [rounds_succ]
      go_wp2_with fail
      go_ret
      exact ⟨rfl, rfl⟩
    · have tb : (b != 0) = true := by rw [bne_iff_ne]; exact hb
      have HB := hide hb
      clear hb
      go_enter Tryz.func33, Tryz.ntmps33
      go_wp2_with fail
      refine wp_loop_rounds 3 ?_
      rw [rounds_succ]
      go_wp2_with fail
      rw [rounds_succ]
      go_wp2_with fail
      go_ret
      exact ⟨rfl, rfl⟩
  · rw [if_neg ha]
    have ta : (a != 0) = true := by rw [bne_iff_ne]; exact ha
    have HA := hide ha
    clear ha
    go_enter Tryz.func33, Tryz.ntmps33
    go_wp2_with fail
    refine wp_loop_rounds 3 ?_
    rw [rounds_succ]
    go_wp2_with fail
    go_ret
    exact ⟨rfl, rfl⟩
/-- By their systems, then by their numbers. -/
def cfT (p r : Int × Int) : Int := if Lib.compareInt p.1 r.1 = 0 then Lib.compareInt p.2 r.2 else Lib.compareInt p.1 r.1
def encT (p : Int × Int) : List Value := [.int .i64 p.1, .int .i64 p.2]
set_option maxHeartbeats 4000000 in
theorem turns_any (p r : Int × Int) (w : World) : Calls Tryz.prog 19 #[.agg (encT p).toArray, .agg (encT r).toArray] w fun e w' => e = .returned (.int .i64 (cfT p r)) ∧ ∃ q os', w' = grow (w.drewN q) os' := by
  obtain ⟨x, x2⟩ := p
  obtain ⟨y, y2⟩ := r
  unfold encT cfT
  dsimp only
  have J : Hid (∀ a b W, Calls Tryz.prog 24 #[.int .i64 a, .int .i64 b] W fun e w' => e = .returned (.int .i64 (Lib.compareInt a b)) ∧ w' = W) := fun a b W => cmp_any a b W
  obtain ⟨zx, hzx⟩ : ∃ z, z = Lib.compareInt x y := ⟨_, rfl⟩
  obtain ⟨zy, hzy⟩ : ∃ z, z = Lib.compareInt x2 y2 := ⟨_, rfl⟩
  have J1 : Hid (∀ W, Calls Tryz.prog 24 #[.int .i64 x, .int .i64 y] W fun e w' => e = .returned (.int .i64 zx) ∧ w' = W) := fun W => hzx ▸ J.out x y W
  have J2 : Hid (∀ W, Calls Tryz.prog 24 #[.int .i64 x2, .int .i64 y2] W fun e w' => e = .returned (.int .i64 zy) ∧ w' = W) := fun W => hzy ▸ J.out x2 y2 W
  rw [← hzx, ← hzy]
  obtain ⟨zr, hzr⟩ : ∃ z, z = if zx = 0 then zy else zx := ⟨_, rfl⟩
  have JO : Hid (∀ W : World, Calls Tryz.prog 33 #[.slice (some ⟨W.heap.size, 0, none⟩) 2 2] (W.alloc (.cells #[.int .i64 zx, .int .i64 zy] 3)).drew fun e w' => e = .returned (.int .i64 zr) ∧ w' = (W.alloc (.cells #[.int .i64 zx, .int .i64 zy] 3)).drew) := fun W => hzr ▸ or_any zx zy ((cell_of_row (W.alloc (.cells #[.int .i64 zx, .int .i64 zy] 3)) _ _ _ 3 (0, 0) (heap_alloc_new W _)).trans rfl) ((cell_of_row (W.alloc (.cells #[.int .i64 zx, .int .i64 zy] 3)) _ _ _ 3 (0, 0) (heap_alloc_new W _)).trans rfl)
  rw [← hzr]
  clear J hzx hzy hzr
  go_enter Tryz.func19, Tryz.ntmps19
  go_wp2_with fail
  obtain ⟨w0, hw0⟩ : ∃ X, X = (w.alloc (.cells #[.int .i64 x, .int .i64 x2] 68)).alloc (.cells #[.int .i64 y, .int .i64 y2] 68) := ⟨_, rfl⟩
  have G0 : Hid (w0 = grow w #[.cells #[.int .i64 x, .int .i64 x2] 68 (0, 0), .cells #[.int .i64 y, .int .i64 y2] 68 (0, 0)]) := by
    unfold Hid
    rw [hw0, alloc_eq_grow, alloc_eq_grow, grow_grow]
    rfl
  have k0 : w0.heap[w.heap.size]? = some (.cells #[.int .i64 x, .int .i64 x2] 68 (0, 0)) := by
    rw [hw0]
    exact ((below_alloc (w.alloc (.cells #[.int .i64 x, .int .i64 x2] 68)) _).block w.heap.size (by simp)).trans (heap_alloc_new w _)
  have k1 : w0.heap[w.heap.size + 1]? = some (.cells #[.int .i64 y, .int .i64 y2] 68 (0, 0)) := by
    rw [hw0]
    have := heap_alloc_new (w.alloc (.cells #[.int .i64 x, .int .i64 x2] 68)) (.cells #[.int .i64 y, .int .i64 y2] 68)
    simpa using this
  rw [← hw0]
  obtain ⟨kx, hkx⟩ : ∃ k, k = w.heap.size := ⟨_, rfl⟩
  obtain ⟨ky, hky⟩ : ∃ k, k = w.heap.size + 1 := ⟨_, rfl⟩
  rw [← hkx] at k0
  rw [← hky] at k1
  rw [← hky, ← hkx]
  have c0 : w0.cell? ⟨kx, 0, none⟩ = some (.int .i64 x) := by rw [cell_of_row w0 _ _ _ 68 (0, 0) k0]; rfl
  have c1 : w0.cell? ⟨kx, 1, none⟩ = some (.int .i64 x2) := by rw [cell_of_row w0 _ _ _ 68 (0, 0) k0]; rfl
  have c2 : w0.cell? ⟨ky, 0, none⟩ = some (.int .i64 y) := by rw [cell_of_row w0 _ _ _ 68 (0, 0) k1]; rfl
  have c3 : w0.cell? ⟨ky, 1, none⟩ = some (.int .i64 y2) := by rw [cell_of_row w0 _ _ _ 68 (0, 0) k1]; rfl
  clear k0 k1 hw0 hkx hky
  go_region_held3 (fun V => V.cell? ⟨kx, 0, none⟩ = some (.int .i64 x) ∧ V.cell? ⟨kx, 1, none⟩ = some (.int .i64 x2) ∧ V.cell? ⟨ky, 0, none⟩ = some (.int .i64 y) ∧ V.cell? ⟨ky, 1, none⟩ = some (.int .i64 y2)) (go_keep) ((first | (go_at_call_of 24 (Value.int .i64 x); refine (J1.out _).mono ?_; rintro e w3 ⟨rfl, rfl⟩) | (go_at_call_of 24 (Value.int .i64 x2); refine (J2.out _).mono ?_; rintro e w4 ⟨rfl, rfl⟩) | (go_at_call 33; refine (JO.out _).mono ?_; rintro e w5 ⟨rfl, rfl⟩)))
  go_wp2_with fail
  go_ret
  refine ⟨rfl, 1, #[.cells #[.int .i64 x, .int .i64 x2] 68 (0, 0), .cells #[.int .i64 y, .int .i64 y2] 68 (0, 0), .cells #[.int .i64 zx, .int .i64 zy] 3 (0, 0)], ?_⟩
  rw [alloc_eq_grow, G0.out, grow_grow]
  rfl
end Go.Proofs.YtiolaenkfhcajaaGreat
