/-
  Buffer, full: Remove of somebody who does not live.
-/
import Derived.Test.YtiolaenkfhcajaaGreatBWor
namespace Go.Proofs.YtiolaenkfhcajaaGreat
open Go.RowKit
set_option maxRecDepth 100000
section
variable {w w' : World} {own : Nat → Nat} {gw gp gm gt M : Nat} {vk : Value} {ks : List Kind} {gs fr : List Nat} {f : Int × Int → Option Nat} {q : Nat → Option Nat} {T : Nat → Ts}
set_option maxHeartbeats 4000000 in
theorem has_stale (h : Wx 0 w own gw vk gp gm gt M ks gs fr f q T) (a b x : Int) (hl : livesOf gs fr a b = false) :
    Calls Tryz.prog 56 #[.pointer (some ⟨gw, 0, none⟩), .agg #[.int .i64 a, .int .i64 b], .int .i64 x] w fun e w' => e = .returned (.int .i64 41) ∧ Below w.heap.size w w' := by
  obtain ⟨w1, hw1⟩ : ∃ X, X = w.alloc (.cells #[.int .i64 a, .int .i64 b] 36) := ⟨_, rfl⟩
  have B1 : Below w.heap.size w w1 := hw1 ▸ below_alloc w _
  have hx1 : w1.heap[w.heap.size]? = some (.cells #[.int .i64 a, .int .i64 b] 36 (0, 0)) := hw1 ▸ heap_alloc_new w _
  have H1 := hide (h.later B1)
  have HB1 := hide B1
  have JL : Hid (Calls Tryz.prog 13 #[.pointer (some ⟨gw, 0, none⟩), .agg #[.int .i64 a, .int .i64 b]] w1 fun e w' => e = .returned (.bool false) ∧ Below w1.heap.size w1 w') := by
    unfold Hid
    rw [← hl]
    exact wlives_any H1.out a b
  have p0 : w1.cell? ⟨w.heap.size, 0, none⟩ = some (.int .i64 a) := by rw [cell_of_row w1 _ _ _ 36 (0, 0) hx1]; rfl
  have p1 : w1.cell? ⟨w.heap.size, 1, none⟩ = some (.int .i64 b) := by rw [cell_of_row w1 _ _ _ 36 (0, 0) hx1]; rfl
  clear h H1 hl
  go_enter Tryz.func56, Tryz.ntmps56
  go_upto_region 1 with fail
  rw [← hw1]
  obtain ⟨kx, hkx⟩ : ∃ k, k = w.heap.size := ⟨_, rfl⟩
  rw [← hkx] at p0 p1 ⊢
  clear hx1 hw1 hkx B1
  go_wp2_with fail
  refine JL.out.mono ?_
  rintro e w2 ⟨rfl, hb2⟩
  have HB2 := hide hb2
  clear hb2
  go_wp2_with fail
  go_ret
  exact ⟨rfl, below_on HB1.out HB2.out⟩
set_option maxHeartbeats 4000000 in
theorem remove_stale (h : Wx 0 w own gw vk gp gm gt M ks gs fr f q T) (a b x : Int) (hl : livesOf gs fr a b = false) :
    Calls Tryz.prog 37 #[.pointer (some ⟨gw, 0, none⟩), .agg #[.int .i64 a, .int .i64 b], .int .i64 x] w fun e w' => e = .returned (.int .i64 41) ∧ Below w.heap.size w w' := by
  have JH : Hid (∀ W, Below w.heap.size w W → Calls Tryz.prog 56 #[.pointer (some ⟨gw, 0, none⟩), .agg #[.int .i64 a, .int .i64 b], .int .i64 x] W fun e w' => e = .returned (.int .i64 41) ∧ Below W.heap.size W w') := fun W hW => has_stale (h.later hW) a b x hl
  clear h hl
  have B2 : Hid (Below w.heap.size w ((w.alloc (.cells #[.int .i64 a, .int .i64 b] 36)).alloc (.cells #[.int .i64 x] 3))) := below_on (below_alloc w _) (below_alloc _ _)
  have J1 := hide (JH.out _ B2.out)
  go_enter Tryz.func37, Tryz.ntmps37
  go_wp2_with fail
  refine J1.out.mono ?_
  rintro e w3 ⟨rfl, hb3⟩
  have HB3 := hide (below_on B2.out hb3)
  clear hb3 J1 JH
  go_wp2_with fail
  go_ret
  exact ⟨rfl, HB3.out⟩
end
set_option maxHeartbeats 4000000 in
theorem apply_remove {w : World} {gw n c : Nat} {a : Option Addr} (ix gn kd z : Int)
    (JS : Hid (∀ V, Below w.heap.size w V → Calls Tryz.prog 37 #[.pointer (some ⟨gw, 0, none⟩), .agg #[.int .i64 ix, .int .i64 gn], .int .i64 kd] V fun e w' => e = .returned (.int .i64 z) ∧ Below V.heap.size V w')) :
    Calls Tryz.prog 20 #[.pointer (some ⟨gw, 0, none⟩), .agg #[.int .i64 4, .int .i64 ix, .int .i64 gn, .int .i64 kd, .slice none 0 0, .slice a n c]] w fun e w2 => e = .returned (.tuple #[.agg #[.int .i64 0, .int .i64 0], .int .i64 z]) ∧ Below w.heap.size w w2 := by
  obtain ⟨V, hV⟩ : ∃ X, X = (w.alloc (.cells #[.int .i64 4, .int .i64 ix, .int .i64 gn, .int .i64 kd, .slice none 0 0, .slice a n c] 40)).alloc (.cells #[.int .i64 0, .int .i64 0] 36) := ⟨_, rfl⟩
  have bV : Below w.heap.size w V := by rw [hV]; exact below_on (below_alloc w _) (below_alloc _ _)
  have rk : V.heap[w.heap.size + 1]? = some (.cells #[.int .i64 0, .int .i64 0] 36 (0, 0)) := by
    rw [hV]
    have := heap_alloc_new (w.alloc (.cells #[.int .i64 4, .int .i64 ix, .int .i64 gn, .int .i64 kd, .slice none 0 0, .slice a n c] 40)) (.cells #[.int .i64 0, .int .i64 0] 36)
    simpa using this
  have rc : V.heap[w.heap.size]? = some (.cells #[.int .i64 4, .int .i64 ix, .int .i64 gn, .int .i64 kd, .slice none 0 0, .slice a n c] 40 (0, 0)) := by
    rw [hV]
    exact ((below_alloc (w.alloc (.cells #[.int .i64 4, .int .i64 ix, .int .i64 gn, .int .i64 kd, .slice none 0 0, .slice a n c] 40)) _).block w.heap.size (by simp)).trans (heap_alloc_new w _)
  have J := hide (JS.out V bV)
  have BV := hide bV
  clear JS
  go_enter Tryz.func20, Tryz.ntmps20
  go_upto_region 1 with fail
  rw [← hV]
  obtain ⟨kr, hkr⟩ : ∃ k, k = w.heap.size + 1 := ⟨_, rfl⟩
  obtain ⟨kc, hkc⟩ : ∃ k, k = w.heap.size := ⟨_, rfl⟩
  rw [← hkr] at rk
  rw [← hkc] at rc
  rw [← hkr, ← hkc]
  have RK := hide rk
  have x0 : V.cell? ⟨kc, 0, none⟩ = some (.int .i64 4) := by rw [cell_of_row V _ _ _ 40 (0, 0) rc]; rfl
  have x1 : V.cell? ⟨kc, 1, none⟩ = some (.int .i64 ix) := by rw [cell_of_row V _ _ _ 40 (0, 0) rc]; rfl
  have x2 : V.cell? ⟨kc, 2, none⟩ = some (.int .i64 gn) := by rw [cell_of_row V _ _ _ 40 (0, 0) rc]; rfl
  have x3 : V.cell? ⟨kc, 3, none⟩ = some (.int .i64 kd) := by rw [cell_of_row V _ _ _ 40 (0, 0) rc]; rfl
  have HK : Hid (w.heap.size ≤ kr) := by unfold Hid; omega
  clear hV hkr hkc rk rc bV
  go_wp2_with fail
  refine J.out.mono ?_
  rintro e w' ⟨rfl, hR⟩
  have HB := hide (below_on BV.out hR)
  have rk' := (hR.block kr (lt_of_block RK.out)).trans RK.out
  have y0 : w'.cell? ⟨kr, 0, none⟩ = some (.int .i64 0) := by rw [cell_of_row w' _ _ _ 36 (0, 0) rk']; rfl
  have y1 : w'.cell? ⟨kr, 1, none⟩ = some (.int .i64 0) := by rw [cell_of_row w' _ _ _ 36 (0, 0) rk']; rfl
  have z0 := frozen_of_row w' kr 0 _ 36 rk'
  have z1 := frozen_of_row w' kr 1 _ 36 rk'
  obtain ⟨w2, hw2⟩ : ∃ X, X = (w'.setCell ⟨kr, 0, none⟩ (.int .i64 0)).setCell ⟨kr, 1, none⟩ (.int .i64 0) := ⟨_, rfl⟩
  have HM : Hid (Below w.heap.size w w2) := by unfold Hid; rw [hw2]; exact (HB.out.setCell HK.out _).setCell HK.out _
  have r2 : w2.heap[kr]? = some (.cells #[.int .i64 0, .int .i64 0] 36 (0, 0)) := by
    rw [hw2]
    exact heap_setCell_same _ kr 1 _ 36 _ (heap_setCell_same w' kr 0 _ 36 _ rk')
  have R2 := hide r2
  clear rk' r2 hR J
  go_wp2_with fail
  (try simp only [Exit.inBlock, Exit.then])
  rw [← hw2]
  have u0 : w2.cell? ⟨kr, 0, none⟩ = some (.int .i64 0) := by rw [cell_of_row w2 _ _ _ 36 (0, 0) R2.out]; rfl
  have u1 : w2.cell? ⟨kr, 1, none⟩ = some (.int .i64 0) := by rw [cell_of_row w2 _ _ _ 36 (0, 0) R2.out]; rfl
  refine bodyPost_ret (v := .tuple #[.agg #[.int .i64 0, .int .i64 0], .int .i64 z]) ?_ rfl ⟨rfl, HM.out⟩
  rw [results_cell_tmp rfl]
  go_simp
end Go.Proofs.YtiolaenkfhcajaaGreat
