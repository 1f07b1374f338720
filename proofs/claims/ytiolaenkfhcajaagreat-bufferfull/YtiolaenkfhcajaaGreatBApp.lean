/-
  Buffer: one command is done.
-/
import Derived.Test.YtiolaenkfhcajaaGreatBKs
import Derived.Laws.ResultCell
namespace Go.Proofs.YtiolaenkfhcajaaGreat
open Go.RowKit
set_option maxRecDepth 100000
set_option maxHeartbeats 4000000 in
theorem apply_spawn {w : World} {gw n c : Nat} {a : Option Addr} {x y : Int} {R : World → World → Prop} (ix gn kd : Int)
    (JS : Hid (∀ V, Below w.heap.size w V → Calls Tryz.prog 34 #[.pointer (some ⟨gw, 0, none⟩), .slice a n c] V fun e w' => e = .returned (.tuple #[.agg #[.int .i64 x, .int .i64 y], .int .i64 0]) ∧ R V w'))
    (HR : ∀ V w', Below w.heap.size w V → R V w' → ∀ k, w.heap.size ≤ k → k < V.heap.size → w'.heap[k]? = V.heap[k]?) :
    Calls Tryz.prog 20 #[.pointer (some ⟨gw, 0, none⟩), .agg #[.int .i64 1, .int .i64 ix, .int .i64 gn, .int .i64 kd, .slice none 0 0, .slice a n c]] w fun e w2 => e = .returned (.tuple #[.agg #[.int .i64 x, .int .i64 y], .int .i64 0]) ∧ ∃ V w' kr, Below w.heap.size w V ∧ R V w' ∧ w.heap.size ≤ kr ∧ kr < V.heap.size ∧ Mv w' w2 (fun k => k = kr) := by
  have HR' := hide HR
  obtain ⟨V, hV⟩ : ∃ X, X = (w.alloc (.cells #[.int .i64 1, .int .i64 ix, .int .i64 gn, .int .i64 kd, .slice none 0 0, .slice a n c] 40)).alloc (.cells #[.int .i64 0, .int .i64 0] 36) := ⟨_, rfl⟩
  have bV : Below w.heap.size w V := by rw [hV]; exact below_on (below_alloc w _) (below_alloc _ _)
  have rk : V.heap[w.heap.size + 1]? = some (.cells #[.int .i64 0, .int .i64 0] 36 (0, 0)) := by
    rw [hV]
    have := heap_alloc_new (w.alloc (.cells #[.int .i64 1, .int .i64 ix, .int .i64 gn, .int .i64 kd, .slice none 0 0, .slice a n c] 40)) (.cells #[.int .i64 0, .int .i64 0] 36)
    simpa using this
  have rc : V.heap[w.heap.size]? = some (.cells #[.int .i64 1, .int .i64 ix, .int .i64 gn, .int .i64 kd, .slice none 0 0, .slice a n c] 40 (0, 0)) := by
    rw [hV]
    exact ((below_alloc (w.alloc (.cells #[.int .i64 1, .int .i64 ix, .int .i64 gn, .int .i64 kd, .slice none 0 0, .slice a n c] 40)) _).block w.heap.size (by simp)).trans (heap_alloc_new w _)
  have J := hide (JS.out V bV)
  have BV := hide bV
  go_enter Tryz.func20, Tryz.ntmps20
  go_upto_region 1 with fail
  rw [← hV]
  obtain ⟨kr, hkr⟩ : ∃ k, k = w.heap.size + 1 := ⟨_, rfl⟩
  obtain ⟨kc, hkc⟩ : ∃ k, k = w.heap.size := ⟨_, rfl⟩
  rw [← hkr] at rk
  rw [← hkc] at rc
  rw [← hkr, ← hkc]
  have RK := hide rk
  have x0 : V.cell? ⟨kc, 0, none⟩ = some (.int .i64 1) := by rw [cell_of_row V _ _ _ 40 (0, 0) rc]; rfl
  have x5 : V.cell? ⟨kc, 5, none⟩ = some (.slice a n c) := by rw [cell_of_row V _ _ _ 40 (0, 0) rc]; rfl
  have HK : Hid (w.heap.size ≤ kr ∧ kr < V.heap.size) := ⟨by omega, lt_of_block rk⟩
  clear hV hkr hkc rk rc bV HR
  go_wp2_with fail
  refine J.out.mono ?_
  rintro e w' ⟨rfl, hR⟩
  have HRR := hide hR
  have rk' := (HR'.out V w' BV.out hR kr HK.out.1 HK.out.2).trans RK.out
  have y0 : w'.cell? ⟨kr, 0, none⟩ = some (.int .i64 0) := by rw [cell_of_row w' _ _ _ 36 (0, 0) rk']; rfl
  have y1 : w'.cell? ⟨kr, 1, none⟩ = some (.int .i64 0) := by rw [cell_of_row w' _ _ _ 36 (0, 0) rk']; rfl
  have z0 := frozen_of_row w' kr 0 _ 36 rk'
  have z1 := frozen_of_row w' kr 1 _ 36 rk'
  obtain ⟨w2, hw2⟩ : ∃ X, X = (w'.setCell ⟨kr, 0, none⟩ (.int .i64 x)).setCell ⟨kr, 1, none⟩ (.int .i64 y) := ⟨_, rfl⟩
  have HM : Hid (Mv w' w2 (fun k => k = kr)) := by unfold Hid; rw [hw2]; exact ((Mv.refl w' (fun k => k = kr)).set rfl 0 _).set rfl 1 _
  have r2 : w2.heap[kr]? = some (.cells #[.int .i64 x, .int .i64 y] 36 (0, 0)) := by
    rw [hw2]
    exact heap_setCell_same _ kr 1 _ 36 _ (heap_setCell_same w' kr 0 _ 36 _ rk')
  have R2 := hide r2
  clear rk' r2 hR
  go_wp2_with fail
  (try simp only [Exit.inBlock, Exit.then])
  rw [← hw2]
  have u0 : w2.cell? ⟨kr, 0, none⟩ = some (.int .i64 x) := by rw [cell_of_row w2 _ _ _ 36 (0, 0) R2.out]; rfl
  have u1 : w2.cell? ⟨kr, 1, none⟩ = some (.int .i64 y) := by rw [cell_of_row w2 _ _ _ 36 (0, 0) R2.out]; rfl
  refine bodyPost_ret (v := .tuple #[.agg #[.int .i64 x, .int .i64 y], .int .i64 0]) ?_ rfl ⟨rfl, V, w', kr, BV.out, HRR.out, HK.out.1, HK.out.2, HM.out⟩
  rw [results_cell_tmp rfl]
  go_simp
set_option maxHeartbeats 4000000 in
theorem apply_despawn {w : World} {gw n c : Nat} {a : Option Addr} {R : World → World → Prop} (ix gn kd : Int)
    (JS : Hid (∀ V, Below w.heap.size w V → Calls Tryz.prog 35 #[.pointer (some ⟨gw, 0, none⟩), .agg #[.int .i64 ix, .int .i64 gn]] V fun e w' => e = .returned (.int .i64 0) ∧ R V w'))
    (HR : ∀ V w', Below w.heap.size w V → R V w' → ∀ k, w.heap.size ≤ k → k < V.heap.size → w'.heap[k]? = V.heap[k]?) :
    Calls Tryz.prog 20 #[.pointer (some ⟨gw, 0, none⟩), .agg #[.int .i64 2, .int .i64 ix, .int .i64 gn, .int .i64 kd, .slice none 0 0, .slice a n c]] w fun e w2 => e = .returned (.tuple #[.agg #[.int .i64 0, .int .i64 0], .int .i64 0]) ∧ ∃ V w' kr, Below w.heap.size w V ∧ R V w' ∧ w.heap.size ≤ kr ∧ kr < V.heap.size ∧ Mv w' w2 (fun k => k = kr) := by
  have HR' := hide HR
  obtain ⟨V, hV⟩ : ∃ X, X = (w.alloc (.cells #[.int .i64 2, .int .i64 ix, .int .i64 gn, .int .i64 kd, .slice none 0 0, .slice a n c] 40)).alloc (.cells #[.int .i64 0, .int .i64 0] 36) := ⟨_, rfl⟩
  have bV : Below w.heap.size w V := by rw [hV]; exact below_on (below_alloc w _) (below_alloc _ _)
  have rk : V.heap[w.heap.size + 1]? = some (.cells #[.int .i64 0, .int .i64 0] 36 (0, 0)) := by
    rw [hV]
    have := heap_alloc_new (w.alloc (.cells #[.int .i64 2, .int .i64 ix, .int .i64 gn, .int .i64 kd, .slice none 0 0, .slice a n c] 40)) (.cells #[.int .i64 0, .int .i64 0] 36)
    simpa using this
  have rc : V.heap[w.heap.size]? = some (.cells #[.int .i64 2, .int .i64 ix, .int .i64 gn, .int .i64 kd, .slice none 0 0, .slice a n c] 40 (0, 0)) := by
    rw [hV]
    exact ((below_alloc (w.alloc (.cells #[.int .i64 2, .int .i64 ix, .int .i64 gn, .int .i64 kd, .slice none 0 0, .slice a n c] 40)) _).block w.heap.size (by simp)).trans (heap_alloc_new w _)
  have J := hide (JS.out V bV)
  have BV := hide bV
  go_enter Tryz.func20, Tryz.ntmps20
  go_upto_region 1 with fail
  rw [← hV]
  obtain ⟨kr, hkr⟩ : ∃ k, k = w.heap.size + 1 := ⟨_, rfl⟩
  obtain ⟨kc, hkc⟩ : ∃ k, k = w.heap.size := ⟨_, rfl⟩
  rw [← hkr] at rk
  rw [← hkc] at rc
  rw [← hkr, ← hkc]
  have RK := hide rk
  have x0 : V.cell? ⟨kc, 0, none⟩ = some (.int .i64 2) := by rw [cell_of_row V _ _ _ 40 (0, 0) rc]; rfl
  have x1 : V.cell? ⟨kc, 1, none⟩ = some (.int .i64 ix) := by rw [cell_of_row V _ _ _ 40 (0, 0) rc]; rfl
  have x2 : V.cell? ⟨kc, 2, none⟩ = some (.int .i64 gn) := by rw [cell_of_row V _ _ _ 40 (0, 0) rc]; rfl
  have x5 : V.cell? ⟨kc, 5, none⟩ = some (.slice a n c) := by rw [cell_of_row V _ _ _ 40 (0, 0) rc]; rfl
  have HK : Hid (w.heap.size ≤ kr ∧ kr < V.heap.size) := ⟨by omega, lt_of_block rk⟩
  clear hV hkr hkc rk rc bV HR
  go_wp2_with fail
  refine J.out.mono ?_
  rintro e w' ⟨rfl, hR⟩
  have HRR := hide hR
  have rk' := (HR'.out V w' BV.out hR kr HK.out.1 HK.out.2).trans RK.out
  have y0 : w'.cell? ⟨kr, 0, none⟩ = some (.int .i64 0) := by rw [cell_of_row w' _ _ _ 36 (0, 0) rk']; rfl
  have y1 : w'.cell? ⟨kr, 1, none⟩ = some (.int .i64 0) := by rw [cell_of_row w' _ _ _ 36 (0, 0) rk']; rfl
  have z0 := frozen_of_row w' kr 0 _ 36 rk'
  have z1 := frozen_of_row w' kr 1 _ 36 rk'
  obtain ⟨w2, hw2⟩ : ∃ X, X = (w'.setCell ⟨kr, 0, none⟩ (.int .i64 0)).setCell ⟨kr, 1, none⟩ (.int .i64 0) := ⟨_, rfl⟩
  have HM : Hid (Mv w' w2 (fun k => k = kr)) := by unfold Hid; rw [hw2]; exact ((Mv.refl w' (fun k => k = kr)).set rfl 0 _).set rfl 1 _
  have r2 : w2.heap[kr]? = some (.cells #[.int .i64 0, .int .i64 0] 36 (0, 0)) := by
    rw [hw2]
    exact heap_setCell_same _ kr 1 _ 36 _ (heap_setCell_same w' kr 0 _ 36 _ rk')
  have R2 := hide r2
  clear rk' r2 hR
  go_wp2_with fail
  (try simp only [Exit.inBlock, Exit.then])
  rw [← hw2]
  have u0 : w2.cell? ⟨kr, 0, none⟩ = some (.int .i64 0) := by rw [cell_of_row w2 _ _ _ 36 (0, 0) R2.out]; rfl
  have u1 : w2.cell? ⟨kr, 1, none⟩ = some (.int .i64 0) := by rw [cell_of_row w2 _ _ _ 36 (0, 0) R2.out]; rfl
  refine bodyPost_ret (v := .tuple #[.agg #[.int .i64 0, .int .i64 0], .int .i64 0]) ?_ rfl ⟨rfl, V, w', kr, BV.out, HRR.out, HK.out.1, HK.out.2, HM.out⟩
  rw [results_cell_tmp rfl]
  go_simp
end Go.Proofs.YtiolaenkfhcajaaGreat
