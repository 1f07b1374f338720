/-
  Buffer: one command is done, whatever comes of it.
-/
import Derived.Test.YtfbhoemfabgjpaaGreatMgAO
import Derived.Laws.ResultCell
namespace Go.Proofs.YtfbhoemfabgjpaaGreat
open Go.RowKit
set_option maxRecDepth 100000
set_option maxHeartbeats 4000000 in
theorem apply_spawn {w : World} {gw qn qc n c : Nat} {qa a : Option Addr} {R : World → World → Int → Int → Int → Prop} (ix gn kd : Int)
    (JS : Hid (∀ V, Below w.heap.size w V → Calls Tryz.prog 39 #[.pointer (some ⟨gw, 0, none⟩), .slice a n c] V fun e w' => ∃ x y z : Int, e = .returned (.tuple #[.agg #[.int .i64 x, .int .i64 y], .int .i64 z]) ∧ R V w' x y z))
    (HR : Hid (∀ V w' x y z, Below w.heap.size w V → R V w' x y z → ∀ k, w.heap.size ≤ k → k < V.heap.size → w'.heap[k]? = V.heap[k]?)) :
    Calls Tryz.prog 20 #[.pointer (some ⟨gw, 0, none⟩), .agg #[.int .i64 1, .int .i64 ix, .int .i64 gn, .int .i64 kd, .slice qa qn qc, .slice a n c]] w fun e w2 => ∃ x y z : Int, e = .returned (.tuple #[.agg #[.int .i64 x, .int .i64 y], .int .i64 z]) ∧ ∃ V w' kr, Below w.heap.size w V ∧ R V w' x y z ∧ w.heap.size ≤ kr ∧ kr < V.heap.size ∧ Mv w' w2 (fun k => k = kr) := by
  obtain ⟨V, hV⟩ : ∃ X, X = (w.alloc (.cells #[.int .i64 1, .int .i64 ix, .int .i64 gn, .int .i64 kd, .slice qa qn qc, .slice a n c] 38)).alloc (.cells #[.int .i64 0, .int .i64 0] 34) := ⟨_, rfl⟩
  have bV : Below w.heap.size w V := by rw [hV]; exact below_on (below_alloc w _) (below_alloc _ _)
  have rk : V.heap[w.heap.size + 1]? = some (.cells #[.int .i64 0, .int .i64 0] 34 (0, 0)) := by
    rw [hV]
    have := heap_alloc_new (w.alloc (.cells #[.int .i64 1, .int .i64 ix, .int .i64 gn, .int .i64 kd, .slice qa qn qc, .slice a n c] 38)) (.cells #[.int .i64 0, .int .i64 0] 34)
    simpa using this
  have rc : V.heap[w.heap.size]? = some (.cells #[.int .i64 1, .int .i64 ix, .int .i64 gn, .int .i64 kd, .slice qa qn qc, .slice a n c] 38 (0, 0)) := by
    rw [hV]
    exact ((below_alloc (w.alloc (.cells #[.int .i64 1, .int .i64 ix, .int .i64 gn, .int .i64 kd, .slice qa qn qc, .slice a n c] 38)) _).block w.heap.size (by simp)).trans (heap_alloc_new w _)
  have J := hide (JS.out V bV)
  have BV := hide bV
  clear JS
  go_enter Tryz.func20, Tryz.ntmps20
  go_upto_region 1 with fail
  rw [← hV]
  obtain ⟨kr, hkr⟩ : ∃ k, k = w.heap.size + 1 := ⟨_, rfl⟩
  obtain ⟨kc, hkc⟩ : ∃ k, k = w.heap.size := ⟨_, rfl⟩
  rw [← hkr] at rk
  rw [← hkc] at rc
  rw [← hkr, ← hkc]
  have RK := hide rk
  have x0 : V.cell? ⟨kc, 0, none⟩ = some (.int .i64 1) := by rw [cell_of_row V _ _ _ 38 (0, 0) rc]; rfl
  have x1 : V.cell? ⟨kc, 1, none⟩ = some (.int .i64 ix) := by rw [cell_of_row V _ _ _ 38 (0, 0) rc]; rfl
  have x2 : V.cell? ⟨kc, 2, none⟩ = some (.int .i64 gn) := by rw [cell_of_row V _ _ _ 38 (0, 0) rc]; rfl
  have x3 : V.cell? ⟨kc, 3, none⟩ = some (.int .i64 kd) := by rw [cell_of_row V _ _ _ 38 (0, 0) rc]; rfl
  have x4 : V.cell? ⟨kc, 4, none⟩ = some (.slice qa qn qc) := by rw [cell_of_row V _ _ _ 38 (0, 0) rc]; rfl
  have x5 : V.cell? ⟨kc, 5, none⟩ = some (.slice a n c) := by rw [cell_of_row V _ _ _ 38 (0, 0) rc]; rfl
  have HK : Hid (w.heap.size ≤ kr ∧ kr < V.heap.size) := ⟨by omega, lt_of_block rk⟩
  clear hV hkr hkc rk rc bV
  go_wp2_with fail
  refine J.out.mono ?_
  rintro e w' ⟨x, y, z, rfl, hR⟩
  have HRR := hide hR
  have rk' := (HR.out V w' x y z BV.out hR kr HK.out.1 HK.out.2).trans RK.out
  have y0 : w'.cell? ⟨kr, 0, none⟩ = some (.int .i64 0) := by rw [cell_of_row w' _ _ _ 34 (0, 0) rk']; rfl
  have y1 : w'.cell? ⟨kr, 1, none⟩ = some (.int .i64 0) := by rw [cell_of_row w' _ _ _ 34 (0, 0) rk']; rfl
  have z0 := frozen_of_row w' kr 0 _ 34 rk'
  have z1 := frozen_of_row w' kr 1 _ 34 rk'
  obtain ⟨w2, hw2⟩ : ∃ X, X = (w'.setCell ⟨kr, 0, none⟩ (.int .i64 x)).setCell ⟨kr, 1, none⟩ (.int .i64 y) := ⟨_, rfl⟩
  have HM : Hid (Mv w' w2 (fun k => k = kr)) := by unfold Hid; rw [hw2]; exact ((Mv.refl w' (fun k => k = kr)).set rfl 0 _).set rfl 1 _
  have r2 : w2.heap[kr]? = some (.cells #[.int .i64 x, .int .i64 y] 34 (0, 0)) := by
    rw [hw2]
    exact heap_setCell_same _ kr 1 _ 34 _ (heap_setCell_same w' kr 0 _ 34 _ rk')
  have R2 := hide r2
  clear rk' r2 hR J
  go_wp2_with fail
  (try simp only [Exit.inBlock, Exit.then])
  rw [← hw2]
  have u0 : w2.cell? ⟨kr, 0, none⟩ = some (.int .i64 x) := by rw [cell_of_row w2 _ _ _ 34 (0, 0) R2.out]; rfl
  have u1 : w2.cell? ⟨kr, 1, none⟩ = some (.int .i64 y) := by rw [cell_of_row w2 _ _ _ 34 (0, 0) R2.out]; rfl
  refine bodyPost_ret (v := .tuple #[.agg #[.int .i64 x, .int .i64 y], .int .i64 z]) ?_ rfl ⟨x, y, z, rfl, V, w', kr, BV.out, HRR.out, HK.out.1, HK.out.2, HM.out⟩
  rw [results_cell_tmp rfl]
  go_simp
set_option maxHeartbeats 4000000 in
theorem apply_despawn {w : World} {gw qn qc n c : Nat} {qa a : Option Addr} {R : World → World → Int → Prop} (ix gn kd : Int)
    (JS : Hid (∀ V, Below w.heap.size w V → Calls Tryz.prog 40 #[.pointer (some ⟨gw, 0, none⟩), .agg #[.int .i64 ix, .int .i64 gn]] V fun e w' => ∃ z : Int, e = .returned (.int .i64 z) ∧ R V w' z))
    (HR : Hid (∀ V w' z, Below w.heap.size w V → R V w' z → ∀ k, w.heap.size ≤ k → k < V.heap.size → w'.heap[k]? = V.heap[k]?)) :
    Calls Tryz.prog 20 #[.pointer (some ⟨gw, 0, none⟩), .agg #[.int .i64 2, .int .i64 ix, .int .i64 gn, .int .i64 kd, .slice qa qn qc, .slice a n c]] w fun e w2 => ∃ z : Int, e = .returned (.tuple #[.agg #[.int .i64 0, .int .i64 0], .int .i64 z]) ∧ ∃ V w' kr, Below w.heap.size w V ∧ R V w' z ∧ w.heap.size ≤ kr ∧ kr < V.heap.size ∧ Mv w' w2 (fun k => k = kr) := by
  obtain ⟨V, hV⟩ : ∃ X, X = (w.alloc (.cells #[.int .i64 2, .int .i64 ix, .int .i64 gn, .int .i64 kd, .slice qa qn qc, .slice a n c] 38)).alloc (.cells #[.int .i64 0, .int .i64 0] 34) := ⟨_, rfl⟩
  have bV : Below w.heap.size w V := by rw [hV]; exact below_on (below_alloc w _) (below_alloc _ _)
  have rk : V.heap[w.heap.size + 1]? = some (.cells #[.int .i64 0, .int .i64 0] 34 (0, 0)) := by
    rw [hV]
    have := heap_alloc_new (w.alloc (.cells #[.int .i64 2, .int .i64 ix, .int .i64 gn, .int .i64 kd, .slice qa qn qc, .slice a n c] 38)) (.cells #[.int .i64 0, .int .i64 0] 34)
    simpa using this
  have rc : V.heap[w.heap.size]? = some (.cells #[.int .i64 2, .int .i64 ix, .int .i64 gn, .int .i64 kd, .slice qa qn qc, .slice a n c] 38 (0, 0)) := by
    rw [hV]
    exact ((below_alloc (w.alloc (.cells #[.int .i64 2, .int .i64 ix, .int .i64 gn, .int .i64 kd, .slice qa qn qc, .slice a n c] 38)) _).block w.heap.size (by simp)).trans (heap_alloc_new w _)
  have J := hide (JS.out V bV)
  have BV := hide bV
  clear JS
  go_enter Tryz.func20, Tryz.ntmps20
  go_upto_region 1 with fail
  rw [← hV]
  obtain ⟨kr, hkr⟩ : ∃ k, k = w.heap.size + 1 := ⟨_, rfl⟩
  obtain ⟨kc, hkc⟩ : ∃ k, k = w.heap.size := ⟨_, rfl⟩
  rw [← hkr] at rk
  rw [← hkc] at rc
  rw [← hkr, ← hkc]
  have RK := hide rk
  have x0 : V.cell? ⟨kc, 0, none⟩ = some (.int .i64 2) := by rw [cell_of_row V _ _ _ 38 (0, 0) rc]; rfl
  have x1 : V.cell? ⟨kc, 1, none⟩ = some (.int .i64 ix) := by rw [cell_of_row V _ _ _ 38 (0, 0) rc]; rfl
  have x2 : V.cell? ⟨kc, 2, none⟩ = some (.int .i64 gn) := by rw [cell_of_row V _ _ _ 38 (0, 0) rc]; rfl
  have x3 : V.cell? ⟨kc, 3, none⟩ = some (.int .i64 kd) := by rw [cell_of_row V _ _ _ 38 (0, 0) rc]; rfl
  have x4 : V.cell? ⟨kc, 4, none⟩ = some (.slice qa qn qc) := by rw [cell_of_row V _ _ _ 38 (0, 0) rc]; rfl
  have x5 : V.cell? ⟨kc, 5, none⟩ = some (.slice a n c) := by rw [cell_of_row V _ _ _ 38 (0, 0) rc]; rfl
  have HK : Hid (w.heap.size ≤ kr ∧ kr < V.heap.size) := ⟨by omega, lt_of_block rk⟩
  clear hV hkr hkc rk rc bV
  go_wp2_with fail
  refine J.out.mono ?_
  rintro e w' ⟨z, rfl, hR⟩
  have HRR := hide hR
  have rk' := (HR.out V w' z BV.out hR kr HK.out.1 HK.out.2).trans RK.out
  have y0 : w'.cell? ⟨kr, 0, none⟩ = some (.int .i64 0) := by rw [cell_of_row w' _ _ _ 34 (0, 0) rk']; rfl
  have y1 : w'.cell? ⟨kr, 1, none⟩ = some (.int .i64 0) := by rw [cell_of_row w' _ _ _ 34 (0, 0) rk']; rfl
  have z0 := frozen_of_row w' kr 0 _ 34 rk'
  have z1 := frozen_of_row w' kr 1 _ 34 rk'
  obtain ⟨w2, hw2⟩ : ∃ X, X = (w'.setCell ⟨kr, 0, none⟩ (.int .i64 0)).setCell ⟨kr, 1, none⟩ (.int .i64 0) := ⟨_, rfl⟩
  have HM : Hid (Mv w' w2 (fun k => k = kr)) := by unfold Hid; rw [hw2]; exact ((Mv.refl w' (fun k => k = kr)).set rfl 0 _).set rfl 1 _
  have r2 : w2.heap[kr]? = some (.cells #[.int .i64 0, .int .i64 0] 34 (0, 0)) := by
    rw [hw2]
    exact heap_setCell_same _ kr 1 _ 34 _ (heap_setCell_same w' kr 0 _ 34 _ rk')
  have R2 := hide r2
  clear rk' r2 hR J
  go_wp2_with fail
  (try simp only [Exit.inBlock, Exit.then])
  rw [← hw2]
  have u0 : w2.cell? ⟨kr, 0, none⟩ = some (.int .i64 0) := by rw [cell_of_row w2 _ _ _ 34 (0, 0) R2.out]; rfl
  have u1 : w2.cell? ⟨kr, 1, none⟩ = some (.int .i64 0) := by rw [cell_of_row w2 _ _ _ 34 (0, 0) R2.out]; rfl
  refine bodyPost_ret (v := .tuple #[.agg #[.int .i64 0, .int .i64 0], .int .i64 z]) ?_ rfl ⟨z, rfl, V, w', kr, BV.out, HRR.out, HK.out.1, HK.out.2, HM.out⟩
  rw [results_cell_tmp rfl]
  go_simp
set_option maxHeartbeats 4000000 in
theorem apply_add {w : World} {gw qn qc n c : Nat} {qa a : Option Addr} {R : World → World → Int → Prop} (ix gn kd : Int)
    (JS : Hid (∀ V, Below w.heap.size w V → Calls Tryz.prog 41 #[.pointer (some ⟨gw, 0, none⟩), .agg #[.int .i64 ix, .int .i64 gn], .agg #[.int .i64 kd, .slice qa qn qc]] V fun e w' => ∃ z : Int, e = .returned (.int .i64 z) ∧ R V w' z))
    (HR : Hid (∀ V w' z, Below w.heap.size w V → R V w' z → ∀ k, w.heap.size ≤ k → k < V.heap.size → w'.heap[k]? = V.heap[k]?)) :
    Calls Tryz.prog 20 #[.pointer (some ⟨gw, 0, none⟩), .agg #[.int .i64 3, .int .i64 ix, .int .i64 gn, .int .i64 kd, .slice qa qn qc, .slice a n c]] w fun e w2 => ∃ z : Int, e = .returned (.tuple #[.agg #[.int .i64 0, .int .i64 0], .int .i64 z]) ∧ ∃ V w' kr, Below w.heap.size w V ∧ R V w' z ∧ w.heap.size ≤ kr ∧ kr < V.heap.size ∧ Mv w' w2 (fun k => k = kr) := by
  obtain ⟨V, hV⟩ : ∃ X, X = (w.alloc (.cells #[.int .i64 3, .int .i64 ix, .int .i64 gn, .int .i64 kd, .slice qa qn qc, .slice a n c] 38)).alloc (.cells #[.int .i64 0, .int .i64 0] 34) := ⟨_, rfl⟩
  have bV : Below w.heap.size w V := by rw [hV]; exact below_on (below_alloc w _) (below_alloc _ _)
  have rk : V.heap[w.heap.size + 1]? = some (.cells #[.int .i64 0, .int .i64 0] 34 (0, 0)) := by
    rw [hV]
    have := heap_alloc_new (w.alloc (.cells #[.int .i64 3, .int .i64 ix, .int .i64 gn, .int .i64 kd, .slice qa qn qc, .slice a n c] 38)) (.cells #[.int .i64 0, .int .i64 0] 34)
    simpa using this
  have rc : V.heap[w.heap.size]? = some (.cells #[.int .i64 3, .int .i64 ix, .int .i64 gn, .int .i64 kd, .slice qa qn qc, .slice a n c] 38 (0, 0)) := by
    rw [hV]
    exact ((below_alloc (w.alloc (.cells #[.int .i64 3, .int .i64 ix, .int .i64 gn, .int .i64 kd, .slice qa qn qc, .slice a n c] 38)) _).block w.heap.size (by simp)).trans (heap_alloc_new w _)
  have J := hide (JS.out V bV)
  have BV := hide bV
  clear JS
  go_enter Tryz.func20, Tryz.ntmps20
  go_upto_region 1 with fail
  rw [← hV]
  obtain ⟨kr, hkr⟩ : ∃ k, k = w.heap.size + 1 := ⟨_, rfl⟩
  obtain ⟨kc, hkc⟩ : ∃ k, k = w.heap.size := ⟨_, rfl⟩
  rw [← hkr] at rk
  rw [← hkc] at rc
  rw [← hkr, ← hkc]
  have RK := hide rk
  have x0 : V.cell? ⟨kc, 0, none⟩ = some (.int .i64 3) := by rw [cell_of_row V _ _ _ 38 (0, 0) rc]; rfl
  have x1 : V.cell? ⟨kc, 1, none⟩ = some (.int .i64 ix) := by rw [cell_of_row V _ _ _ 38 (0, 0) rc]; rfl
  have x2 : V.cell? ⟨kc, 2, none⟩ = some (.int .i64 gn) := by rw [cell_of_row V _ _ _ 38 (0, 0) rc]; rfl
  have x3 : V.cell? ⟨kc, 3, none⟩ = some (.int .i64 kd) := by rw [cell_of_row V _ _ _ 38 (0, 0) rc]; rfl
  have x4 : V.cell? ⟨kc, 4, none⟩ = some (.slice qa qn qc) := by rw [cell_of_row V _ _ _ 38 (0, 0) rc]; rfl
  have x5 : V.cell? ⟨kc, 5, none⟩ = some (.slice a n c) := by rw [cell_of_row V _ _ _ 38 (0, 0) rc]; rfl
  have HK : Hid (w.heap.size ≤ kr ∧ kr < V.heap.size) := ⟨by omega, lt_of_block rk⟩
  clear hV hkr hkc rk rc bV
  go_wp2_with fail
  refine J.out.mono ?_
  rintro e w' ⟨z, rfl, hR⟩
  have HRR := hide hR
  have rk' := (HR.out V w' z BV.out hR kr HK.out.1 HK.out.2).trans RK.out
  have y0 : w'.cell? ⟨kr, 0, none⟩ = some (.int .i64 0) := by rw [cell_of_row w' _ _ _ 34 (0, 0) rk']; rfl
  have y1 : w'.cell? ⟨kr, 1, none⟩ = some (.int .i64 0) := by rw [cell_of_row w' _ _ _ 34 (0, 0) rk']; rfl
  have z0 := frozen_of_row w' kr 0 _ 34 rk'
  have z1 := frozen_of_row w' kr 1 _ 34 rk'
  obtain ⟨w2, hw2⟩ : ∃ X, X = (w'.setCell ⟨kr, 0, none⟩ (.int .i64 0)).setCell ⟨kr, 1, none⟩ (.int .i64 0) := ⟨_, rfl⟩
  have HM : Hid (Mv w' w2 (fun k => k = kr)) := by unfold Hid; rw [hw2]; exact ((Mv.refl w' (fun k => k = kr)).set rfl 0 _).set rfl 1 _
  have r2 : w2.heap[kr]? = some (.cells #[.int .i64 0, .int .i64 0] 34 (0, 0)) := by
    rw [hw2]
    exact heap_setCell_same _ kr 1 _ 34 _ (heap_setCell_same w' kr 0 _ 34 _ rk')
  have R2 := hide r2
  clear rk' r2 hR J
  go_wp2_with fail
  (try simp only [Exit.inBlock, Exit.then])
  rw [← hw2]
  have u0 : w2.cell? ⟨kr, 0, none⟩ = some (.int .i64 0) := by rw [cell_of_row w2 _ _ _ 34 (0, 0) R2.out]; rfl
  have u1 : w2.cell? ⟨kr, 1, none⟩ = some (.int .i64 0) := by rw [cell_of_row w2 _ _ _ 34 (0, 0) R2.out]; rfl
  refine bodyPost_ret (v := .tuple #[.agg #[.int .i64 0, .int .i64 0], .int .i64 z]) ?_ rfl ⟨z, rfl, V, w', kr, BV.out, HRR.out, HK.out.1, HK.out.2, HM.out⟩
  rw [results_cell_tmp rfl]
  go_simp
set_option maxHeartbeats 4000000 in
theorem apply_remove {w : World} {gw qn qc n c : Nat} {qa a : Option Addr} {R : World → World → Int → Prop} (ix gn kd : Int)
    (JS : Hid (∀ V, Below w.heap.size w V → Calls Tryz.prog 42 #[.pointer (some ⟨gw, 0, none⟩), .agg #[.int .i64 ix, .int .i64 gn], .int .i64 kd] V fun e w' => ∃ z : Int, e = .returned (.int .i64 z) ∧ R V w' z))
    (HR : Hid (∀ V w' z, Below w.heap.size w V → R V w' z → ∀ k, w.heap.size ≤ k → k < V.heap.size → w'.heap[k]? = V.heap[k]?)) :
    Calls Tryz.prog 20 #[.pointer (some ⟨gw, 0, none⟩), .agg #[.int .i64 4, .int .i64 ix, .int .i64 gn, .int .i64 kd, .slice qa qn qc, .slice a n c]] w fun e w2 => ∃ z : Int, e = .returned (.tuple #[.agg #[.int .i64 0, .int .i64 0], .int .i64 z]) ∧ ∃ V w' kr, Below w.heap.size w V ∧ R V w' z ∧ w.heap.size ≤ kr ∧ kr < V.heap.size ∧ Mv w' w2 (fun k => k = kr) := by
  obtain ⟨V, hV⟩ : ∃ X, X = (w.alloc (.cells #[.int .i64 4, .int .i64 ix, .int .i64 gn, .int .i64 kd, .slice qa qn qc, .slice a n c] 38)).alloc (.cells #[.int .i64 0, .int .i64 0] 34) := ⟨_, rfl⟩
  have bV : Below w.heap.size w V := by rw [hV]; exact below_on (below_alloc w _) (below_alloc _ _)
  have rk : V.heap[w.heap.size + 1]? = some (.cells #[.int .i64 0, .int .i64 0] 34 (0, 0)) := by
    rw [hV]
    have := heap_alloc_new (w.alloc (.cells #[.int .i64 4, .int .i64 ix, .int .i64 gn, .int .i64 kd, .slice qa qn qc, .slice a n c] 38)) (.cells #[.int .i64 0, .int .i64 0] 34)
    simpa using this
  have rc : V.heap[w.heap.size]? = some (.cells #[.int .i64 4, .int .i64 ix, .int .i64 gn, .int .i64 kd, .slice qa qn qc, .slice a n c] 38 (0, 0)) := by
    rw [hV]
    exact ((below_alloc (w.alloc (.cells #[.int .i64 4, .int .i64 ix, .int .i64 gn, .int .i64 kd, .slice qa qn qc, .slice a n c] 38)) _).block w.heap.size (by simp)).trans (heap_alloc_new w _)
  have J := hide (JS.out V bV)
  have BV := hide bV
  clear JS
  go_enter Tryz.func20, Tryz.ntmps20
  go_upto_region 1 with fail
  rw [← hV]
  obtain ⟨kr, hkr⟩ : ∃ k, k = w.heap.size + 1 := ⟨_, rfl⟩
  obtain ⟨kc, hkc⟩ : ∃ k, k = w.heap.size := ⟨_, rfl⟩
  rw [← hkr] at rk
  rw [← hkc] at rc
  rw [← hkr, ← hkc]
  have RK := hide rk
  have x0 : V.cell? ⟨kc, 0, none⟩ = some (.int .i64 4) := by rw [cell_of_row V _ _ _ 38 (0, 0) rc]; rfl
  have x1 : V.cell? ⟨kc, 1, none⟩ = some (.int .i64 ix) := by rw [cell_of_row V _ _ _ 38 (0, 0) rc]; rfl
  have x2 : V.cell? ⟨kc, 2, none⟩ = some (.int .i64 gn) := by rw [cell_of_row V _ _ _ 38 (0, 0) rc]; rfl
  have x3 : V.cell? ⟨kc, 3, none⟩ = some (.int .i64 kd) := by rw [cell_of_row V _ _ _ 38 (0, 0) rc]; rfl
  have x4 : V.cell? ⟨kc, 4, none⟩ = some (.slice qa qn qc) := by rw [cell_of_row V _ _ _ 38 (0, 0) rc]; rfl
  have x5 : V.cell? ⟨kc, 5, none⟩ = some (.slice a n c) := by rw [cell_of_row V _ _ _ 38 (0, 0) rc]; rfl
  have HK : Hid (w.heap.size ≤ kr ∧ kr < V.heap.size) := ⟨by omega, lt_of_block rk⟩
  clear hV hkr hkc rk rc bV
  go_wp2_with fail
  refine J.out.mono ?_
  rintro e w' ⟨z, rfl, hR⟩
  have HRR := hide hR
  have rk' := (HR.out V w' z BV.out hR kr HK.out.1 HK.out.2).trans RK.out
  have y0 : w'.cell? ⟨kr, 0, none⟩ = some (.int .i64 0) := by rw [cell_of_row w' _ _ _ 34 (0, 0) rk']; rfl
  have y1 : w'.cell? ⟨kr, 1, none⟩ = some (.int .i64 0) := by rw [cell_of_row w' _ _ _ 34 (0, 0) rk']; rfl
  have z0 := frozen_of_row w' kr 0 _ 34 rk'
  have z1 := frozen_of_row w' kr 1 _ 34 rk'
  obtain ⟨w2, hw2⟩ : ∃ X, X = (w'.setCell ⟨kr, 0, none⟩ (.int .i64 0)).setCell ⟨kr, 1, none⟩ (.int .i64 0) := ⟨_, rfl⟩
  have HM : Hid (Mv w' w2 (fun k => k = kr)) := by unfold Hid; rw [hw2]; exact ((Mv.refl w' (fun k => k = kr)).set rfl 0 _).set rfl 1 _
  have r2 : w2.heap[kr]? = some (.cells #[.int .i64 0, .int .i64 0] 34 (0, 0)) := by
    rw [hw2]
    exact heap_setCell_same _ kr 1 _ 34 _ (heap_setCell_same w' kr 0 _ 34 _ rk')
  have R2 := hide r2
  clear rk' r2 hR J
  go_wp2_with fail
  (try simp only [Exit.inBlock, Exit.then])
  rw [← hw2]
  have u0 : w2.cell? ⟨kr, 0, none⟩ = some (.int .i64 0) := by rw [cell_of_row w2 _ _ _ 34 (0, 0) R2.out]; rfl
  have u1 : w2.cell? ⟨kr, 1, none⟩ = some (.int .i64 0) := by rw [cell_of_row w2 _ _ _ 34 (0, 0) R2.out]; rfl
  refine bodyPost_ret (v := .tuple #[.agg #[.int .i64 0, .int .i64 0], .int .i64 z]) ?_ rfl ⟨z, rfl, V, w', kr, BV.out, HRR.out, HK.out.1, HK.out.2, HM.out⟩
  rw [results_cell_tmp rfl]
  go_simp
set_option maxHeartbeats 4000000 in
theorem apply_other {w : World} {gw qn qc n c : Nat} {qa a : Option Addr} (op ix gn kd : Int) (h1 : op ≠ 1) (h2 : op ≠ 2) (h3 : op ≠ 3) (h4 : op ≠ 4) :
    Calls Tryz.prog 20 #[.pointer (some ⟨gw, 0, none⟩), .agg #[.int .i64 op, .int .i64 ix, .int .i64 gn, .int .i64 kd, .slice qa qn qc, .slice a n c]] w fun e w2 => e = .returned (.tuple #[.agg #[.int .i64 0, .int .i64 0], .int .i64 1]) ∧ Below w.heap.size w w2 := by
  obtain ⟨V, hV⟩ : ∃ X, X = (w.alloc (.cells #[.int .i64 op, .int .i64 ix, .int .i64 gn, .int .i64 kd, .slice qa qn qc, .slice a n c] 38)).alloc (.cells #[.int .i64 0, .int .i64 0] 34) := ⟨_, rfl⟩
  have bV : Below w.heap.size w V := by rw [hV]; exact below_on (below_alloc w _) (below_alloc _ _)
  have rk : V.heap[w.heap.size + 1]? = some (.cells #[.int .i64 0, .int .i64 0] 34 (0, 0)) := by
    rw [hV]
    have := heap_alloc_new (w.alloc (.cells #[.int .i64 op, .int .i64 ix, .int .i64 gn, .int .i64 kd, .slice qa qn qc, .slice a n c] 38)) (.cells #[.int .i64 0, .int .i64 0] 34)
    simpa using this
  have rc : V.heap[w.heap.size]? = some (.cells #[.int .i64 op, .int .i64 ix, .int .i64 gn, .int .i64 kd, .slice qa qn qc, .slice a n c] 38 (0, 0)) := by
    rw [hV]
    exact ((below_alloc (w.alloc (.cells #[.int .i64 op, .int .i64 ix, .int .i64 gn, .int .i64 kd, .slice qa qn qc, .slice a n c] 38)) _).block w.heap.size (by simp)).trans (heap_alloc_new w _)
  have BV := hide bV
  have b1 : (op == 1) = false := by simp [h1]
  have b2 : (op == 2) = false := by simp [h2]
  have b3 : (op == 3) = false := by simp [h3]
  have b4 : (op == 4) = false := by simp [h4]
  clear h1 h2 h3 h4
  go_enter Tryz.func20, Tryz.ntmps20
  go_upto_region 1 with fail
  rw [← hV]
  obtain ⟨kr, hkr⟩ : ∃ k, k = w.heap.size + 1 := ⟨_, rfl⟩
  obtain ⟨kc, hkc⟩ : ∃ k, k = w.heap.size := ⟨_, rfl⟩
  rw [← hkr] at rk
  rw [← hkc] at rc
  rw [← hkr, ← hkc]
  have RK := hide rk
  have x0 : V.cell? ⟨kc, 0, none⟩ = some (.int .i64 op) := by rw [cell_of_row V _ _ _ 38 (0, 0) rc]; rfl
  have HK : Hid (w.heap.size ≤ kr) := by unfold Hid; omega
  have y0 : V.cell? ⟨kr, 0, none⟩ = some (.int .i64 0) := by rw [cell_of_row V _ _ _ 34 (0, 0) rk]; rfl
  have y1 : V.cell? ⟨kr, 1, none⟩ = some (.int .i64 0) := by rw [cell_of_row V _ _ _ 34 (0, 0) rk]; rfl
  have z0 := frozen_of_row V kr 0 _ 34 rk
  have z1 := frozen_of_row V kr 1 _ 34 rk
  obtain ⟨w2, hw2⟩ : ∃ X, X = (V.setCell ⟨kr, 0, none⟩ (.int .i64 0)).setCell ⟨kr, 1, none⟩ (.int .i64 0) := ⟨_, rfl⟩
  have HM : Hid (Below w.heap.size w w2) := by unfold Hid; rw [hw2]; exact (bV.setCell HK.out _).setCell HK.out _
  have r2 : w2.heap[kr]? = some (.cells #[.int .i64 0, .int .i64 0] 34 (0, 0)) := by
    rw [hw2]
    exact heap_setCell_same _ kr 1 _ 34 _ (heap_setCell_same V kr 0 _ 34 _ rk)
  have R2 := hide r2
  clear hV hkr hkc rk rc bV r2
  go_wp2_with fail
  (try simp only [Exit.inBlock, Exit.then])
  rw [← hw2]
  have u0 : w2.cell? ⟨kr, 0, none⟩ = some (.int .i64 0) := by rw [cell_of_row w2 _ _ _ 34 (0, 0) R2.out]; rfl
  have u1 : w2.cell? ⟨kr, 1, none⟩ = some (.int .i64 0) := by rw [cell_of_row w2 _ _ _ 34 (0, 0) R2.out]; rfl
  refine bodyPost_ret (v := .tuple #[.agg #[.int .i64 0, .int .i64 0], .int .i64 1]) ?_ rfl ⟨rfl, HM.out⟩
  rw [results_cell_tmp rfl]
  go_simp
end Go.Proofs.YtfbhoemfabgjpaaGreat
