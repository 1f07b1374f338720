/-
  World: what Get, Set, Remove, Add answer where something is wrong.
-/
import Derived.Test.YtafmiolehlagkaaGreatWHas
import Derived.Test.YtafmiolehlagkaaGreatWSpawn
namespace Go.Proofs.YtafmiolehlagkaaGreat
open Go.RowKit
set_option maxRecDepth 100000
section
variable {w w' : World} {own : Nat → Nat} {gw gp gm gt M M' : Nat} {vk : Value} {ks : List Kind} {gs fr gs' fr' : List Nat} {f f' : Int × Int → Option Nat} {q q' : Nat → Option Nat} {T T' : Nat → Ts}
set_option maxHeartbeats 2000000 in
theorem get_err (h : Wx 0 w own gw vk gp gm gt M ks gs fr f q T) (a b x : Int) (hib : InB (a, b)) (hks : ks.length ≤ 12) (s : Nat) (hs : s < 8192) (hf : livesOf gs fr a b = true → f (a, b) = some s) (z : Int) (hz : hasE ks (livesOf gs fr a b) s x = z) (hz0 : z ≠ 0) : Calls Tryz.prog 34 #[.pointer (some ⟨gw, 0, none⟩), .agg #[.int .i64 a, .int .i64 b], .int .i64 x] w fun e w' => e = .returned (.tuple #[.agg #[.int .i64 0, .slice none 0 0], .int .i64 z]) ∧ Below w.heap.size w w' := by
  have JH : Hid (∀ W, Below w.heap.size w W → Calls Tryz.prog 76 #[.pointer (some ⟨gw, 0, none⟩), .agg #[.int .i64 a, .int .i64 b], .int .i64 x] W fun e w' => e = .returned (.int .i64 z) ∧ Below W.heap.size W w') := fun W hW => by
    have := haspart_any (h.later hW) a b x hib hks s hs hf
    rw [hz] at this
    exact this
  have hz1 : (z != 0) = true := by rw [bne_iff_ne]; exact hz0
  have hz2 : (z == 0) = false := by rw [beq_eq_false_iff_ne]; exact hz0
  clear h hz hf
  obtain ⟨w2, hw2⟩ : ∃ X, X = (w.alloc (.cells #[.int .i64 a, .int .i64 b] 29)).alloc (.cells #[.int .i64 0, .slice none 0 0] 32) := ⟨_, rfl⟩
  have B2 : Hid (Below w.heap.size w w2) := hw2 ▸ below_on (below_alloc w _) (below_alloc _ _)
  have hx2 : w2.heap[w.heap.size + 1]? = some (.cells #[.int .i64 0, .slice none 0 0] 32 (0, 0)) := by
    have := heap_alloc_new (w.alloc (.cells #[.int .i64 a, .int .i64 b] 29)) (.cells #[.int .i64 0, .slice none 0 0] 32)
    rw [hw2]
    simpa using this
  have J1 := hide (JH.out w2 B2.out)
  go_enter Tryz.func34, Tryz.ntmps34
  go_wp2_with fail
  rw [← hw2]
  obtain ⟨kr, hkr⟩ : ∃ k, k = w.heap.size + 1 := ⟨_, rfl⟩
  rw [← hkr] at hx2 ⊢
  have HKR : Hid (w.heap.size ≤ kr) := by unfold Hid; omega
  clear hkr hw2
  refine J1.out.mono ?_
  rintro e w3 ⟨rfl, hb3⟩
  have hx3 : w3.heap[kr]? = some (.cells #[.int .i64 0, .slice none 0 0] 32 (0, 0)) := (hb3.block kr (lt_of_block hx2)).trans hx2
  have fz := frozen_of_row w3 kr 0 _ 32 hx3
  have fz1 := frozen_of_row w3 kr 1 _ 32 hx3
  have p0 : w3.cell? ⟨kr, 0, none⟩ = some (.int .i64 0) := by rw [cell_of_row w3 kr _ _ 32 (0, 0) hx3]; rfl
  have p1 : w3.cell? ⟨kr, 1, none⟩ = some (.slice none 0 0) := by rw [cell_of_row w3 kr _ _ 32 (0, 0) hx3]; rfl
  have HB7 : Hid (Below w.heap.size w ((w3.setCell ⟨kr, 0, none⟩ (.int .i64 0)).setCell ⟨kr, 1, none⟩ (.slice none 0 0))) := below_set (below_set (below_on B2.out hb3) HKR.out) HKR.out
  clear hb3 hx3 hx2 J1 JH
  go_wp2_with fail
  (try simp only [Exit.inBlock, Exit.then])
  refine bodyPost_ret (v := .tuple #[.agg #[.int .i64 0, .slice none 0 0], .int .i64 z]) ?_ rfl ⟨rfl, HB7.out⟩
  rw [results_cell_tmp rfl]
  go_simp
set_option maxHeartbeats 2000000 in
theorem wset_err (h : Wx 0 w own gw vk gp gm gt M ks gs fr f q T) (a b x : Int) (hib : InB (a, b)) (hks : ks.length ≤ 12) (s : Nat) (hs : s < 8192) (hf : livesOf gs fr a b = true → f (a, b) = some s) (z : Int) (hz : hasE ks (livesOf gs fr a b) s x = z) (hz0 : z ≠ 0) (av : Option Addr) (nv cv : Nat) : Calls Tryz.prog 35 #[.pointer (some ⟨gw, 0, none⟩), .agg #[.int .i64 a, .int .i64 b], .agg #[.int .i64 x, .slice av nv cv]] w fun e w' => e = .returned (.int .i64 z) ∧ Below w.heap.size w w' := by
  have JH : Hid (∀ W, Below w.heap.size w W → Calls Tryz.prog 76 #[.pointer (some ⟨gw, 0, none⟩), .agg #[.int .i64 a, .int .i64 b], .int .i64 x] W fun e w' => e = .returned (.int .i64 z) ∧ Below W.heap.size W w') := fun W hW => by
    have := haspart_any (h.later hW) a b x hib hks s hs hf
    rw [hz] at this
    exact this
  have hz1 : (z != 0) = true := by rw [bne_iff_ne]; exact hz0
  have hz2 : (z == 0) = false := by rw [beq_eq_false_iff_ne]; exact hz0
  clear h hz hf
  have B2 : Hid (Below w.heap.size w ((w.alloc (.cells #[.int .i64 a, .int .i64 b] 29)).alloc (.cells #[.int .i64 x, .slice av nv cv] 32))) := below_on (below_alloc w _) (below_alloc _ _)
  have J1 := hide (JH.out _ B2.out)
  go_enter Tryz.func35, Tryz.ntmps35
  go_wp2_with fail
  refine J1.out.mono ?_
  rintro e w3 ⟨rfl, hb3⟩
  have HB3 := hide (below_on B2.out hb3)
  clear hb3 J1 JH
  go_wp2_with fail
  go_ret
  exact ⟨rfl, HB3.out⟩
set_option maxHeartbeats 2000000 in
theorem remove_err (h : Wx 0 w own gw vk gp gm gt M ks gs fr f q T) (a b x : Int) (hib : InB (a, b)) (hks : ks.length ≤ 12) (s : Nat) (hs : s < 8192) (hf : livesOf gs fr a b = true → f (a, b) = some s) (z : Int) (hz : hasE ks (livesOf gs fr a b) s x = z) (hz0 : z ≠ 0) : Calls Tryz.prog 26 #[.pointer (some ⟨gw, 0, none⟩), .agg #[.int .i64 a, .int .i64 b], .int .i64 x] w fun e w' => e = .returned (.int .i64 z) ∧ Below w.heap.size w w' := by
  have JH : Hid (∀ W, Below w.heap.size w W → Calls Tryz.prog 76 #[.pointer (some ⟨gw, 0, none⟩), .agg #[.int .i64 a, .int .i64 b], .int .i64 x] W fun e w' => e = .returned (.int .i64 z) ∧ Below W.heap.size W w') := fun W hW => by
    have := haspart_any (h.later hW) a b x hib hks s hs hf
    rw [hz] at this
    exact this
  have hz1 : (z != 0) = true := by rw [bne_iff_ne]; exact hz0
  have hz2 : (z == 0) = false := by rw [beq_eq_false_iff_ne]; exact hz0
  clear h hz hf
  have B2 : Hid (Below w.heap.size w ((w.alloc (.cells #[.int .i64 a, .int .i64 b] 29)).alloc (.cells #[.int .i64 x] 3))) := below_on (below_alloc w _) (below_alloc _ _)
  have J1 := hide (JH.out _ B2.out)
  go_enter Tryz.func26, Tryz.ntmps26
  go_wp2_with fail
  refine J1.out.mono ?_
  rintro e w3 ⟨rfl, hb3⟩
  have HB3 := hide (below_on B2.out hb3)
  clear hb3 J1 JH
  go_wp2_with fail
  go_ret
  exact ⟨rfl, HB3.out⟩
set_option maxHeartbeats 2000000 in
theorem add_stale (h : Wx 0 w own gw vk gp gm gt M ks gs fr f q T) (a b x : Int) (av : Option Addr) (nv cv : Nat) (hl : livesOf gs fr a b = false) : Calls Tryz.prog 27 #[.pointer (some ⟨gw, 0, none⟩), .agg #[.int .i64 a, .int .i64 b], .agg #[.int .i64 x, .slice av nv cv]] w fun e w' => e = .returned (.int .i64 41) ∧ Below w.heap.size w w' := by
  have B2 : Hid (Below w.heap.size w ((w.alloc (.cells #[.int .i64 a, .int .i64 b] 29)).alloc (.cells #[.int .i64 x, .slice av nv cv] 32))) := below_on (below_alloc w _) (below_alloc _ _)
  have J1 := hide (wlives_any (h.later B2.out) a b)
  rw [hl] at J1
  clear h hl
  go_enter Tryz.func27, Tryz.ntmps27
  go_wp2_with fail
  refine J1.out.mono ?_
  rintro e w3 ⟨rfl, hb3⟩
  have HB3 := hide (below_on B2.out hb3)
  clear hb3 J1
  go_wp2_with fail
  go_ret
  exact ⟨rfl, HB3.out⟩
set_option maxHeartbeats 2000000 in
theorem add_err (h : Wx 0 w own gw vk gp gm gt M ks gs fr f q T) (a b x : Int) (hib : InB (a, b)) (hks : ks.length ≤ 12) (s : Nat) (hs : s < 8192) (hf : f (a, b) = some s) (av : Option Addr) (nv cv : Nat) (hl : livesOf gs fr a b = true) (z : Int) (hz : comeS ks s x nv = z) (hz0 : z ≠ 0) : Calls Tryz.prog 27 #[.pointer (some ⟨gw, 0, none⟩), .agg #[.int .i64 a, .int .i64 b], .agg #[.int .i64 x, .slice av nv cv]] w fun e w' => e = .returned (.int .i64 z) ∧ Below w.heap.size w w' := by
  obtain ⟨w2, hw2⟩ : ∃ X, X = (w.alloc (.cells #[.int .i64 a, .int .i64 b] 29)).alloc (.cells #[.int .i64 x, .slice av nv cv] 32) := ⟨_, rfl⟩
  have B2 : Hid (Below w.heap.size w w2) := hw2 ▸ below_on (below_alloc w _) (below_alloc _ _)
  have H2 := hide (h.later B2.out)
  have J1 := hide (wlives_any H2.out a b)
  rw [hl] at J1
  have hx1 : w2.heap[w.heap.size]? = some (.cells #[.int .i64 a, .int .i64 b] 29 (0, 0)) := by
    rw [hw2]
    exact ((below_alloc _ _).block w.heap.size (by simp)).trans (heap_alloc_new w _)
  have hx2 : w2.heap[w.heap.size + 1]? = some (.cells #[.int .i64 x, .slice av nv cv] 32 (0, 0)) := by
    have := heap_alloc_new (w.alloc (.cells #[.int .i64 a, .int .i64 b] 29)) (.cells #[.int .i64 x, .slice av nv cv] 32)
    rw [hw2]
    simpa using this
  have HW : Hid (∀ W, Below w2.heap.size w2 W → (Instr.lookup 106 (.map (some gm)) (.agg #[.int .i64 a, .int .i64 b]) false).run Tryz.prog W = .ok (.int .i64 (s : Int)) W ∧ W.cell? ⟨gw, 2, none⟩ = some (.map (some gm)) ∧ W.cell? ⟨w.heap.size, 0, none⟩ = some (.int .i64 a) ∧ W.cell? ⟨w.heap.size, 1, none⟩ = some (.int .i64 b) ∧ W.cell? ⟨w.heap.size + 1, 0, none⟩ = some (.int .i64 x) ∧ W.cell? ⟨w.heap.size + 1, 1, none⟩ = some (.slice av nv cv)) := fun W hW => by
    have hx := H2.out.later hW
    have h5 := (hW.block _ (lt_of_block hx2)).trans hx2
    refine ⟨hx.mp.look1 a b hib hf, hx.cells.2.2.1, (kx_cells hx1 hW).1, (kx_cells hx1 hW).2, ?_, ?_⟩ <;> rw [cell_of_row W _ _ _ 32 (0, 0) h5] <;> rfl
  have JM : Hid (∀ W, Below w2.heap.size w2 W → Calls Tryz.prog 74 #[.pointer (some ⟨gw, 0, none⟩), .int .i64 (s : Int), .agg #[.int .i64 x, .slice av nv cv]] W fun e w' => e = .returned (.int .i64 z) ∧ Below W.heap.size W w') := fun W hW => by
    have hx := H2.out.later hW
    have := maycome_any hx.2.2.1 hx.2.2.2.1.kr hks s hs x av nv cv
    rw [hz] at this
    exact this
  have hz1 : (z != 0) = true := by rw [bne_iff_ne]; exact hz0
  have hz2 : (z == 0) = false := by rw [beq_eq_false_iff_ne]; exact hz0
  clear h hz hf hl hx1 hx2 H2
  go_enter Tryz.func27, Tryz.ntmps27
  go_wp2_with fail
  rw [← hw2]
  obtain ⟨kx, hkx⟩ : ∃ k, k = w.heap.size := ⟨_, rfl⟩
  obtain ⟨kp, hkp⟩ : ∃ k, k = w.heap.size + 1 := ⟨_, rfl⟩
  rw [← hkp, ← hkx] at HW ⊢
  clear hkx hkp hw2
  refine J1.out.mono ?_
  rintro e w3 ⟨rfl, hb3⟩
  have HB3 := hide hb3
  clear hb3 J1
  have HB4 := hide (below_on HB3.out (below_drew w3))
  obtain ⟨hlk, c2, p0, p1, p2, p3⟩ := HW.out w3.drew HB4.out
  have J2 := hide (JM.out w3.drew HB4.out)
  go_upto_region 3 with fail
  refine wp_region_noPanic ?_
  refine wp_region_late (J := fun i => i != 99) (S := fun W => W.cell? ⟨gw, 2, none⟩ = some (.map (some gm)) ∧ W.cell? ⟨kx, 0, none⟩ = some (.int .i64 a) ∧ W.cell? ⟨kx, 1, none⟩ = some (.int .i64 b) ∧ W.cell? ⟨kp, 0, none⟩ = some (.int .i64 x) ∧ W.cell? ⟨kp, 1, none⟩ = some (.slice av nv cv)) (by kernel_rfl) ⟨c2, p0, p1, p2, p3⟩ (fun hHeld => ?_)
  refine' wpAnyJ_takeW (i := 0) (oi := { dst := some 13, op := Op.move (Operand.tmp 0), type := 37, pos := "world.go:65", after := #[], guard := none }) (v := _) rfl (by kernel_rfl) (by kernel_rfl) (by kernel_rfl) (fun _ _ _ h => h) (Or.inl ⟨by rfl, ?hyA1⟩) ?reA1
  case hyA1 => (intro W hSw; (try dsimp only at hSw); go_simp; try with_reducible rfl)
  try simp only [Act.put, List.setIfInBounds_toArray, List.set_cons_zero, List.set_cons_succ]
  refine' wpAnyJ_takeW (i := 1) (oi := { dst := some 14, op := Op.move (Operand.tmp 0), type := 37, pos := "world.go:65", after := #[], guard := none }) (v := _) rfl (by kernel_rfl) (by kernel_rfl) (by kernel_rfl) (fun _ _ _ h => h) (Or.inl ⟨by rfl, ?hyA2⟩) ?reA2
  case hyA2 => (intro W hSw; (try dsimp only at hSw); go_simp; try with_reducible rfl)
  try simp only [Act.put, List.setIfInBounds_toArray, List.set_cons_zero, List.set_cons_succ]
  refine' wpAnyJ_takeW (i := 2) (oi := { dst := some 15, op := Op.nilCheck (Operand.tmp 14), type := 0, pos := "world.go:65", after := #[{ on := 1, ground := Ground.data }], guard := none }) (v := _) rfl (by kernel_rfl) (by kernel_rfl) (by kernel_rfl) (fun _ _ _ h => h) (Or.inl ⟨by rfl, ?hyA3⟩) ?reA3
  case hyA3 => (intro W hSw; (try dsimp only at hSw); go_simp; try with_reducible rfl)
  try simp only [Act.put, List.setIfInBounds_toArray, List.set_cons_zero, List.set_cons_succ]
  refine' wpAnyJ_takeW (i := 3) (oi := { dst := some 16, op := Op.fieldAddr 109 (Operand.tmp 15) 2, type := 0, pos := "world.go:65", after := #[{ on := 2, ground := Ground.data }], guard := none }) (v := _) rfl (by kernel_rfl) (by kernel_rfl) (by kernel_rfl) (fun _ _ _ h => h) (Or.inl ⟨by rfl, ?hyA4⟩) ?reA4
  case hyA4 => (intro W hSw; (try dsimp only at hSw); go_simp; try with_reducible rfl)
  try simp only [Act.put, List.setIfInBounds_toArray, List.set_cons_zero, List.set_cons_succ]
  refine' wpAnyJ_take (i := 4) (oi := { dst := some 17, op := Op.load 106 (Operand.tmp 16), type := 106, pos := "world.go:65", after := #[{ on := 3, ground := Ground.data }], guard := none }) (v := _) rfl (by kernel_rfl) (by kernel_rfl) (by kernel_rfl) (by kernel_rfl) (fun _ _ _ h => h) (Or.inl ⟨by rfl, ?hyA5⟩) (by assumption) ?reA5
  case hyA5 => (intro W hSw; (try dsimp only at hSw); go_simp; try with_reducible rfl)
  try simp only [Act.put, List.setIfInBounds_toArray, List.set_cons_zero, List.set_cons_succ]
  refine' wpAnyJ_take (i := 5) (oi := { dst := some 18, op := Op.load 29 (Operand.tmp 4), type := 29, pos := "world.go:65", after := #[], guard := none }) (v := _) rfl (by kernel_rfl) (by kernel_rfl) (by kernel_rfl) (by kernel_rfl) (fun _ _ _ h => h) (Or.inl ⟨by rfl, ?hyA6⟩) (by assumption) ?reA6
  case hyA6 => (intro W hSw; (try dsimp only at hSw); go_simp; try with_reducible rfl)
  try simp only [Act.put, List.setIfInBounds_toArray, List.set_cons_zero, List.set_cons_succ]
  refine' wpAnyJ_take (i := 7) (oi := { dst := some 20, op := Op.load 32 (Operand.tmp 5), type := 32, pos := "world.go:65", after := #[], guard := none }) (v := _) rfl (by kernel_rfl) (by kernel_rfl) (by kernel_rfl) (by kernel_rfl) (fun _ _ _ h => h) (Or.inl ⟨by rfl, ?hyA7⟩) (by assumption) ?reA7
  case hyA7 => (intro W hSw; (try dsimp only at hSw); go_simp; try with_reducible rfl)
  try simp only [Act.put, List.setIfInBounds_toArray, List.set_cons_zero, List.set_cons_succ]
  refine wpAnyJ_ready (rs := [6]) (by kernel_rfl) (by simp) ?_
  refine AllReadyJ.cons (o := { dst := some 19, op := Op.lookup 106 (Operand.tmp 17) (Operand.tmp 18) false, type := 3, pos := "world.go:65", after := #[{ on := 4, ground := Ground.data }, { on := 5, ground := Ground.data }], guard := none }) rfl (fun K hK => ?_) AllReadyJ.nil
  go_simp
  refine hK.out _ _ (fun _ _ => ⟨c2, p0, p1, p2, p3⟩) ?_
  clear hK K
  try simp only [Act.put, List.setIfInBounds_toArray, List.set_cons_zero, List.set_cons_succ]
  refine wpAnyJ_ready (rs := [8]) (by kernel_rfl) (by simp) ?_
  refine AllReadyJ.cons (o := { dst := some 21, op := Op.call { callee := Callee.value (Operand.func 74), args := #[Operand.tmp 13, Operand.tmp 19, Operand.tmp 20], argTypes := #[37, 3, 32] }, type := 61, pos := "world.go:65", after := #[{ on := 0, ground := Ground.data }, { on := 6, ground := Ground.data }, { on := 7, ground := Ground.data }], guard := none }) rfl (fun K hK => ?_) AllReadyJ.nil
  go_simp
  go_at_call 74
  refine J2.out.mono ?_
  rintro e w5 ⟨rfl, hb5⟩
  have HB5 := hide (below_on HB4.out hb5)
  obtain ⟨-, y2, y3, y4, y5, y6⟩ := HW.out w5 HB5.out
  go_simp
  refine hK.out _ _ (fun _ _ => ⟨y2, y3, y4, y5, y6⟩) ?_
  clear hK K hb5
  try simp only [Act.put, List.setIfInBounds_toArray, List.set_cons_zero, List.set_cons_succ]
  refine' wpAnyJ_takeW (i := 9) (oi := { dst := some 7, op := Op.assign (Operand.tmp 21), type := 61, pos := "world.go:65", after := #[{ on := 8, ground := Ground.data }, { on := 8, ground := Ground.chain }, { on := 0, ground := Ground.phase }, { on := 1, ground := Ground.phase }, { on := 2, ground := Ground.phase }, { on := 3, ground := Ground.phase }, { on := 4, ground := Ground.phase }, { on := 5, ground := Ground.phase }, { on := 6, ground := Ground.phase }, { on := 7, ground := Ground.phase }, { on := 8, ground := Ground.phase }], guard := none }) (v := _) rfl (by kernel_rfl) (by kernel_rfl) (by kernel_rfl) (fun _ _ _ h => h) (Or.inl ⟨by rfl, ?hyA8⟩) ?reA8
  case hyA8 => (intro W hSw; (try dsimp only at hSw); go_simp; try with_reducible rfl)
  try simp only [Act.put, List.setIfInBounds_toArray, List.set_cons_zero, List.set_cons_succ]
  refine wpAnyJ_done (by kernel_rfl) ?_ _
  refine NoPanic.normal ?_
  clear hlk c2 p0 p1 p2 p3 y2 y3 y4 y5 y6 J2 HW JM
  go_wp2_with fail
  go_ret
  exact ⟨rfl, below_on B2.out HB5.out⟩
end
end Go.Proofs.YtafmiolehlagkaaGreat
