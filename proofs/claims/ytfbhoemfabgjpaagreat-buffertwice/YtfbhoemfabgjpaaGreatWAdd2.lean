/-
  World: Add, its walk.
-/
import Derived.Test.YtfbhoemfabgjpaaGreatMgAW
namespace Go.Proofs.YtfbhoemfabgjpaaGreat
open Go.RowKit
set_option maxRecDepth 100000
section
variable {w w' : World} {own : Nat → Nat} {gw gp gm gt M M' : Nat} {vk : Value} {ks : List Kind} {gs fr gs' fr' : List Nat} {f f' : Int × Int → Option Nat} {q q' : Nat → Option Nat} {T T' : Nat → Ts}
/-- What Add leaves. -/
def Added (w w' : World) (own : Nat → Nat) (gw : Nat) (vk : Value) (gp gm gt M : Nat) (ks : List Kind) (gs fr : List Nat) (f : Int × Int → Option Nat) (q : Nat → Option Nat) (T : Nat → Ts) (e : Int × Int) (s i : Nat) (k : Nat) (vals : List Int) : Prop :=
  ∃ (vals' : List Int) (g : Nat) (own' : Nat → Nat), Wx 0 w' own' gw vk gp gm gt (M + 4) ks gs fr (fun y => if y = e then some (s ||| 2 ^ k) else if y = e then none else f y) (fun y => if y = s ||| 2 ^ k then some g else lessQ q T s y) (moreT (lessQ q T s) (lessT T s i) (s ||| 2 ^ k) e vals') ∧ Wk own own' w w' ∧ Wi ks (fun y => if y = e then some (s ||| 2 ^ k) else if y = e then none else f y) (fun y => if y = s ||| 2 ^ k then some g else lessQ q T s y) (moreT (lessQ q T s) (lessT T s i) (s ||| 2 ^ k) e vals') ∧ vals'.length = fsum ks (s ||| 2 ^ k) 1 ∧ ∀ r, r ∈ partsL ks (s ||| 2 ^ k) 1 vals' ↔ r ∈ partsL ks s 1 (rowOf (T s).2 i) ∨ r = (k, vals)
theorem infoPt : (Tryz.prog.info? 51).map (fun i => (i.zero, i.size, i.bytes)) = some (some (.agg #[.int .i64 0, .slice none 0 0]), 2, 32) := by kernel_rfl
set_option maxHeartbeats 8000000 in
theorem wadd_any (h : Wx 0 w own gw vk gp gm gt M ks gs fr f q T) (hw : Wi ks f q T) (a b x : Int) (hib : InB (a, b)) (hks : ks.length ≤ 12) (hk4 : ∀ x ∈ ks, x.2.length ≤ 4) (s g i : Nat) (hf : f (a, b) = some s) (hq : q s = some g) (hi : i < (T s).1.length) (hx : (T s).1[i] = (a, b)) (hcnt : ∀ E : List (Int × Int), E.Nodup → (∀ e ∈ E, (f e).isSome = true) → E.length ≤ 200) (hM : M ≤ 800000)
    (av : Option Addr) (nv cv : Nat) (vals : List Int) (hvs : Iz w (.slice av nv cv) vals) (hav : av = none → (nv, cv) = (0, 0)) (hv0 : ∀ k, (Value.slice av nv cv).ownBlock = some k → own k = 0 ∧ k < w.heap.size) (hl : livesOf gs fr a b = true) (hz : comeS ks s x nv = 0) :
    Calls Tryz.prog 41 #[.pointer (some ⟨gw, 0, none⟩), .agg #[.int .i64 a, .int .i64 b], .agg #[.int .i64 x, .slice av nv cv]] w fun e w' => e = .returned (.int .i64 0) ∧ Added w w' own gw vk gp gm gt M ks gs fr f q T (a, b) s i x.toNat vals := by
  obtain ⟨i0, hi0, hz0, hz1, hz2⟩ := info_parts infoPt
  obtain ⟨⟨hs, hsb⟩, hcol, -, -, -, -⟩ := hw.2 s g hq
  obtain ⟨w2, hw2⟩ : ∃ X, X = (w.alloc (.cells #[.int .i64 a, .int .i64 b] 34)).alloc (.cells #[.int .i64 x, .slice av nv cv] 51) := ⟨_, rfl⟩
  have B2 : Hid (Below w.heap.size w w2) := hw2 ▸ below_on (below_alloc w _) (below_alloc _ _)
  have H2 := hide (h.later B2.out)
  have J1 := hide (wlives_any H2.out a b)
  rw [hl] at J1
  have hx1 : w2.heap[w.heap.size]? = some (.cells #[.int .i64 a, .int .i64 b] 34 (0, 0)) := by
    rw [hw2]
    exact ((below_alloc _ _).block w.heap.size (by simp)).trans (heap_alloc_new w _)
  have hx2 : w2.heap[w.heap.size + 1]? = some (.cells #[.int .i64 x, .slice av nv cv] 51 (0, 0)) := by
    have := heap_alloc_new (w.alloc (.cells #[.int .i64 a, .int .i64 b] 34)) (.cells #[.int .i64 x, .slice av nv cv] 51)
    rw [hw2]
    simpa using this
  have HW : Hid (∀ W, Below w2.heap.size w2 W → (Instr.lookup 61 (.map (some gm)) (.agg #[.int .i64 a, .int .i64 b]) false).run Tryz.prog W = .ok (.int .i64 (s : Int)) W ∧ W.cell? ⟨gw, 2, none⟩ = some (.map (some gm)) ∧ W.cell? ⟨w.heap.size, 0, none⟩ = some (.int .i64 a) ∧ W.cell? ⟨w.heap.size, 1, none⟩ = some (.int .i64 b) ∧ W.cell? ⟨w.heap.size + 1, 0, none⟩ = some (.int .i64 x) ∧ W.cell? ⟨w.heap.size + 1, 1, none⟩ = some (.slice av nv cv)) := fun W hW => by
    have hx := H2.out.later hW
    have h5 := (hW.block _ (lt_of_block hx2)).trans hx2
    refine ⟨hx.mp.look1 a b hib hf, hx.cells.2.2.1, (kx_cells hx1 hW).1, (kx_cells hx1 hW).2, ?_, ?_⟩ <;> rw [cell_of_row W _ _ _ 51 (0, 0) h5] <;> rfl
  have JM : Hid (∀ W, Below w2.heap.size w2 W → Calls Tryz.prog 65 #[.pointer (some ⟨gw, 0, none⟩), .int .i64 (s : Int), .agg #[.int .i64 x, .slice av nv cv]] W fun e w' => e = .returned (.int .i64 0) ∧ Below W.heap.size W w') := fun W hW => by
    have hx := H2.out.later hW
    have := maycome_any hx.2.2.1 hx.2.2.2.1.kr hks s hs x av nv cv
    rw [hz] at this
    exact this
  have JP : Hid (∀ W, Below w2.heap.size w2 W → Calls Tryz.prog 54 #[.pointer (some ⟨gw, 0, none⟩), .agg #[.int .i64 a, .int .i64 b]] W fun e w' => ∃ v, e = .returned v ∧ ∃ L, L.length ≤ 12 ∧ w'.ownsRow W.heap.size 51 2 v L.length (pz L) ∧ Pv W.heap.size w' L (partsL ks s 1 (rowOf (T s).2 i)) ∧ Below W.heap.size W w') := fun W hW => by
    refine (parts_any (H2.out.later hW) a b hib hks s g i hf hq hs hi hx hcol).mono ?_
    rintro e w' ⟨v, rfl, L, l1, l2, l3⟩
    refine ⟨v, rfl, L, ?_, l1, l2, l3⟩
    rw [l2.1]
    have hn := partsL_pair ks s 1 (rowOf (T s).2 i)
    have hn2 : ((partsL ks s 1 (rowOf (T s).2 i)).map (fun r => r.1 - 1)).Nodup := List.pairwise_map.2 (List.Pairwise.imp_of_mem (fun {x y} hx hy hlt => by
      have a1 := partsL_mem ks s 1 _ x hx
      have a2 := partsL_mem ks s 1 _ y hy
      omega) hn)
    have := nodup_len 12 _ hn2 (fun y hy => by
      obtain ⟨r, hr, rfl⟩ := List.mem_map.1 hy
      have := partsL_mem ks s 1 _ r hr
      omega)
    rwa [List.length_map] at this
  have JD : Hid (∀ (W : World) (v : Value) (L : List Pt), Ap1 w W ks s (rowOf (T s).2 i) (x, av, nv, cv) v L → W.heap[w.heap.size]? = some (.cells #[.int .i64 a, .int .i64 b] 34 (0, 0)) → Calls Tryz.prog 69 #[.pointer (some ⟨gw, 0, none⟩), .agg #[.int .i64 a, .int .i64 b]] W fun e W' => e = .returned (.tuple #[]) ∧ Hid (Calls Tryz.prog 67 #[.pointer (some ⟨gw, 0, none⟩), .agg #[.int .i64 a, .int .i64 b], v] W' fun e w' => e = .returned (.tuple #[]) ∧ Added w w' own gw vk gp gm gt M ks gs fr f q T (a, b) s i x.toNat vals) ∧ W'.cell? ⟨w.heap.size, 0, none⟩ = some (.int .i64 a) ∧ W'.cell? ⟨w.heap.size, 1, none⟩ = some (.int .i64 b)) := fun W v L hA hkx => by
    refine (drop_any (h.later hA.2.2) a b hib s g i hf hq hs hi hx (by omega)).mono ?_
    rintro e W' ⟨rfl, own1, d1, d2⟩
    have hnl : ¬ (rel own w 0 w.heap.size ≠ 0) := fun e => e (rel_new (Nat.le_refl _))
    refine ⟨rfl, ?_, kx_cells (d2.mv.at hkx hnl) (Below.refl _ W')⟩
    have hc2 : ∀ E : List (Int × Int), E.Nodup → (∀ e ∈ E, ((fun y => if y = (a, b) then none else f y) e).isSome = true) → E.length < 200 := fun E e1 e2 => by
      have := hcnt (E ++ [(a, b)]) (by
        rw [List.nodup_append]
        refine ⟨e1, by simp, fun y hy z hz e => ?_⟩
        simp only [List.mem_singleton] at hz
        have := e2 y hy
        rw [e, hz] at this
        simp at this) (fun y hy => by
        rcases List.mem_append.1 hy with hy | hy
        · have := e2 y hy
          by_cases c : y = (a, b)
          · simp [c] at this
          · simpa [c] using this
        · rw [List.mem_singleton.1 hy, hf]; rfl)
      rw [List.length_append, List.length_singleton] at this
      omega
    exact hA.put ((rowOf_len _ _).trans hcol) hsb hz hks hk4 hvs hav hv0 d1 d2 (hw.drop hf hi hx) a b hib (if_pos rfl) hc2 (by omega)
  have HSZ : Hid (w.heap.size ≤ w2.heap.size) := B2.out.size
  have X1 := hide hx1
  have XP := hide hx2
  generalize rowOf (T s).2 i = row at *
  clear h hz hf hl hx1 hx2 H2 hw hq hi hx hcnt hvs hv0 hcol hsb hib hk4
  go_enter Tryz.func41, Tryz.ntmps41
  go_wp2_with fail
  rw [← hw2]
  obtain ⟨kx, hkx⟩ : ∃ k, k = w.heap.size := ⟨_, rfl⟩
  obtain ⟨kp, hkp⟩ : ∃ k, k = w.heap.size + 1 := ⟨_, rfl⟩
  have HKX : Hid (w.heap.size = kx) := hkx.symm
  rw [← hkp] at HW XP ⊢
  rw [← hkx] at HW X1 ⊢
  rw [show w.heap.size = kx from hkx.symm] at JD
  clear hkx hkp hw2
  refine J1.out.mono ?_
  rintro e w3 ⟨rfl, hb3⟩
  have HB3 := hide hb3
  clear hb3 J1
  have HB4 := hide (below_on HB3.out (below_drew w3))
  obtain ⟨hlk, c2, p0, p1, p2, p3⟩ := HW.out w3.drew HB4.out
  have J2 := hide (JM.out w3.drew HB4.out)
  go_upto_region 3 with fail
  refine wp_region_noPanic ?_
  refine wp_region_late (J := fun i => i != 99) (S := fun W => W.cell? ⟨gw, 2, none⟩ = some (.map (some gm)) ∧ W.cell? ⟨kx, 0, none⟩ = some (.int .i64 a) ∧ W.cell? ⟨kx, 1, none⟩ = some (.int .i64 b) ∧ W.cell? ⟨kp, 0, none⟩ = some (.int .i64 x) ∧ W.cell? ⟨kp, 1, none⟩ = some (.slice av nv cv)) (by kernel_rfl) ⟨c2, p0, p1, p2, p3⟩ (fun hHeld => ?_)
  refine' wpAnyJ_takeW (i := 0) (oi := { dst := some 13, op := Op.move (Operand.tmp 0), type := 26, pos := "world.go:65", after := #[], guard := none }) (v := _) rfl (by kernel_rfl) (by kernel_rfl) (by kernel_rfl) (fun _ _ _ h => h) (Or.inl ⟨by rfl, ?hyA1⟩) ?reA1
  case hyA1 => (intro W hSw; (try dsimp only at hSw); go_simp; try with_reducible rfl)
  try simp only [Act.put, List.setIfInBounds_toArray, List.set_cons_zero, List.set_cons_succ]
  refine' wpAnyJ_takeW (i := 1) (oi := { dst := some 14, op := Op.move (Operand.tmp 0), type := 26, pos := "world.go:65", after := #[], guard := none }) (v := _) rfl (by kernel_rfl) (by kernel_rfl) (by kernel_rfl) (fun _ _ _ h => h) (Or.inl ⟨by rfl, ?hyA2⟩) ?reA2
  case hyA2 => (intro W hSw; (try dsimp only at hSw); go_simp; try with_reducible rfl)
  try simp only [Act.put, List.setIfInBounds_toArray, List.set_cons_zero, List.set_cons_succ]
  refine' wpAnyJ_takeW (i := 2) (oi := { dst := some 15, op := Op.nilCheck (Operand.tmp 14), type := 0, pos := "world.go:65", after := #[{ on := 1, ground := Ground.data }], guard := none }) (v := _) rfl (by kernel_rfl) (by kernel_rfl) (by kernel_rfl) (fun _ _ _ h => h) (Or.inl ⟨by rfl, ?hyA3⟩) ?reA3
  case hyA3 => (intro W hSw; (try dsimp only at hSw); go_simp; try with_reducible rfl)
  try simp only [Act.put, List.setIfInBounds_toArray, List.set_cons_zero, List.set_cons_succ]
  refine' wpAnyJ_takeW (i := 3) (oi := { dst := some 16, op := Op.fieldAddr 64 (Operand.tmp 15) 2, type := 0, pos := "world.go:65", after := #[{ on := 2, ground := Ground.data }], guard := none }) (v := _) rfl (by kernel_rfl) (by kernel_rfl) (by kernel_rfl) (fun _ _ _ h => h) (Or.inl ⟨by rfl, ?hyA4⟩) ?reA4
  case hyA4 => (intro W hSw; (try dsimp only at hSw); go_simp; try with_reducible rfl)
  try simp only [Act.put, List.setIfInBounds_toArray, List.set_cons_zero, List.set_cons_succ]
  refine' wpAnyJ_take (i := 4) (oi := { dst := some 17, op := Op.load 61 (Operand.tmp 16), type := 61, pos := "world.go:65", after := #[{ on := 3, ground := Ground.data }], guard := none }) (v := _) rfl (by kernel_rfl) (by kernel_rfl) (by kernel_rfl) (by kernel_rfl) (fun _ _ _ h => h) (Or.inl ⟨by rfl, ?hyA5⟩) (by assumption) ?reA5
  case hyA5 => (intro W hSw; (try dsimp only at hSw); go_simp; try with_reducible rfl)
  try simp only [Act.put, List.setIfInBounds_toArray, List.set_cons_zero, List.set_cons_succ]
  refine' wpAnyJ_take (i := 5) (oi := { dst := some 18, op := Op.load 34 (Operand.tmp 4), type := 34, pos := "world.go:65", after := #[], guard := none }) (v := _) rfl (by kernel_rfl) (by kernel_rfl) (by kernel_rfl) (by kernel_rfl) (fun _ _ _ h => h) (Or.inl ⟨by rfl, ?hyA6⟩) (by assumption) ?reA6
  case hyA6 => (intro W hSw; (try dsimp only at hSw); go_simp; try with_reducible rfl)
  try simp only [Act.put, List.setIfInBounds_toArray, List.set_cons_zero, List.set_cons_succ]
  refine' wpAnyJ_take (i := 7) (oi := { dst := some 20, op := Op.load 51 (Operand.tmp 5), type := 51, pos := "world.go:65", after := #[], guard := none }) (v := _) rfl (by kernel_rfl) (by kernel_rfl) (by kernel_rfl) (by kernel_rfl) (fun _ _ _ h => h) (Or.inl ⟨by rfl, ?hyA7⟩) (by assumption) ?reA7
  case hyA7 => (intro W hSw; (try dsimp only at hSw); go_simp; try with_reducible rfl)
  try simp only [Act.put, List.setIfInBounds_toArray, List.set_cons_zero, List.set_cons_succ]
  refine wpAnyJ_ready (rs := [6]) (by kernel_rfl) (by simp) ?_
  refine AllReadyJ.cons (o := { dst := some 19, op := Op.lookup 61 (Operand.tmp 17) (Operand.tmp 18) false, type := 3, pos := "world.go:65", after := #[{ on := 4, ground := Ground.data }, { on := 5, ground := Ground.data }], guard := none }) rfl (fun K hK => ?_) AllReadyJ.nil
  go_simp
  refine hK.out _ _ (fun _ _ => ⟨c2, p0, p1, p2, p3⟩) ?_
  clear hK K
  try simp only [Act.put, List.setIfInBounds_toArray, List.set_cons_zero, List.set_cons_succ]
  refine wpAnyJ_ready (rs := [8]) (by kernel_rfl) (by simp) ?_
  refine AllReadyJ.cons (o := { dst := some 21, op := Op.call { callee := Callee.value (Operand.func 65), args := #[Operand.tmp 13, Operand.tmp 19, Operand.tmp 20], argTypes := #[26, 3, 51] }, type := 27, pos := "world.go:65", after := #[{ on := 0, ground := Ground.data }, { on := 6, ground := Ground.data }, { on := 7, ground := Ground.data }], guard := none }) rfl (fun K hK => ?_) AllReadyJ.nil
  go_simp
  go_at_call 65
  refine J2.out.mono ?_
  rintro e w5 ⟨rfl, hb5⟩
  have HB5 := hide (below_on HB4.out hb5)
  obtain ⟨-, y2, y3, y4, y5, y6⟩ := HW.out w5 HB5.out
  go_simp
  refine hK.out _ _ (fun _ _ => ⟨y2, y3, y4, y5, y6⟩) ?_
  clear hK K hb5
  try simp only [Act.put, List.setIfInBounds_toArray, List.set_cons_zero, List.set_cons_succ]
  refine' wpAnyJ_takeW (i := 9) (oi := { dst := some 7, op := Op.assign (Operand.tmp 21), type := 27, pos := "world.go:65", after := #[{ on := 8, ground := Ground.data }, { on := 8, ground := Ground.chain }, { on := 0, ground := Ground.phase }, { on := 1, ground := Ground.phase }, { on := 2, ground := Ground.phase }, { on := 3, ground := Ground.phase }, { on := 4, ground := Ground.phase }, { on := 5, ground := Ground.phase }, { on := 6, ground := Ground.phase }, { on := 7, ground := Ground.phase }, { on := 8, ground := Ground.phase }], guard := none }) (v := _) rfl (by kernel_rfl) (by kernel_rfl) (by kernel_rfl) (fun _ _ _ h => h) (Or.inl ⟨by rfl, ?hyA8⟩) ?reA8
  case hyA8 => (intro W hSw; (try dsimp only at hSw); go_simp; try with_reducible rfl)
  try simp only [Act.put, List.setIfInBounds_toArray, List.set_cons_zero, List.set_cons_succ]
  refine wpAnyJ_done (by kernel_rfl) ?_ _
  refine NoPanic.normal ?_
  clear hlk c2 p0 p1 p2 p3 y2 y3 y4 y5 y6 J2 JM HB4 HB3
  have HB6 := hide (below_on HB5.out (below_drew w5))
  obtain ⟨-, -, p0, p1, p2, p3⟩ := HW.out w5.drew HB6.out
  have J6 := hide (JP.out w5.drew HB6.out)
  have J7 := hide (JP.out (w5.drew.alloc (.cells #[.int .i64 x, .slice av nv cv] 51)) (below_on HB6.out (below_alloc _ _)))
  have HBa := hide (below_on HB6.out (below_alloc w5.drew (.cells #[.int .i64 x, .slice av nv cv] 51)))
  go_upto_region 6 with fail
  refine wp_region_noPanic ?_
  refine wp_region_late (J := fun i => i != 99) (S := fun W => W.cell? ⟨kx, 0, none⟩ = some (.int .i64 a) ∧ W.cell? ⟨kx, 1, none⟩ = some (.int .i64 b) ∧ W.cell? ⟨kp, 0, none⟩ = some (.int .i64 x) ∧ W.cell? ⟨kp, 1, none⟩ = some (.slice av nv cv)) (by kernel_rfl) ⟨p0, p1, p2, p3⟩ (fun hHeld => ?_)
  refine' wpAnyJ_takeW (i := 0) (oi := { dst := some 25, op := Op.move (Operand.tmp 0), type := 26, pos := "world.go:68", after := #[], guard := none }) (v := _) rfl (by kernel_rfl) (by kernel_rfl) (by kernel_rfl) (fun _ _ _ h => h) (Or.inl ⟨by rfl, ?hyB1⟩) ?reB1
  case hyB1 => (intro W hSw; (try dsimp only at hSw); go_simp; try with_reducible rfl)
  try simp only [Act.put, List.setIfInBounds_toArray, List.set_cons_zero, List.set_cons_succ]
  refine' wpAnyJ_take (i := 1) (oi := { dst := some 26, op := Op.load 34 (Operand.tmp 4), type := 34, pos := "world.go:68", after := #[], guard := none }) (v := _) rfl (by kernel_rfl) (by kernel_rfl) (by kernel_rfl) (by kernel_rfl) (fun _ _ _ h => h) (Or.inl ⟨by rfl, ?hyB2⟩) (by assumption) ?reB2
  case hyB2 => (intro W hSw; (try dsimp only at hSw); go_simp; try with_reducible rfl)
  try simp only [Act.put, List.setIfInBounds_toArray, List.set_cons_zero, List.set_cons_succ]
  refine' wpAnyJ_take (i := 3) (oi := { dst := some 28, op := Op.load 51 (Operand.tmp 5), type := 51, pos := "world.go:68", after := #[], guard := none }) (v := _) rfl (by kernel_rfl) (by kernel_rfl) (by kernel_rfl) (by kernel_rfl) (fun _ _ _ h => h) (Or.inl ⟨by rfl, ?hyB3⟩) (by assumption) ?reB3
  case hyB3 => (intro W hSw; (try dsimp only at hSw); go_simp; try with_reducible rfl)
  try simp only [Act.put, List.setIfInBounds_toArray, List.set_cons_zero, List.set_cons_succ]
  refine wpAnyJ_ready (rs := [2, 4]) (by kernel_rfl) (by simp) ?_
  refine AllReadyJ.cons (o := { dst := some 27, op := Op.call { callee := Callee.value (Operand.func 54), args := #[Operand.tmp 25, Operand.tmp 26], argTypes := #[26, 34] }, type := 36, pos := "world.go:68", after := #[{ on := 0, ground := Ground.data }, { on := 1, ground := Ground.data }], guard := none }) rfl (fun K hK => ?_) ?_
  · go_simp
    go_at_call 54
    refine J6.out.mono ?_
    rintro e w7 ⟨v7, rfl, L, hL12, ho7, hv7, hb7⟩
    obtain ⟨a7, c7, rfl⟩ := own_len ho7
    have HB7 := hide (below_on HB6.out hb7)
    obtain ⟨-, -, y3, y4, y5, y6⟩ := HW.out w7 HB7.out
    have HBB : Hid (w2.heap.size ≤ w5.drew.heap.size) := HB6.out.size
    have HO7 := hide ho7
    have HV7 := hide hv7
    have HL7 := hide (below_on B2.out HB6.out).size
    clear ho7 hv7 hb7
    go_simp
    refine hK.out _ _ (fun _ _ => ⟨y3, y4, y5, y6⟩) ?_
    clear hK K y3 y4 y5 y6
    try simp only [Act.put, List.setIfInBounds_toArray, List.set_cons_zero, List.set_cons_succ]
    refine wpAnyJ_ready (rs := [4]) (by kernel_rfl) (by simp) ?_
    refine AllReadyJ.cons (o := { dst := some 29, op := Op.buildSlice 36 1 #[(0, Operand.tmp 28)], type := 36, pos := "world.go:68", after := #[{ on := 3, ground := Ground.data }], guard := none }) rfl (fun K hK => ?_) AllReadyJ.nil
    go_simp
    refine hK.out _ _ (fun _ _ => (HW.out _ (below_on HB7.out (below_alloc w7 (.cells #[.int .i64 x, .slice av nv cv] 51)))).2.2) ?_
    clear hK K
    try simp only [Act.put, List.setIfInBounds_toArray, List.set_cons_zero, List.set_cons_succ]
    refine wpAnyJ_ready (rs := [5]) (by kernel_rfl) (by simp) ?_
    refine AllReadyJ.cons (o := { dst := some 30, op := Op.call { callee := Callee.builtin Builtin.append, args := #[Operand.tmp 27, Operand.tmp 29], argTypes := #[36, 36] }, type := 36, pos := "world.go:68", after := #[{ on := 2, ground := Ground.data }, { on := 4, ground := Ground.data }, { on := 2, ground := Ground.chain }], guard := none }) rfl (fun K hK => ?_) AllReadyJ.nil
    have HO8 : Hid ((w7.alloc (.cells #[.int .i64 x, .slice av nv cv] 51)).ownsRow w.heap.size 51 2 (.slice a7 L.length c7) L.length (pz L)) := own_lower (own_later HO7.out (below_alloc _ _)) HL7.out
    have HB8 : Hid (Below w7.heap.size w7 (w7.alloc (.cells #[.int .i64 x, .slice av nv cv] 51))) := (below_alloc w7 (.cells #[.int .i64 x, .slice av nv cv] 51))
    refine step_append_lies _ rfl (.tmp 27) (.tmp 29) 36 rfl w.heap.size 51 i0 (.agg #[.int .i64 0, .slice none 0 0]) 2 32 Tryz.underlying36 hi0 hz0 hz1 hz2 rfl (by decide) (.slice a7 L.length c7) L.length (pz L) (by simp [Act.eval]) HO8.out ⟨w7.heap.size, 0, none⟩ 1 1 [.int .i64 x, .slice av nv cv] (by simp [Act.eval]) rfl (by intro j u hj; match j, hj with | 0, hj => simp at hj; subst hj; simp [Addr.add] | 1, hj => simp at hj; subst hj; simp [Addr.add]) (by intro u hu; simp at hu; rcases hu with rfl | rfl <;> rfl) (by omega) (by unfold maxLen; omega) (by omega) (by have := HB7.out.size; have := HB8.out.size; have := HSZ.out; omega) _ rfl ?_
    intro g9 c9 w9 ho9 hg9 ha9 _
    have HA9 : Hid (Ap1 w w9 ks s row (x, av, nv, cv) (.slice (some ⟨g9, 0, none⟩) (L.length + 1) c9) L) := Ap1.made HO7.out HV7.out (below_on B2.out HB7.out) HL7.out HB8.out ho9 hg9
    have X9 : Hid (w9.heap[kx]? = some (.cells #[.int .i64 a, .int .i64 b] 34 (0, 0))) := (hg9.block kx (by have := lt_of_block X1.out; have := HB7.out.size; have := HB8.out.size; omega) (fun e => by have := (HO7.out.lt kx e.symm).1; have := lt_of_block X1.out; have := HBB.out; omega)).trans ((HB8.out.block kx (by have := lt_of_block X1.out; have := HB7.out.size; omega)).trans ((HB7.out.block kx (lt_of_block X1.out)).trans X1.out))
    have hc9 : w9.cell? ⟨kx, 0, none⟩ = some (.int .i64 a) ∧ w9.cell? ⟨kx, 1, none⟩ = some (.int .i64 b) := kx_cells X9.out (Below.refl _ w9)
    have HP9 : Hid (w9.cell? ⟨kp, 0, none⟩ = some (.int .i64 x) ∧ w9.cell? ⟨kp, 1, none⟩ = some (.slice av nv cv)) := (fun (hz : w9.heap[kp]? = some (.cells #[.int .i64 x, .slice av nv cv] 51 (0, 0))) => ⟨by rw [cell_of_row w9 _ _ _ 51 (0, 0) hz]; rfl, by rw [cell_of_row w9 _ _ _ 51 (0, 0) hz]; rfl⟩) ((hg9.block kp (by have := lt_of_block XP.out; have := HB7.out.size; have := HB8.out.size; omega) (fun e => by have := (HO7.out.lt kp e.symm).1; have := lt_of_block XP.out; have := HBB.out; omega)).trans ((HB8.out.block kp (by have := lt_of_block XP.out; have := HB7.out.size; omega)).trans ((HB7.out.block kp (lt_of_block XP.out)).trans XP.out)))
    clear ho9 hg9 ha9 HO8
    refine hK.out _ _ (fun _ _ => ⟨hc9.1, hc9.2, HP9.out.1, HP9.out.2⟩) ?_
    clear hK K
    try simp only [Act.put, List.setIfInBounds_toArray, List.set_cons_zero, List.set_cons_succ]
    refine' wpAnyJ_takeW (i := 6) (oi := { dst := some 8, op := Op.assign (Operand.tmp 30), type := 36, pos := "world.go:68", after := #[{ on := 5, ground := Ground.data }, { on := 5, ground := Ground.chain }, { on := 0, ground := Ground.phase }, { on := 1, ground := Ground.phase }, { on := 2, ground := Ground.phase }, { on := 3, ground := Ground.phase }, { on := 4, ground := Ground.phase }, { on := 5, ground := Ground.phase }], guard := none }) (v := _) rfl (by kernel_rfl) (by kernel_rfl) (by kernel_rfl) (fun _ _ _ h => h) (Or.inl ⟨by rfl, ?hyB4⟩) ?reB4
    case hyB4 => (intro W hSw; (try dsimp only at hSw); go_simp; try with_reducible rfl)
    try simp only [Act.put, List.setIfInBounds_toArray, List.set_cons_zero, List.set_cons_succ]
    refine wpAnyJ_done (by kernel_rfl) ?_ _
    refine NoPanic.normal ?_
    obtain ⟨z0, z1⟩ := hc9
    have J9 := hide (JD.out w9 _ L HA9.out X9.out)
    clear HP9 HA9 X9 HB7 HO7 HV7 HL7 HB8 J6 J7 JD JP HW p0 p1 p2 p3
    go_wp2_with fail
    refine J9.out.mono ?_
    rintro e w10 ⟨rfl, J10, z0', z1'⟩
    clear J9 z0 z1
    go_wp2_with fail
    refine J10.out.mono ?_
    rintro e w11 ⟨rfl, HE⟩
    have HEE := hide HE
    clear HE J10
    go_wp2_with fail
    go_ret
    exact ⟨rfl, HEE.out⟩
  refine AllReadyJ.cons (o := { dst := some 29, op := Op.buildSlice 36 1 #[(0, Operand.tmp 28)], type := 36, pos := "world.go:68", after := #[{ on := 3, ground := Ground.data }], guard := none }) rfl (fun K hK => ?_) AllReadyJ.nil
  go_simp
  refine hK.out _ _ (fun _ _ => (HW.out _ HBa.out).2.2) ?_
  clear hK K
  try simp only [Act.put, List.setIfInBounds_toArray, List.set_cons_zero, List.set_cons_succ]
  refine wpAnyJ_ready (rs := [2]) (by kernel_rfl) (by simp) ?_
  refine AllReadyJ.cons (o := { dst := some 27, op := Op.call { callee := Callee.value (Operand.func 54), args := #[Operand.tmp 25, Operand.tmp 26], argTypes := #[26, 34] }, type := 36, pos := "world.go:68", after := #[{ on := 0, ground := Ground.data }, { on := 1, ground := Ground.data }], guard := none }) rfl (fun K hK => ?_) AllReadyJ.nil
  go_simp
  go_at_call 54
  refine J7.out.mono ?_
  rintro e w7 ⟨v7, rfl, L, hL12, ho7, hv7, hb7⟩
  obtain ⟨a7, c7, rfl⟩ := own_len ho7
  have HB7 := hide (below_on HBa.out hb7)
  obtain ⟨-, -, y3, y4, y5, y6⟩ := HW.out w7 HB7.out
  have HBB : Hid (w2.heap.size ≤ (w5.drew.alloc (.cells #[.int .i64 x, .slice av nv cv] 51)).heap.size) := HBa.out.size
  have HO7 := hide ho7
  have HV7 := hide hv7
  have HL7 := hide (below_on B2.out HBa.out).size
  have HX7 : Hid (w7.heap[w5.heap.size]? = some (.cells #[.int .i64 x, .slice av nv cv] 51 (0, 0))) := (hb7.block w5.heap.size (by simp)).trans (heap_alloc_new w5.drew _)
  clear ho7 hv7 hb7
  go_simp
  refine hK.out _ _ (fun _ _ => ⟨y3, y4, y5, y6⟩) ?_
  clear hK K y3 y4 y5 y6
  try simp only [Act.put, List.setIfInBounds_toArray, List.set_cons_zero, List.set_cons_succ]
  refine wpAnyJ_ready (rs := [5]) (by kernel_rfl) (by simp) ?_
  refine AllReadyJ.cons (o := { dst := some 30, op := Op.call { callee := Callee.builtin Builtin.append, args := #[Operand.tmp 27, Operand.tmp 29], argTypes := #[36, 36] }, type := 36, pos := "world.go:68", after := #[{ on := 2, ground := Ground.data }, { on := 4, ground := Ground.data }, { on := 2, ground := Ground.chain }], guard := none }) rfl (fun K hK => ?_) AllReadyJ.nil
  have HO8 : Hid (w7.ownsRow w.heap.size 51 2 (.slice a7 L.length c7) L.length (pz L)) := own_lower (HO7.out) HL7.out
  have HB8 : Hid (Below w7.heap.size w7 w7) := (Below.refl _ w7)
  refine step_append_lies _ rfl (.tmp 27) (.tmp 29) 36 rfl w.heap.size 51 i0 (.agg #[.int .i64 0, .slice none 0 0]) 2 32 Tryz.underlying36 hi0 hz0 hz1 hz2 rfl (by decide) (.slice a7 L.length c7) L.length (pz L) (by simp [Act.eval]) HO8.out ⟨w5.heap.size, 0, none⟩ 1 1 [.int .i64 x, .slice av nv cv] (by simp [Act.eval]) rfl (fun j u hj => by rw [add_at, cell_of_row w7 _ _ _ 51 (0, 0) HX7.out]; simpa using hj) (by intro u hu; simp at hu; rcases hu with rfl | rfl <;> rfl) (by omega) (by unfold maxLen; omega) (by omega) (by have := HB7.out.size; have := HB8.out.size; have := HSZ.out; omega) _ rfl ?_
  intro g9 c9 w9 ho9 hg9 ha9 _
  have HA9 : Hid (Ap1 w w9 ks s row (x, av, nv, cv) (.slice (some ⟨g9, 0, none⟩) (L.length + 1) c9) L) := Ap1.made HO7.out HV7.out (below_on B2.out HB7.out) HL7.out HB8.out ho9 hg9
  have X9 : Hid (w9.heap[kx]? = some (.cells #[.int .i64 a, .int .i64 b] 34 (0, 0))) := (hg9.block kx (by have := lt_of_block X1.out; have := HB7.out.size; have := HB8.out.size; omega) (fun e => by have := (HO7.out.lt kx e.symm).1; have := lt_of_block X1.out; have := HBB.out; omega)).trans ((HB8.out.block kx (by have := lt_of_block X1.out; have := HB7.out.size; omega)).trans ((HB7.out.block kx (lt_of_block X1.out)).trans X1.out))
  have hc9 : w9.cell? ⟨kx, 0, none⟩ = some (.int .i64 a) ∧ w9.cell? ⟨kx, 1, none⟩ = some (.int .i64 b) := kx_cells X9.out (Below.refl _ w9)
  have HP9 : Hid (w9.cell? ⟨kp, 0, none⟩ = some (.int .i64 x) ∧ w9.cell? ⟨kp, 1, none⟩ = some (.slice av nv cv)) := (fun (hz : w9.heap[kp]? = some (.cells #[.int .i64 x, .slice av nv cv] 51 (0, 0))) => ⟨by rw [cell_of_row w9 _ _ _ 51 (0, 0) hz]; rfl, by rw [cell_of_row w9 _ _ _ 51 (0, 0) hz]; rfl⟩) ((hg9.block kp (by have := lt_of_block XP.out; have := HB7.out.size; have := HB8.out.size; omega) (fun e => by have := (HO7.out.lt kp e.symm).1; have := lt_of_block XP.out; have := HBB.out; omega)).trans ((HB8.out.block kp (by have := lt_of_block XP.out; have := HB7.out.size; omega)).trans ((HB7.out.block kp (lt_of_block XP.out)).trans XP.out)))
  clear ho9 hg9 ha9 HO8
  refine hK.out _ _ (fun _ _ => ⟨hc9.1, hc9.2, HP9.out.1, HP9.out.2⟩) ?_
  clear hK K
  try simp only [Act.put, List.setIfInBounds_toArray, List.set_cons_zero, List.set_cons_succ]
  refine' wpAnyJ_takeW (i := 6) (oi := { dst := some 8, op := Op.assign (Operand.tmp 30), type := 36, pos := "world.go:68", after := #[{ on := 5, ground := Ground.data }, { on := 5, ground := Ground.chain }, { on := 0, ground := Ground.phase }, { on := 1, ground := Ground.phase }, { on := 2, ground := Ground.phase }, { on := 3, ground := Ground.phase }, { on := 4, ground := Ground.phase }, { on := 5, ground := Ground.phase }], guard := none }) (v := _) rfl (by kernel_rfl) (by kernel_rfl) (by kernel_rfl) (fun _ _ _ h => h) (Or.inl ⟨by rfl, ?hyB5⟩) ?reB5
  case hyB5 => (intro W hSw; (try dsimp only at hSw); go_simp; try with_reducible rfl)
  try simp only [Act.put, List.setIfInBounds_toArray, List.set_cons_zero, List.set_cons_succ]
  refine wpAnyJ_done (by kernel_rfl) ?_ _
  refine NoPanic.normal ?_
  obtain ⟨z0, z1⟩ := hc9
  have J9 := hide (JD.out w9 _ L HA9.out X9.out)
  clear HP9 HA9 X9 HB7 HO7 HV7 HL7 HB8 J6 J7 JD JP HW p0 p1 p2 p3
  go_wp2_with fail
  refine J9.out.mono ?_
  rintro e w10 ⟨rfl, J10, z0', z1'⟩
  clear J9 z0 z1
  go_wp2_with fail
  refine J10.out.mono ?_
  rintro e w11 ⟨rfl, HE⟩
  have HEE := hide HE
  clear HE J10
  go_wp2_with fail
  go_ret
  exact ⟨rfl, HEE.out⟩
end
end Go.Proofs.YtfbhoemfabgjpaaGreat
