import Derived.Test.YtafmiolehlagkaaGreatSt07
import Derived.Test.YtafmiolehlagkaaGreatSt02
import Derived.Test.YtafmiolehlagkaaGreatSt03
/-
  World: Add, its walk.
-/
namespace Go.Proofs.YtafmiolehlagkaaGreat
open Go.RowKit
set_option maxRecDepth 100000
section
variable {w w' : World} {own : Nat → Nat} {gw gp gm gt M M' : Nat} {vk : Value} {ks : List Kind} {gs fr gs' fr' : List Nat} {f f' : Int × Int → Option Nat} {q q' : Nat → Option Nat} {T T' : Nat → Ts}
/-- What Add leaves. -/
def Added (w w' : World) (own : Nat → Nat) (gw : Nat) (vk : Value) (gp gm gt M : Nat) (ks : List Kind) (gs fr : List Nat) (f : Int × Int → Option Nat) (q : Nat → Option Nat) (T : Nat → Ts) (e : Int × Int) (s i : Nat) (k : Nat) (vals : List Int) : Prop :=
  ∃ (vals' : List Int) (g : Nat) (own' : Nat → Nat), Wx 0 w' own' gw vk gp gm gt (M + 4) ks gs fr (fun y => if y = e then some (s ||| 2 ^ k) else if y = e then none else f y) (fun y => if y = s ||| 2 ^ k then some g else lessQ q T s y) (moreT (lessQ q T s) (lessT T s i) (s ||| 2 ^ k) e vals') ∧ Wk own own' w w' ∧ Wi ks (fun y => if y = e then some (s ||| 2 ^ k) else if y = e then none else f y) (fun y => if y = s ||| 2 ^ k then some g else lessQ q T s y) (moreT (lessQ q T s) (lessT T s i) (s ||| 2 ^ k) e vals') ∧ vals'.length = fsum ks (s ||| 2 ^ k) 1 ∧ ∀ r, r ∈ partsL ks (s ||| 2 ^ k) 1 vals' ↔ r ∈ partsL ks s 1 (rowOf (T s).2 i) ∨ r = (k, vals)
theorem infoPt : (Tryz.prog.info? 32).map (fun i => (i.zero, i.size, i.bytes)) = some (some (.agg #[.int .i64 0, .slice none 0 0]), 2, 32) := by kernel_rfl
set_option maxHeartbeats 8000000 in
theorem wadd_any (h : Wx 0 w own gw vk gp gm gt M ks gs fr f q T) (hw : Wi ks f q T) (a b x : Int) (hib : InB (a, b)) (hks : ks.length ≤ 12) (hk4 : ∀ x ∈ ks, x.2.length ≤ 4) (s g i : Nat) (hf : f (a, b) = some s) (hq : q s = some g) (hi : i < (T s).1.length) (hx : (T s).1[i] = (a, b)) (hcnt : ∀ E : List (Int × Int), E.Nodup → (∀ e ∈ E, (f e).isSome = true) → E.length ≤ 200) (hM : M ≤ 800000)
    (av : Option Addr) (nv cv : Nat) (vals : List Int) (hvs : Iz w (.slice av nv cv) vals) (hav : av = none → (nv, cv) = (0, 0)) (hv0 : ∀ k, (Value.slice av nv cv).ownBlock = some k → own k = 0 ∧ k < w.heap.size) (hl : livesOf gs fr a b = true) (hz : comeS ks s x nv = 0) :
    Calls Tryz.prog 27 #[.pointer (some ⟨gw, 0, none⟩), .agg #[.int .i64 a, .int .i64 b], .agg #[.int .i64 x, .slice av nv cv]] w fun e w' => e = .returned (.int .i64 0) ∧ Added w w' own gw vk gp gm gt M ks gs fr f q T (a, b) s i x.toNat vals := by
  obtain ⟨i0, hi0, hz0, hz1, hz2⟩ := info_parts infoPt
  obtain ⟨⟨hs, hsb⟩, hcol, -, -, -, -⟩ := hw.2 s g hq
  obtain ⟨w2, hw2⟩ : ∃ X, X = (w.alloc (.cells #[.int .i64 a, .int .i64 b] 29)).alloc (.cells #[.int .i64 x, .slice av nv cv] 32) := ⟨_, rfl⟩
  have B2 : Hid (Below w.heap.size w w2) := hw2 ▸ below_on (below_alloc w _) (below_alloc _ _)
  have H2 := hide (h.later B2.out)
  have J1 := hide (wlives_any H2.out a b)
  rw [hl] at J1
  have hx1 : w2.heap[w.heap.size]? = some (.cells #[.int .i64 a, .int .i64 b] 29 (0, 0)) := by
    rw [hw2]
    exact ((below_alloc _ _).block w.heap.size (by simp)).trans (heap_alloc_new w _)
  have hx2 : w2.heap[w.heap.size + 1]? = some (.cells #[.int .i64 x, .slice av nv cv] 32 (0, 0)) := by
    have := heap_alloc_new (w.alloc (.cells #[.int .i64 a, .int .i64 b] 29)) (.cells #[.int .i64 x, .slice av nv cv] 32)
    rw [hw2]
    simpa using this
  have HW : Hid (∀ W, Below w2.heap.size w2 W → (Instr.lookup 106 (.map (some gm)) (.agg #[.int .i64 a, .int .i64 b]) false).run Tryz.prog W = .ok (.int .i64 (s : Int)) W ∧ W.cell? ⟨gw, 2, none⟩ = some (.map (some gm)) ∧ W.cell? ⟨w.heap.size, 0, none⟩ = some (.int .i64 a) ∧ W.cell? ⟨w.heap.size, 1, none⟩ = some (.int .i64 b) ∧ W.cell? ⟨w.heap.size + 1, 0, none⟩ = some (.int .i64 x) ∧ W.cell? ⟨w.heap.size + 1, 1, none⟩ = some (.slice av nv cv)) := fun W hW => by
    have hx := H2.out.later hW
    have h5 := (hW.block _ (lt_of_block hx2)).trans hx2
    refine ⟨hx.mp.look1 a b hib hf, hx.cells.2.2.1, (kx_cells hx1 hW).1, (kx_cells hx1 hW).2, ?_, ?_⟩ <;> rw [cell_of_row W _ _ _ 32 (0, 0) h5] <;> rfl
  have JM : Hid (∀ W, Below w2.heap.size w2 W → Calls Tryz.prog 74 #[.pointer (some ⟨gw, 0, none⟩), .int .i64 (s : Int), .agg #[.int .i64 x, .slice av nv cv]] W fun e w' => e = .returned (.int .i64 0) ∧ Below W.heap.size W w') := fun W hW => by
    have hx := H2.out.later hW
    have := maycome_any hx.2.2.1 hx.2.2.2.1.kr hks s hs x av nv cv
    rw [hz] at this
    exact this
  have JP : Hid (∀ W, Below w2.heap.size w2 W → Calls Tryz.prog 78 #[.pointer (some ⟨gw, 0, none⟩), .agg #[.int .i64 a, .int .i64 b]] W fun e w' => ∃ v, e = .returned v ∧ ∃ L, L.length ≤ 12 ∧ w'.ownsRow W.heap.size 32 2 v L.length (pz L) ∧ Pv W.heap.size w' L (partsL ks s 1 (rowOf (T s).2 i)) ∧ Below W.heap.size W w') := fun W hW => by
    refine (parts_any (H2.out.later hW) a b hib hks s g i hf hq hs hi hx hcol).mono ?_
    rintro e w' ⟨v, rfl, L, l1, l2, l3⟩
    refine ⟨v, rfl, L, ?_, l1, l2, l3⟩
    rw [l2.1]
    have hn := partsL_pair ks s 1 (rowOf (T s).2 i)
    have hn2 : ((partsL ks s 1 (rowOf (T s).2 i)).map (fun r => r.1 - 1)).Nodup := List.pairwise_map.2 (List.Pairwise.imp_of_mem (fun {x y} hx hy hlt => by
      have a1 := partsL_mem ks s 1 _ x hx
      have a2 := partsL_mem ks s 1 _ y hy
      omega) hn)
    have := nodup_len 12 _ hn2 (fun y hy => by
      obtain ⟨r, hr, rfl⟩ := List.mem_map.1 hy
      have := partsL_mem ks s 1 _ r hr
      omega)
    rwa [List.length_map] at this
  have JD : Hid (∀ (W : World) (v : Value) (L : List Pt), Ap1 w W ks s (rowOf (T s).2 i) (x, av, nv, cv) v L → W.heap[w.heap.size]? = some (.cells #[.int .i64 a, .int .i64 b] 29 (0, 0)) → Calls Tryz.prog 80 #[.pointer (some ⟨gw, 0, none⟩), .agg #[.int .i64 a, .int .i64 b]] W fun e W' => e = .returned (.tuple #[]) ∧ Hid (Calls Tryz.prog 67 #[.pointer (some ⟨gw, 0, none⟩), .agg #[.int .i64 a, .int .i64 b], v] W' fun e w' => e = .returned (.tuple #[]) ∧ Added w w' own gw vk gp gm gt M ks gs fr f q T (a, b) s i x.toNat vals) ∧ W'.cell? ⟨w.heap.size, 0, none⟩ = some (.int .i64 a) ∧ W'.cell? ⟨w.heap.size, 1, none⟩ = some (.int .i64 b)) := fun W v L hA hkx => by
    refine (drop_any (h.later hA.2.2) a b hib s g i hf hq hs hi hx (by omega)).mono ?_
    rintro e W' ⟨rfl, own1, d1, d2⟩
    have hnl : ¬ (rel own w 0 w.heap.size ≠ 0) := fun e => e (rel_new (Nat.le_refl _))
    refine ⟨rfl, ?_, kx_cells (d2.2.at hkx hnl) (Below.refl _ W')⟩
    have hc2 : ∀ E : List (Int × Int), E.Nodup → (∀ e ∈ E, ((fun y => if y = (a, b) then none else f y) e).isSome = true) → E.length < 200 := fun E e1 e2 => by
      have := hcnt (E ++ [(a, b)]) (by
        rw [List.nodup_append]
        refine ⟨e1, by simp, fun y hy z hz e => ?_⟩
        simp only [List.mem_singleton] at hz
        have := e2 y hy
        rw [e, hz] at this
        simp at this) (fun y hy => by
        rcases List.mem_append.1 hy with hy | hy
        · have := e2 y hy
          by_cases c : y = (a, b)
          · simp [c] at this
          · simpa [c] using this
        · rw [List.mem_singleton.1 hy, hf]; rfl)
      rw [List.length_append, List.length_singleton] at this
      omega
    exact hA.put ((rowOf_len _ _).trans hcol) hsb hz hks hk4 hvs hav hv0 d1 d2 (hw.drop hf hi hx) a b hib (if_pos rfl) hc2 (by omega)
  have HSZ : Hid (w.heap.size ≤ w2.heap.size) := B2.out.size
  have X1 := hide hx1
  have XP := hide hx2
  generalize rowOf (T s).2 i = row at *
  clear h hz hf hl hx1 hx2 H2 hw hq hi hx hcnt hvs hv0 hcol hsb hib hk4
  go_enter Tryz.func27, Tryz.ntmps27
  go_wp2_with fail
  rw [← hw2]
  obtain ⟨kx, hkx⟩ : ∃ k, k = w.heap.size := ⟨_, rfl⟩
  obtain ⟨kp, hkp⟩ : ∃ k, k = w.heap.size + 1 := ⟨_, rfl⟩
  have HKX : Hid (w.heap.size = kx) := hkx.symm
  rw [← hkp] at HW XP ⊢
  rw [← hkx] at HW X1 ⊢
  rw [show w.heap.size = kx from hkx.symm] at JD
  clear hkx hkp hw2
  refine J1.out.mono ?_
  rintro e w3 ⟨rfl, hb3⟩
  have HB3 := hide hb3
  clear hb3 J1
  have HB4 := hide (below_on HB3.out (below_drew w3))
  obtain ⟨hlk, c2, p0, p1, p2, p3⟩ := HW.out w3.drew HB4.out
  have J2 := hide (JM.out w3.drew HB4.out)
  go_upto_region 3 with fail
  refine wp_region_noPanic ?_
  refine wp_region_late (J := fun i => i != 99) (S := fun W => W.cell? ⟨gw, 2, none⟩ = some (.map (some gm)) ∧ W.cell? ⟨kx, 0, none⟩ = some (.int .i64 a) ∧ W.cell? ⟨kx, 1, none⟩ = some (.int .i64 b) ∧ W.cell? ⟨kp, 0, none⟩ = some (.int .i64 x) ∧ W.cell? ⟨kp, 1, none⟩ = some (.slice av nv cv)) (by kernel_rfl) ⟨c2, p0, p1, p2, p3⟩ (fun hHeld => ?_)
  refine' wpAnyJ_takeW (i := 0) (oi := { dst := some 13, op := Op.move (Operand.tmp 0), type := 37, pos := "world.go:65", after := #[], guard := none }) (v := _) rfl (by kernel_rfl) (by kernel_rfl) (by kernel_rfl) (fun _ _ _ h => h) (Or.inl ⟨by rfl, ?hyA1⟩) ?reA1
  case hyA1 => (intro W hSw; (try dsimp only at hSw); go_simp; try with_reducible rfl)
  try simp only [Act.put, List.setIfInBounds_toArray, List.set_cons_zero, List.set_cons_succ]
  refine' wpAnyJ_takeW (i := 1) (oi := { dst := some 14, op := Op.move (Operand.tmp 0), type := 37, pos := "world.go:65", after := #[], guard := none }) (v := _) rfl (by kernel_rfl) (by kernel_rfl) (by kernel_rfl) (fun _ _ _ h => h) (Or.inl ⟨by rfl, ?hyA2⟩) ?reA2
  case hyA2 => (intro W hSw; (try dsimp only at hSw); go_simp; try with_reducible rfl)
  try simp only [Act.put, List.setIfInBounds_toArray, List.set_cons_zero, List.set_cons_succ]
  refine' wpAnyJ_takeW (i := 2) (oi := { dst := some 15, op := Op.nilCheck (Operand.tmp 14), type := 0, pos := "world.go:65", after := #[{ on := 1, ground := Ground.data }], guard := none }) (v := _) rfl (by kernel_rfl) (by kernel_rfl) (by kernel_rfl) (fun _ _ _ h => h) (Or.inl ⟨by rfl, ?hyA3⟩) ?reA3
  case hyA3 => (intro W hSw; (try dsimp only at hSw); go_simp; try with_reducible rfl)
  try simp only [Act.put, List.setIfInBounds_toArray, List.set_cons_zero, List.set_cons_succ]
  refine' wpAnyJ_takeW (i := 3) (oi := { dst := some 16, op := Op.fieldAddr 109 (Operand.tmp 15) 2, type := 0, pos := "world.go:65", after := #[{ on := 2, ground := Ground.data }], guard := none }) (v := _) rfl (by kernel_rfl) (by kernel_rfl) (by kernel_rfl) (fun _ _ _ h => h) (Or.inl ⟨by rfl, ?hyA4⟩) ?reA4
  case hyA4 => (intro W hSw; (try dsimp only at hSw); go_simp; try with_reducible rfl)
  try simp only [Act.put, List.setIfInBounds_toArray, List.set_cons_zero, List.set_cons_succ]
  refine' wpAnyJ_take (i := 4) (oi := { dst := some 17, op := Op.load 106 (Operand.tmp 16), type := 106, pos := "world.go:65", after := #[{ on := 3, ground := Ground.data }], guard := none }) (v := _) rfl (by kernel_rfl) (by kernel_rfl) (by kernel_rfl) (by kernel_rfl) (fun _ _ _ h => h) (Or.inl ⟨by rfl, ?hyA5⟩) (by assumption) ?reA5
  case hyA5 => (intro W hSw; (try dsimp only at hSw); go_simp; try with_reducible rfl)
  try simp only [Act.put, List.setIfInBounds_toArray, List.set_cons_zero, List.set_cons_succ]
  refine' wpAnyJ_take (i := 5) (oi := { dst := some 18, op := Op.load 29 (Operand.tmp 4), type := 29, pos := "world.go:65", after := #[], guard := none }) (v := _) rfl (by kernel_rfl) (by kernel_rfl) (by kernel_rfl) (by kernel_rfl) (fun _ _ _ h => h) (Or.inl ⟨by rfl, ?hyA6⟩) (by assumption) ?reA6
  case hyA6 => (intro W hSw; (try dsimp only at hSw); go_simp; try with_reducible rfl)
  try simp only [Act.put, List.setIfInBounds_toArray, List.set_cons_zero, List.set_cons_succ]
  refine' wpAnyJ_take (i := 7) (oi := { dst := some 20, op := Op.load 32 (Operand.tmp 5), type := 32, pos := "world.go:65", after := #[], guard := none }) (v := _) rfl (by kernel_rfl) (by kernel_rfl) (by kernel_rfl) (by kernel_rfl) (fun _ _ _ h => h) (Or.inl ⟨by rfl, ?hyA7⟩) (by assumption) ?reA7
  case hyA7 => (intro W hSw; (try dsimp only at hSw); go_simp; try with_reducible rfl)
  try simp only [Act.put, List.setIfInBounds_toArray, List.set_cons_zero, List.set_cons_succ]
  refine wpAnyJ_ready (rs := [6]) (by kernel_rfl) (by simp) ?_
  refine AllReadyJ.cons (o := { dst := some 19, op := Op.lookup 106 (Operand.tmp 17) (Operand.tmp 18) false, type := 3, pos := "world.go:65", after := #[{ on := 4, ground := Ground.data }, { on := 5, ground := Ground.data }], guard := none }) rfl (fun K hK => ?_) AllReadyJ.nil
  go_simp
  refine hK.out _ _ (fun _ _ => ⟨c2, p0, p1, p2, p3⟩) ?_
  clear hK K
  try simp only [Act.put, List.setIfInBounds_toArray, List.set_cons_zero, List.set_cons_succ]
  refine wpAnyJ_ready (rs := [8]) (by kernel_rfl) (by simp) ?_
  refine AllReadyJ.cons (o := { dst := some 21, op := Op.call { callee := Callee.value (Operand.func 74), args := #[Operand.tmp 13, Operand.tmp 19, Operand.tmp 20], argTypes := #[37, 3, 32] }, type := 61, pos := "world.go:65", after := #[{ on := 0, ground := Ground.data }, { on := 6, ground := Ground.data }, { on := 7, ground := Ground.data }], guard := none }) rfl (fun K hK => ?_) AllReadyJ.nil
  go_simp
  go_at_call 74
  refine J2.out.mono ?_
  rintro e w5 ⟨rfl, hb5⟩
  have HB5 := hide (below_on HB4.out hb5)
  obtain ⟨-, y2, y3, y4, y5, y6⟩ := HW.out w5 HB5.out
  go_simp
  refine hK.out _ _ (fun _ _ => ⟨y2, y3, y4, y5, y6⟩) ?_
  clear hK K hb5
  try simp only [Act.put, List.setIfInBounds_toArray, List.set_cons_zero, List.set_cons_succ]
  refine' wpAnyJ_takeW (i := 9) (oi := { dst := some 7, op := Op.assign (Operand.tmp 21), type := 61, pos := "world.go:65", after := #[{ on := 8, ground := Ground.data }, { on := 8, ground := Ground.chain }, { on := 0, ground := Ground.phase }, { on := 1, ground := Ground.phase }, { on := 2, ground := Ground.phase }, { on := 3, ground := Ground.phase }, { on := 4, ground := Ground.phase }, { on := 5, ground := Ground.phase }, { on := 6, ground := Ground.phase }, { on := 7, ground := Ground.phase }, { on := 8, ground := Ground.phase }], guard := none }) (v := _) rfl (by kernel_rfl) (by kernel_rfl) (by kernel_rfl) (fun _ _ _ h => h) (Or.inl ⟨by rfl, ?hyA8⟩) ?reA8
  case hyA8 => (intro W hSw; (try dsimp only at hSw); go_simp; try with_reducible rfl)
  try simp only [Act.put, List.setIfInBounds_toArray, List.set_cons_zero, List.set_cons_succ]
  refine wpAnyJ_done (by kernel_rfl) ?_ _
  refine NoPanic.normal ?_
  clear hlk c2 p0 p1 p2 p3 y2 y3 y4 y5 y6 J2 JM HB4 HB3
  have HB6 := hide (below_on HB5.out (below_drew w5))
  obtain ⟨-, -, p0, p1, p2, p3⟩ := HW.out w5.drew HB6.out
  have J6 := hide (JP.out w5.drew HB6.out)
  have J7 := hide (JP.out (w5.drew.alloc (.cells #[.int .i64 x, .slice av nv cv] 32)) (below_on HB6.out (below_alloc _ _)))
  have HBa := hide (below_on HB6.out (below_alloc w5.drew (.cells #[.int .i64 x, .slice av nv cv] 32)))
  go_upto_region 6 with fail
  refine wp_region_noPanic ?_
  refine wp_region_late (J := fun i => i != 99) (S := fun W => W.cell? ⟨kx, 0, none⟩ = some (.int .i64 a) ∧ W.cell? ⟨kx, 1, none⟩ = some (.int .i64 b) ∧ W.cell? ⟨kp, 0, none⟩ = some (.int .i64 x) ∧ W.cell? ⟨kp, 1, none⟩ = some (.slice av nv cv)) (by kernel_rfl) ⟨p0, p1, p2, p3⟩ (fun hHeld => ?_)
  refine' wpAnyJ_takeW (i := 0) (oi := { dst := some 25, op := Op.move (Operand.tmp 0), type := 37, pos := "world.go:68", after := #[], guard := none }) (v := _) rfl (by kernel_rfl) (by kernel_rfl) (by kernel_rfl) (fun _ _ _ h => h) (Or.inl ⟨by rfl, ?hyB1⟩) ?reB1
  case hyB1 => (intro W hSw; (try dsimp only at hSw); go_simp; try with_reducible rfl)
  try simp only [Act.put, List.setIfInBounds_toArray, List.set_cons_zero, List.set_cons_succ]
  refine' wpAnyJ_take (i := 1) (oi := { dst := some 26, op := Op.load 29 (Operand.tmp 4), type := 29, pos := "world.go:68", after := #[], guard := none }) (v := _) rfl (by kernel_rfl) (by kernel_rfl) (by kernel_rfl) (by kernel_rfl) (fun _ _ _ h => h) (Or.inl ⟨by rfl, ?hyB2⟩) (by assumption) ?reB2
  case hyB2 => (intro W hSw; (try dsimp only at hSw); go_simp; try with_reducible rfl)
  try simp only [Act.put, List.setIfInBounds_toArray, List.set_cons_zero, List.set_cons_succ]
  refine' wpAnyJ_take (i := 3) (oi := { dst := some 28, op := Op.load 32 (Operand.tmp 5), type := 32, pos := "world.go:68", after := #[], guard := none }) (v := _) rfl (by kernel_rfl) (by kernel_rfl) (by kernel_rfl) (by kernel_rfl) (fun _ _ _ h => h) (Or.inl ⟨by rfl, ?hyB3⟩) (by assumption) ?reB3
  case hyB3 => (intro W hSw; (try dsimp only at hSw); go_simp; try with_reducible rfl)
  try simp only [Act.put, List.setIfInBounds_toArray, List.set_cons_zero, List.set_cons_succ]
  refine wpAnyJ_ready (rs := [2, 4]) (by kernel_rfl) (by simp) ?_
  refine AllReadyJ.cons (o := { dst := some 27, op := Op.call { callee := Callee.value (Operand.func 78), args := #[Operand.tmp 25, Operand.tmp 26], argTypes := #[37, 29] }, type := 33, pos := "world.go:68", after := #[{ on := 0, ground := Ground.data }, { on := 1, ground := Ground.data }], guard := none }) rfl (fun K hK => ?_) ?_
  · go_simp
    go_at_call 78
    refine J6.out.mono ?_
    rintro e w7 ⟨v7, rfl, L, hL12, ho7, hv7, hb7⟩
    obtain ⟨a7, c7, rfl⟩ := own_len ho7
    have HB7 := hide (below_on HB6.out hb7)
    obtain ⟨-, -, y3, y4, y5, y6⟩ := HW.out w7 HB7.out
    have HBB : Hid (w2.heap.size ≤ w5.drew.heap.size) := HB6.out.size
    have HO7 := hide ho7
    have HV7 := hide hv7
    have HL7 := hide (below_on B2.out HB6.out).size
    clear ho7 hv7 hb7
    go_simp
    refine hK.out _ _ (fun _ _ => ⟨y3, y4, y5, y6⟩) ?_
    clear hK K y3 y4 y5 y6
    try simp only [Act.put, List.setIfInBounds_toArray, List.set_cons_zero, List.set_cons_succ]
    refine wpAnyJ_ready (rs := [4]) (by kernel_rfl) (by simp) ?_
    refine AllReadyJ.cons (o := { dst := some 29, op := Op.buildSlice 33 1 #[(0, Operand.tmp 28)], type := 33, pos := "world.go:68", after := #[{ on := 3, ground := Ground.data }], guard := none }) rfl (fun K hK => ?_) AllReadyJ.nil
    go_simp
    refine hK.out _ _ (fun _ _ => (HW.out _ (below_on HB7.out (below_alloc w7 (.cells #[.int .i64 x, .slice av nv cv] 32)))).2.2) ?_
    clear hK K
    try simp only [Act.put, List.setIfInBounds_toArray, List.set_cons_zero, List.set_cons_succ]
    refine wpAnyJ_ready (rs := [5]) (by kernel_rfl) (by simp) ?_
    refine AllReadyJ.cons (o := { dst := some 30, op := Op.call { callee := Callee.builtin Builtin.append, args := #[Operand.tmp 27, Operand.tmp 29], argTypes := #[33, 33] }, type := 33, pos := "world.go:68", after := #[{ on := 2, ground := Ground.data }, { on := 4, ground := Ground.data }, { on := 2, ground := Ground.chain }], guard := none }) rfl (fun K hK => ?_) AllReadyJ.nil
    have HO8 : Hid ((w7.alloc (.cells #[.int .i64 x, .slice av nv cv] 32)).ownsRow w.heap.size 32 2 (.slice a7 L.length c7) L.length (pz L)) := own_lower (own_later HO7.out (below_alloc _ _)) HL7.out
    have HB8 : Hid (Below w7.heap.size w7 (w7.alloc (.cells #[.int .i64 x, .slice av nv cv] 32))) := (below_alloc w7 (.cells #[.int .i64 x, .slice av nv cv] 32))
    refine step_append_lies _ rfl (.tmp 27) (.tmp 29) 33 rfl w.heap.size 32 i0 (.agg #[.int .i64 0, .slice none 0 0]) 2 32 Tryz.underlying33 hi0 hz0 hz1 hz2 rfl (by decide) (.slice a7 L.length c7) L.length (pz L) (by simp [Act.eval]) HO8.out ⟨w7.heap.size, 0, none⟩ 1 1 [.int .i64 x, .slice av nv cv] (by simp [Act.eval]) rfl (by intro j u hj; match j, hj with | 0, hj => simp at hj; subst hj; simp [Addr.add] | 1, hj => simp at hj; subst hj; simp [Addr.add]) (by intro u hu; simp at hu; rcases hu with rfl | rfl <;> rfl) (by omega) (by unfold maxLen; omega) (by omega) (by have := HB7.out.size; have := HB8.out.size; have := HSZ.out; omega) _ rfl ?_
    intro g9 c9 w9 ho9 hg9 ha9 _
    have HA9 : Hid (Ap1 w w9 ks s row (x, av, nv, cv) (.slice (some ⟨g9, 0, none⟩) (L.length + 1) c9) L) := Ap1.made HO7.out HV7.out (below_on B2.out HB7.out) HL7.out HB8.out ho9 hg9
    have X9 : Hid (w9.heap[kx]? = some (.cells #[.int .i64 a, .int .i64 b] 29 (0, 0))) := (hg9.block kx (by have := lt_of_block X1.out; have := HB7.out.size; have := HB8.out.size; omega) (fun e => by have := (HO7.out.lt kx e.symm).1; have := lt_of_block X1.out; have := HBB.out; omega)).trans ((HB8.out.block kx (by have := lt_of_block X1.out; have := HB7.out.size; omega)).trans ((HB7.out.block kx (lt_of_block X1.out)).trans X1.out))
    have hc9 : w9.cell? ⟨kx, 0, none⟩ = some (.int .i64 a) ∧ w9.cell? ⟨kx, 1, none⟩ = some (.int .i64 b) := kx_cells X9.out (Below.refl _ w9)
    have HP9 : Hid (w9.cell? ⟨kp, 0, none⟩ = some (.int .i64 x) ∧ w9.cell? ⟨kp, 1, none⟩ = some (.slice av nv cv)) := (fun (hz : w9.heap[kp]? = some (.cells #[.int .i64 x, .slice av nv cv] 32 (0, 0))) => ⟨by rw [cell_of_row w9 _ _ _ 32 (0, 0) hz]; rfl, by rw [cell_of_row w9 _ _ _ 32 (0, 0) hz]; rfl⟩) ((hg9.block kp (by have := lt_of_block XP.out; have := HB7.out.size; have := HB8.out.size; omega) (fun e => by have := (HO7.out.lt kp e.symm).1; have := lt_of_block XP.out; have := HBB.out; omega)).trans ((HB8.out.block kp (by have := lt_of_block XP.out; have := HB7.out.size; omega)).trans ((HB7.out.block kp (lt_of_block XP.out)).trans XP.out)))
    clear ho9 hg9 ha9 HO8
    refine hK.out _ _ (fun _ _ => ⟨hc9.1, hc9.2, HP9.out.1, HP9.out.2⟩) ?_
    clear hK K
    try simp only [Act.put, List.setIfInBounds_toArray, List.set_cons_zero, List.set_cons_succ]
    refine' wpAnyJ_takeW (i := 6) (oi := { dst := some 8, op := Op.assign (Operand.tmp 30), type := 33, pos := "world.go:68", after := #[{ on := 5, ground := Ground.data }, { on := 5, ground := Ground.chain }, { on := 0, ground := Ground.phase }, { on := 1, ground := Ground.phase }, { on := 2, ground := Ground.phase }, { on := 3, ground := Ground.phase }, { on := 4, ground := Ground.phase }, { on := 5, ground := Ground.phase }], guard := none }) (v := _) rfl (by kernel_rfl) (by kernel_rfl) (by kernel_rfl) (fun _ _ _ h => h) (Or.inl ⟨by rfl, ?hyB4⟩) ?reB4
    case hyB4 => (intro W hSw; (try dsimp only at hSw); go_simp; try with_reducible rfl)
    try simp only [Act.put, List.setIfInBounds_toArray, List.set_cons_zero, List.set_cons_succ]
    refine wpAnyJ_done (by kernel_rfl) ?_ _
    refine NoPanic.normal ?_
    obtain ⟨z0, z1⟩ := hc9
    have J9 := hide (JD.out w9 _ L HA9.out X9.out)
    clear HP9 HA9 X9 HB7 HO7 HV7 HL7 HB8 J6 J7 JD JP HW p0 p1 p2 p3
    go_wp2_with fail
    refine J9.out.mono ?_
    rintro e w10 ⟨rfl, J10, z0', z1'⟩
    clear J9 z0 z1
    go_wp2_with fail
    refine J10.out.mono ?_
    rintro e w11 ⟨rfl, HE⟩
    have HEE := hide HE
    clear HE J10
    go_wp2_with fail
    go_ret
    exact ⟨rfl, HEE.out⟩
  refine AllReadyJ.cons (o := { dst := some 29, op := Op.buildSlice 33 1 #[(0, Operand.tmp 28)], type := 33, pos := "world.go:68", after := #[{ on := 3, ground := Ground.data }], guard := none }) rfl (fun K hK => ?_) AllReadyJ.nil
  go_simp
  refine hK.out _ _ (fun _ _ => (HW.out _ HBa.out).2.2) ?_
  clear hK K
  try simp only [Act.put, List.setIfInBounds_toArray, List.set_cons_zero, List.set_cons_succ]
  refine wpAnyJ_ready (rs := [2]) (by kernel_rfl) (by simp) ?_
  refine AllReadyJ.cons (o := { dst := some 27, op := Op.call { callee := Callee.value (Operand.func 78), args := #[Operand.tmp 25, Operand.tmp 26], argTypes := #[37, 29] }, type := 33, pos := "world.go:68", after := #[{ on := 0, ground := Ground.data }, { on := 1, ground := Ground.data }], guard := none }) rfl (fun K hK => ?_) AllReadyJ.nil
  go_simp
  go_at_call 78
  refine J7.out.mono ?_
  rintro e w7 ⟨v7, rfl, L, hL12, ho7, hv7, hb7⟩
  obtain ⟨a7, c7, rfl⟩ := own_len ho7
  have HB7 := hide (below_on HBa.out hb7)
  obtain ⟨-, -, y3, y4, y5, y6⟩ := HW.out w7 HB7.out
  have HBB : Hid (w2.heap.size ≤ (w5.drew.alloc (.cells #[.int .i64 x, .slice av nv cv] 32)).heap.size) := HBa.out.size
  have HO7 := hide ho7
  have HV7 := hide hv7
  have HL7 := hide (below_on B2.out HBa.out).size
  have HX7 : Hid (w7.heap[w5.heap.size]? = some (.cells #[.int .i64 x, .slice av nv cv] 32 (0, 0))) := (hb7.block w5.heap.size (by simp)).trans (heap_alloc_new w5.drew _)
  clear ho7 hv7 hb7
  go_simp
  refine hK.out _ _ (fun _ _ => ⟨y3, y4, y5, y6⟩) ?_
  clear hK K y3 y4 y5 y6
  try simp only [Act.put, List.setIfInBounds_toArray, List.set_cons_zero, List.set_cons_succ]
  refine wpAnyJ_ready (rs := [5]) (by kernel_rfl) (by simp) ?_
  refine AllReadyJ.cons (o := { dst := some 30, op := Op.call { callee := Callee.builtin Builtin.append, args := #[Operand.tmp 27, Operand.tmp 29], argTypes := #[33, 33] }, type := 33, pos := "world.go:68", after := #[{ on := 2, ground := Ground.data }, { on := 4, ground := Ground.data }, { on := 2, ground := Ground.chain }], guard := none }) rfl (fun K hK => ?_) AllReadyJ.nil
  have HO8 : Hid (w7.ownsRow w.heap.size 32 2 (.slice a7 L.length c7) L.length (pz L)) := own_lower (HO7.out) HL7.out
  have HB8 : Hid (Below w7.heap.size w7 w7) := (Below.refl _ w7)
  refine step_append_lies _ rfl (.tmp 27) (.tmp 29) 33 rfl w.heap.size 32 i0 (.agg #[.int .i64 0, .slice none 0 0]) 2 32 Tryz.underlying33 hi0 hz0 hz1 hz2 rfl (by decide) (.slice a7 L.length c7) L.length (pz L) (by simp [Act.eval]) HO8.out ⟨w5.heap.size, 0, none⟩ 1 1 [.int .i64 x, .slice av nv cv] (by simp [Act.eval]) rfl (fun j u hj => by rw [add_at, cell_of_row w7 _ _ _ 32 (0, 0) HX7.out]; simpa using hj) (by intro u hu; simp at hu; rcases hu with rfl | rfl <;> rfl) (by omega) (by unfold maxLen; omega) (by omega) (by have := HB7.out.size; have := HB8.out.size; have := HSZ.out; omega) _ rfl ?_
  intro g9 c9 w9 ho9 hg9 ha9 _
  have HA9 : Hid (Ap1 w w9 ks s row (x, av, nv, cv) (.slice (some ⟨g9, 0, none⟩) (L.length + 1) c9) L) := Ap1.made HO7.out HV7.out (below_on B2.out HB7.out) HL7.out HB8.out ho9 hg9
  have X9 : Hid (w9.heap[kx]? = some (.cells #[.int .i64 a, .int .i64 b] 29 (0, 0))) := (hg9.block kx (by have := lt_of_block X1.out; have := HB7.out.size; have := HB8.out.size; omega) (fun e => by have := (HO7.out.lt kx e.symm).1; have := lt_of_block X1.out; have := HBB.out; omega)).trans ((HB8.out.block kx (by have := lt_of_block X1.out; have := HB7.out.size; omega)).trans ((HB7.out.block kx (lt_of_block X1.out)).trans X1.out))
  have hc9 : w9.cell? ⟨kx, 0, none⟩ = some (.int .i64 a) ∧ w9.cell? ⟨kx, 1, none⟩ = some (.int .i64 b) := kx_cells X9.out (Below.refl _ w9)
  have HP9 : Hid (w9.cell? ⟨kp, 0, none⟩ = some (.int .i64 x) ∧ w9.cell? ⟨kp, 1, none⟩ = some (.slice av nv cv)) := (fun (hz : w9.heap[kp]? = some (.cells #[.int .i64 x, .slice av nv cv] 32 (0, 0))) => ⟨by rw [cell_of_row w9 _ _ _ 32 (0, 0) hz]; rfl, by rw [cell_of_row w9 _ _ _ 32 (0, 0) hz]; rfl⟩) ((hg9.block kp (by have := lt_of_block XP.out; have := HB7.out.size; have := HB8.out.size; omega) (fun e => by have := (HO7.out.lt kp e.symm).1; have := lt_of_block XP.out; have := HBB.out; omega)).trans ((HB8.out.block kp (by have := lt_of_block XP.out; have := HB7.out.size; omega)).trans ((HB7.out.block kp (lt_of_block XP.out)).trans XP.out)))
  clear ho9 hg9 ha9 HO8
  refine hK.out _ _ (fun _ _ => ⟨hc9.1, hc9.2, HP9.out.1, HP9.out.2⟩) ?_
  clear hK K
  try simp only [Act.put, List.setIfInBounds_toArray, List.set_cons_zero, List.set_cons_succ]
  refine' wpAnyJ_takeW (i := 6) (oi := { dst := some 8, op := Op.assign (Operand.tmp 30), type := 33, pos := "world.go:68", after := #[{ on := 5, ground := Ground.data }, { on := 5, ground := Ground.chain }, { on := 0, ground := Ground.phase }, { on := 1, ground := Ground.phase }, { on := 2, ground := Ground.phase }, { on := 3, ground := Ground.phase }, { on := 4, ground := Ground.phase }, { on := 5, ground := Ground.phase }], guard := none }) (v := _) rfl (by kernel_rfl) (by kernel_rfl) (by kernel_rfl) (fun _ _ _ h => h) (Or.inl ⟨by rfl, ?hyB5⟩) ?reB5
  case hyB5 => (intro W hSw; (try dsimp only at hSw); go_simp; try with_reducible rfl)
  try simp only [Act.put, List.setIfInBounds_toArray, List.set_cons_zero, List.set_cons_succ]
  refine wpAnyJ_done (by kernel_rfl) ?_ _
  refine NoPanic.normal ?_
  obtain ⟨z0, z1⟩ := hc9
  have J9 := hide (JD.out w9 _ L HA9.out X9.out)
  clear HP9 HA9 X9 HB7 HO7 HV7 HL7 HB8 J6 J7 JD JP HW p0 p1 p2 p3
  go_wp2_with fail
  refine J9.out.mono ?_
  rintro e w10 ⟨rfl, J10, z0', z1'⟩
  clear J9 z0 z1
  go_wp2_with fail
  refine J10.out.mono ?_
  rintro e w11 ⟨rfl, HE⟩
  have HEE := hide HE
  clear HE J10
  go_wp2_with fail
  go_ret
  exact ⟨rfl, HEE.out⟩
end
end Go.Proofs.YtafmiolehlagkaaGreat

/-
  World: the usual kinds, of the law's own.
-/
namespace Go.Proofs.YtafmiolehlagkaaGreat
open Go.RowKit
set_option maxRecDepth 100000
def bs (l : List UInt8) : ByteArray := ⟨l.toArray⟩
def usualK : List Kind := [(bs [80, 111, 115], [bs [120], bs [121]]), (bs [86, 101, 108], [bs [120]]), (bs [68, 101, 97, 100], []), (bs [66, 111, 120], [bs [97], bs [98], bs [99], bs [100]])]
theorem four_allocs (w : World) (a b c d : Obj) : ((((w.alloc a).alloc b).alloc c).alloc d).heap[w.heap.size]? = some a ∧ ((((w.alloc a).alloc b).alloc c).alloc d).heap[w.heap.size + 1]? = some b ∧ ((((w.alloc a).alloc b).alloc c).alloc d).heap[w.heap.size + 1 + 1]? = some c ∧ ((((w.alloc a).alloc b).alloc c).alloc d).heap[w.heap.size + 1 + 1 + 1]? = some d := by
  have s1 : (w.alloc a).heap.size = w.heap.size + 1 := World.size_alloc ..
  have s2 : ((w.alloc a).alloc b).heap.size = w.heap.size + 1 + 1 := by rw [World.size_alloc, s1]
  have s3 : (((w.alloc a).alloc b).alloc c).heap.size = w.heap.size + 1 + 1 + 1 := by rw [World.size_alloc, s2]
  have e1 := heap_alloc_new w a
  have e2 := heap_alloc_new (w.alloc a) b
  have e3 := heap_alloc_new ((w.alloc a).alloc b) c
  have e4 := heap_alloc_new (((w.alloc a).alloc b).alloc c) d
  rw [s1] at e2
  rw [s2] at e3
  rw [s3] at e4
  have b2 := below_alloc (w.alloc a) b
  have b3 := below_alloc ((w.alloc a).alloc b) c
  have b4 := below_alloc (((w.alloc a).alloc b).alloc c) d
  exact ⟨((below_on (below_on b2 b3) b4).block _ (lt_of_block e1)).trans e1, ((below_on b3 b4).block _ (lt_of_block e2)).trans e2, (b4.block _ (lt_of_block e3)).trans e3, e4⟩
theorem sr_of {W : World} {g : Nat} {l : List ByteArray} {o : Array Value} (h : W.heap[g]? = some (.cells o 9 (0, 0))) (hl : l.length ≤ 100) (ho : ∀ j (hj : j < l.length), o[j]? = some (.string l[j])) : Sr W (.slice (some ⟨g, 0, none⟩) l.length l.length) l := by
  refine ⟨some ⟨g, 0, none⟩, l.length, rfl, Nat.le_refl _, by unfold maxLen; omega, fun j hj => ⟨g, 0, rfl, ?_⟩⟩
  rw [Nat.zero_add, cell_of_row W g _ _ 9 (0, 0) h]
  exact ho j hj
theorem usual_kr {W : World} {g1 g2 g3 g4 : Nat} (h1 : W.heap[g1]? = some (.cells #[.string (bs [120]), .string (bs [121])] 9 (0, 0))) (h2 : W.heap[g2]? = some (.cells #[.string (bs [120])] 9 (0, 0))) (h3 : W.heap[g3]? = some (.cells #[.string (bs [97]), .string (bs [98]), .string (bs [99]), .string (bs [100])] 9 (0, 0)))
    (h4 : W.heap[g4]? = some (.cells #[.string (bs [80, 111, 115]), .slice (some ⟨g1, 0, none⟩) 2 2, .string (bs [86, 101, 108]), .slice (some ⟨g2, 0, none⟩) 1 1, .string (bs [68, 101, 97, 100]), .slice none 0 0, .string (bs [66, 111, 120]), .slice (some ⟨g3, 0, none⟩) 4 4] 119 (0, 0))) : Kr W (.slice (some ⟨g4, 0, none⟩) 4 4) usualK := by
  have hc : ∀ j, W.cell? ⟨g4, j, none⟩ = _ := fun j => cell_of_row W g4 j _ 119 (0, 0) h4
  refine ⟨some ⟨g4, 0, none⟩, 4, rfl, Nat.le_refl _, by unfold maxLen; omega, fun i hi => ?_⟩
  have hi4 : i = 0 ∨ i = 1 ∨ i = 2 ∨ i = 3 := by have : usualK.length = 4 := rfl; omega
  rcases hi4 with rfl | rfl | rfl | rfl
  · exact ⟨g4, 0, _, rfl, hc 0, hc 1, sr_of (l := [bs [120], bs [121]]) h1 (by decide) (fun j hj => by
      have : j = 0 ∨ j = 1 := by simp at hj; omega
      rcases this with rfl | rfl <;> rfl)⟩
  · exact ⟨g4, 0, _, rfl, hc 2, hc 3, sr_of (l := [bs [120]]) h2 (by decide) (fun j hj => by
      have : j = 0 := by simp at hj; omega
      subst this; rfl)⟩
  · exact ⟨g4, 0, _, rfl, hc 4, hc 5, ⟨none, 0, rfl, Nat.le_refl _, Nat.zero_le _, fun j hj => absurd hj (by simp [usualK])⟩⟩
  · exact ⟨g4, 0, _, rfl, hc 6, hc 7, sr_of (l := [bs [97], bs [98], bs [99], bs [100]]) h3 (by decide) (fun j hj => by
      have : j = 0 ∨ j = 1 ∨ j = 2 ∨ j = 3 := by simp at hj; omega
      rcases this with rfl | rfl | rfl | rfl <;> rfl)⟩
set_option maxHeartbeats 2000000 in
theorem usual_any (w : World) : Calls Tryz.prog 19 #[] w fun e w' => ∃ v, e = .returned v ∧ (∀ W, Below w'.heap.size w' W → Kr W v usualK) ∧ Below w.heap.size w w' := by
  go_enter Tryz.func19, Tryz.ntmps19
  go_wp2_with fail
  go_ret
  refine ⟨_, rfl, fun W hW => ?_, ?_⟩
  · have k1 : ∀ (a b c d : Obj) (X : World), X = (((w.alloc a).alloc b).alloc c).alloc d → X.heap[w.heap.size]? = some a ∧ X.heap[w.heap.size + 1]? = some b ∧ X.heap[w.heap.size + 1 + 1]? = some c ∧ X.heap[w.heap.size + 1 + 1 + 1]? = some d := fun a b c d X hX => by
      subst hX
      exact four_allocs w a b c d
    obtain ⟨e1, e2, e3, e4⟩ := k1 _ _ _ _ _ rfl
    exact usual_kr ((hW.block _ (lt_of_block e1)).trans e1) ((hW.block _ (lt_of_block e2)).trans e2) ((hW.block _ (lt_of_block e3)).trans e3) ((hW.block _ (lt_of_block e4)).trans e4)
  · exact below_on (below_on (below_on (below_alloc w _) (below_alloc _ _)) (below_alloc _ _)) (below_alloc _ _)
end Go.Proofs.YtafmiolehlagkaaGreat

/-
  World: whether a text is among others.
-/
namespace Go.Proofs.YtafmiolehlagkaaGreat
open Go.RowKit
set_option maxRecDepth 100000
theorem text_inj {a b : ByteArray} (h : a.data.toList = b.data.toList) : a = b := by
  cases a
  cases b
  simp only [ByteArray.mk.injEq]
  exact Array.toList_inj.1 h
set_option maxHeartbeats 2000000 in
theorem index_any {w : World} {v : Value} {l : List ByteArray} (h : Sr w v l) (x : ByteArray) : Calls Tryz.prog 212 #[v, .string x] w fun e w' => (∃ i : Int, e = .returned (.int .i64 i) ∧ (0 ≤ i ↔ x ∈ l)) ∧ w' = w := by
  obtain ⟨ao, c, rfl, h1, h2, h3⟩ := h
  have hbig : c ≤ 9223372036854775807 := by unfold maxLen at h2; omega
  have H3 := hide h3
  clear h3 h2
  go_enter Tryz.func212, Tryz.ntmps212
  go_wp2_with fail
  go_loopw [8] (fun v8 W => ∃ i : Nat, i ≤ l.length ∧ v8 = .int .i64 (i : Int) ∧ Hid (x ∉ l.take i) ∧ Hid (W = w)) (fun v8 _ => l.length - (intOf v8).toNat)
  case atStart => exact ⟨0, Nat.zero_le _, rfl, by simp [Hid], rfl⟩
  case round =>
    obtain ⟨i, hil, rfl, HN, HW⟩ := hrel
    by_cases hlt : i < l.length
    · have t1 : (i : Int) < (l.length : Int) := by omega
      obtain ⟨g, o, rfl, e1⟩ := H3.out i hlt
      rw [← HW.out] at e1
      have hm1 : Hid (x ∉ l.take (i + 1) ↔ ¬ x = l[i]) := by
        unfold Hid
        rw [List.take_succ_eq_append_getElem hlt, List.mem_append, List.mem_singleton]
        have := HN.out
        constructor
        · intro h e; exact h (.inr e)
        · intro h e
          rcases e with e | e
          · exact this e
          · exact h e
      have hm2 : Hid (x = l[i] → x ∈ l) := fun e => e ▸ List.getElem_mem hlt
      generalize l[i] = y at *
      by_cases hxy : x = y
      · have HIN := hide (hm2.out hxy)
        subst hxy
        clear hm2 hm1
        go_wp2_with fail
        go_ret
        exact ⟨⟨_, rfl, ⟨fun _ => HIN.out, fun _ => by omega⟩⟩, HW.out⟩
      · have HNN := hide (hm1.out.2 hxy)
        have hb : (x.toList == y.toList) = false := by
          rw [beq_eq_false_iff_ne]
          intro e
          rw [ByteArray.toList_eq, ByteArray.toList_eq] at e
          exact hxy (text_inj e)
        clear hm1 hm2
        go_wp2_with fail
        refine ⟨⟨i + 1, by omega, by go_num, HNN, HW⟩, ?_⟩
        simp [intOf]
        omega
    · obtain rfl : i = l.length := by omega
      have t1 : ¬ (l.length : Int) < (l.length : Int) := by omega
      have hn := HN.out
      rw [List.take_length] at hn
      have HN2 := hide hn
      clear hn HN
      go_wp2_with fail
      go_ret
      exact ⟨⟨_, rfl, ⟨fun e => by omega, fun e => absurd e HN2.out⟩⟩, HW.out⟩
set_option maxHeartbeats 1000000 in
theorem contains_any {w : World} {v : Value} {l : List ByteArray} (h : Sr w v l) (x : ByteArray) [Decidable (x ∈ l)] : Calls Tryz.prog 181 #[v, .string x] w fun e w' => e = .returned (.bool (decide (x ∈ l))) ∧ w' = w := by
  have J := hide (index_any h x)
  obtain ⟨ao, c, rfl, -⟩ := h
  by_cases h0 : x ∈ l
  · rw [decide_eq_true h0]
    have J2 : Hid (Calls Tryz.prog 212 #[.slice ao l.length c, .string x] w fun e w' => (∃ i : Int, e = .returned (.int .i64 i) ∧ i ≥ 0) ∧ w' = w) := J.out.mono (fun _e _w' ⟨⟨i, e1, e2⟩, e3⟩ => ⟨⟨i, e1, e2.2 h0⟩, e3⟩)
    clear J h0
    go_enter Tryz.func181, Tryz.ntmps181
    go_wp2_with fail
    refine J2.out.mono ?_
    rintro e w' ⟨⟨i, rfl, t1⟩, rfl⟩
    go_wp2_with fail
    go_ret
    exact ⟨rfl, rfl⟩
  · rw [decide_eq_false h0]
    have J2 : Hid (Calls Tryz.prog 212 #[.slice ao l.length c, .string x] w fun e w' => (∃ i : Int, e = .returned (.int .i64 i) ∧ ¬ 0 ≤ i) ∧ w' = w) := J.out.mono (fun _e _w' ⟨⟨i, e1, e2⟩, e3⟩ => ⟨⟨i, e1, fun e => h0 (e2.1 e)⟩, e3⟩)
    clear J h0
    go_enter Tryz.func181, Tryz.ntmps181
    go_wp2_with fail
    refine J2.out.mono ?_
    rintro e w' ⟨⟨i, rfl, t1⟩, rfl⟩
    have t2 : decide (0 ≤ i) = false := decide_eq_false (by omega)
    go_wp2_with fail
    go_ret
    refine ⟨?_, rfl⟩
    simp
end Go.Proofs.YtafmiolehlagkaaGreat

/-
  World: letters, digits.
-/
namespace Go.Proofs.YtafmiolehlagkaaGreat
open Go.RowKit
set_option maxRecDepth 100000
def isL (c : Int) : Bool := decide (65 ≤ c ∧ c ≤ 90 ∨ 97 ≤ c ∧ c ≤ 122)
def isD (c : Int) : Bool := decide (48 ≤ c ∧ c ≤ 57)
set_option maxHeartbeats 2000000 in
theorem letter_any (c : Int) (w : World) : Calls Tryz.prog 210 #[.int .u8 c] w fun e w' => e = .returned (.bool (isL c)) ∧ w' = w := by
  by_cases h1 : c ≥ 65
  · by_cases h2 : c ≤ 90
    · have e : isL c = true := decide_eq_true (.inl ⟨h1, h2⟩)
      rw [e]
      go_enter Tryz.func210, Tryz.ntmps210
      go_wp2_with fail
      go_ret
      exact ⟨rfl, rfl⟩
    · by_cases h3 : c ≥ 97
      · by_cases h4 : c ≤ 122
        · have e : isL c = true := decide_eq_true (.inr ⟨h3, h4⟩)
          rw [e]
          go_enter Tryz.func210, Tryz.ntmps210
          go_wp2_with fail
          go_ret
          exact ⟨rfl, rfl⟩
        · have e : isL c = false := decide_eq_false (by omega)
          rw [e]
          go_enter Tryz.func210, Tryz.ntmps210
          go_wp2_with fail
          go_ret
          exact ⟨rfl, rfl⟩
      · have e : isL c = false := decide_eq_false (by omega)
        rw [e]
        go_enter Tryz.func210, Tryz.ntmps210
        go_wp2_with fail
        go_ret
        exact ⟨rfl, rfl⟩
  · have e : isL c = false := decide_eq_false (by omega)
    have h3 : ¬ c ≥ 97 := by omega
    rw [e]
    go_enter Tryz.func210, Tryz.ntmps210
    go_wp2_with fail
    go_ret
    exact ⟨rfl, rfl⟩
set_option maxHeartbeats 2000000 in
theorem digit_any (c : Int) (w : World) : Calls Tryz.prog 211 #[.int .u8 c] w fun e w' => e = .returned (.bool (isD c)) ∧ w' = w := by
  by_cases h1 : c ≥ 48
  · by_cases h2 : c ≤ 57
    · have e : isD c = true := decide_eq_true ⟨h1, h2⟩
      rw [e]
      go_enter Tryz.func211, Tryz.ntmps211
      go_wp2_with fail
      go_ret
      exact ⟨rfl, rfl⟩
    · have e : isD c = false := decide_eq_false (by omega)
      rw [e]
      go_enter Tryz.func211, Tryz.ntmps211
      go_wp2_with fail
      go_ret
      exact ⟨rfl, rfl⟩
  · have e : isD c = false := decide_eq_false (by omega)
    rw [e]
    go_enter Tryz.func211, Tryz.ntmps211
    go_wp2_with fail
    go_ret
    exact ⟨rfl, rfl⟩
end Go.Proofs.YtafmiolehlagkaaGreat

/-
  World: words.
-/
namespace Go.Proofs.YtafmiolehlagkaaGreat
open Go.RowKit
set_option maxRecDepth 100000
def okB (c : Int) : Bool := isL c || isD c || decide (c = 95)
def isW (x : ByteArray) : Prop := ∃ h : 0 < x.size, x.size ≤ 16 ∧ isL (x[0].toNat : Int) = true ∧ ∀ i (hi : i < x.size), okB (x[i].toNat : Int) = true
theorem text_empty {x : ByteArray} (h : 0 < x.size) : x.toList.isEmpty = false := by
  rw [ByteArray.toList_eq]
  cases hl : x.data.toList with
  | nil =>
    have : x.data.toList.length = x.size := Array.length_toList
    rw [hl] at this
    simp at this
    omega
  | cons _ _ => rfl
set_option maxHeartbeats 4000000 in
theorem word_any (x : ByteArray) (w : World) : Calls Tryz.prog 180 #[.string x] w fun e w' => (∃ b : Bool, e = .returned (.bool b) ∧ (b = true ↔ isW x)) ∧ w' = w := by
  by_cases h1 : 0 < x.size
  · have he := text_empty h1
    by_cases h16 : x.size ≤ 16
    · have t16 : ¬ (x.size : Int) > 16 := by omega
      have J0 := hide (letter_any (x[0].toNat : Int) w)
      cases hL : isL (x[0].toNat : Int) with
      | false =>
        rw [hL] at J0
        have HN : Hid (¬ isW x) := fun ⟨_, _, h, _⟩ => by rw [hL] at h; cases h
        clear hL
        go_enter Tryz.func180, Tryz.ntmps180
        go_wp2_with fail
        refine J0.out.mono ?_
        rintro e w' ⟨rfl, rfl⟩
        go_wp2_with fail
        go_ret
        exact ⟨⟨_, rfl, ⟨fun e => (by cases e), fun e => absurd e HN.out⟩⟩, rfl⟩
      | true =>
        rw [hL] at J0
        have HL := hide hL
        clear hL
        go_enter Tryz.func180, Tryz.ntmps180
        go_wp2_with fail
        refine J0.out.mono ?_
        rintro e w' ⟨rfl, rfl⟩
        obtain ⟨w, rfl⟩ : ∃ X, X = w' := ⟨_, rfl⟩
        go_wp2_with fail
        go_loopw [20] (fun v20 W => ∃ i : Nat, i ≤ x.size ∧ v20 = .int .i64 (i : Int) ∧ Hid (∀ j (hj : j < x.size), j < i → okB (x[j].toNat : Int) = true) ∧ Hid (W = w)) (fun v20 _ => x.size - (intOf v20).toNat)
        case atStart => exact ⟨0, Nat.zero_le _, rfl, fun j hj h => absurd h (by omega), rfl⟩
        case round =>
          obtain ⟨i, hil, rfl, HA, HW⟩ := hrel
          by_cases hlt : i < x.size
          · have t1 : (i : Int) < (x.size : Int) := by omega
            have J1 : Hid (∀ W, Calls Tryz.prog 210 #[.int .u8 (x[i].toNat : Int)] W fun e w' => e = .returned (.bool (isL (x[i].toNat : Int))) ∧ w' = W) := fun W => letter_any _ W
            have J2 : Hid (∀ W, Calls Tryz.prog 211 #[.int .u8 (x[i].toNat : Int)] W fun e w' => e = .returned (.bool (isD (x[i].toNat : Int))) ∧ w' = W) := fun W => digit_any _ W
            have HOK : Hid (okB (x[i].toNat : Int) = true → Hid (∀ j (hj : j < x.size), j < i + 1 → okB (x[j].toNat : Int) = true)) := fun h j hj hji => by
              by_cases e : j = i
              · subst e; exact h
              · exact HA.out j hj (by omega)
            have HNO : Hid (okB (x[i].toNat : Int) = false → ¬ isW x) := fun h ⟨_, _, _, h4⟩ => by
              have := h4 i hlt
              rw [h] at this
              cases this
            go_upto_region 7 with fail
            generalize (x[i].toNat : Int) = c at *
            cases hl : isL c with
            | true =>
              have HA2 := hide (HOK.out (by unfold okB; rw [hl]; rfl))
              clear HOK HNO
              simp only [hl] at J1
              clear J2 hl
              go_wp2_with fail
              refine (J1.out _).mono ?_
              rintro e w' ⟨rfl, rfl⟩
              go_wp2_with fail
              go_roundw
              case rel => exact ⟨i + 1, by omega, by go_num, HA2.out, HW⟩
              case measure => simp [intOf]; omega
            | false =>
              simp only [hl] at J1
              cases hd : isD c with
              | true =>
                have HA2 := hide (HOK.out (by unfold okB; rw [hl, hd]; rfl))
                clear HOK HNO
                simp only [hd] at J2
                clear hl hd
                go_wp2_with fail
                refine (J1.out _).mono ?_
                rintro e w' ⟨rfl, rfl⟩
                go_wp2_with fail
                refine (J2.out _).mono ?_
                rintro e w' ⟨rfl, rfl⟩
                go_wp2_with fail
                go_roundw
                case rel => exact ⟨i + 1, by omega, by go_num, HA2.out, HW⟩
                case measure => simp [intOf]; omega
              | false =>
                simp only [hd] at J2
                by_cases h95 : c = 95
                · have HA2 := hide (HOK.out (by unfold okB; rw [hl, hd, h95]; rfl))
                  subst h95
                  clear HOK HNO hl hd
                  go_wp2_with fail
                  refine (J1.out _).mono ?_
                  rintro e w' ⟨rfl, rfl⟩
                  go_wp2_with fail
                  refine (J2.out _).mono ?_
                  rintro e w' ⟨rfl, rfl⟩
                  go_wp2_with fail
                  go_roundw
                  case rel => exact ⟨i + 1, by omega, by go_num, HA2.out, HW⟩
                  case measure => simp [intOf]; omega
                · have HN := hide (HNO.out (by unfold okB; rw [hl, hd, decide_eq_false h95]; rfl))
                  have hb : (c != 95) = true := by rw [bne_iff_ne]; exact h95
                  have hb2 : (c == 95) = false := by rw [beq_eq_false_iff_ne]; exact h95
                  clear HOK HNO hl hd
                  go_wp2_with fail
                  refine (J1.out _).mono ?_
                  rintro e w' ⟨rfl, rfl⟩
                  go_wp2_with fail
                  refine (J2.out _).mono ?_
                  rintro e w' ⟨rfl, rfl⟩
                  go_wp2_with fail
                  go_ret
                  exact ⟨⟨_, rfl, ⟨fun e => (by cases e), fun e => absurd e HN.out⟩⟩, HW.out⟩
          · obtain rfl : i = x.size := by omega
            have t1 : ¬ (x.size : Int) < (x.size : Int) := by omega
            have HY : Hid (isW x) := ⟨h1, h16, HL.out, fun j hj => HA.out j hj hj⟩
            clear HA HL
            go_wp2_with fail
            go_ret
            first | exact ⟨.inr ⟨rfl, HY.out⟩, HW.out⟩ | exact ⟨⟨_, rfl, ⟨fun _ => HY.out, fun _ => rfl⟩⟩, HW.out⟩
    · have t16 : (x.size : Int) > 16 := by omega
      have HN : Hid (¬ isW x) := fun ⟨_, h, _⟩ => h16 h
      clear h16
      go_enter Tryz.func180, Tryz.ntmps180
      go_wp2_with fail
      go_ret
      exact ⟨⟨_, rfl, ⟨fun e => (by cases e), fun e => absurd e HN.out⟩⟩, rfl⟩
  · have he : x.toList.isEmpty = true := by
      rw [ByteArray.toList_eq]
      have : x.data.toList.length = x.size := Array.length_toList
      cases hl : x.data.toList with
      | nil => rfl
      | cons _ _ => rw [hl] at this; simp at this; omega
    have HN : Hid (¬ isW x) := fun ⟨h, _⟩ => h1 h
    clear h1
    go_enter Tryz.func180, Tryz.ntmps180
    go_wp2_with fail
    go_ret
    exact ⟨⟨_, rfl, ⟨fun e => (by cases e), fun e => absurd e HN.out⟩⟩, rfl⟩
end Go.Proofs.YtafmiolehlagkaaGreat

/-
  World: whether texts are words, and no two the same.
-/
namespace Go.Proofs.YtafmiolehlagkaaGreat
open Go.RowKit
set_option maxRecDepth 100000
def areW (l : List ByteArray) : Prop := (∀ x ∈ l, isW x) ∧ l.Nodup
theorem areW_push (l : List ByteArray) (i : Nat) (hi : i < l.length) : areW (l.take (i + 1)) ↔ areW (l.take i) ∧ isW l[i] ∧ l[i] ∉ l.take i := by
  unfold areW
  rw [List.take_succ_eq_append_getElem hi, List.nodup_append]
  simp only [List.mem_append, List.mem_singleton]
  constructor
  · rintro ⟨h1, h2, -, h4⟩
    exact ⟨⟨fun x hx => h1 x (.inl hx), h2⟩, h1 _ (.inr rfl), fun e => h4 _ e _ rfl rfl⟩
  · rintro ⟨⟨h1, h2⟩, h3, h4⟩
    refine ⟨fun x hx => ?_, h2, by simp, fun a ha b hb e => h4 (by rw [← hb, ← e]; exact ha)⟩
    rcases hx with hx | rfl
    · exact h1 x hx
    · exact h3
theorem areW_take (l : List ByteArray) (i : Nat) (h : areW l) : areW (l.take i) := ⟨fun x hx => h.1 x (List.mem_of_mem_take hx), h.2.sublist (List.take_sublist _ _)⟩
set_option maxHeartbeats 4000000 in
theorem arewords_any {w : World} {v : Value} {l : List ByteArray} (h : Sr w v l) : Calls Tryz.prog 143 #[v] w fun e w' => (∃ b : Bool, e = .returned (.bool b) ∧ (b = true ↔ areW l)) ∧ w' = w := by
  obtain ⟨ao, c, rfl, h1, h2, h3⟩ := h
  have hbig : c ≤ 9223372036854775807 := by unfold maxLen at h2; omega
  have H2 := hide h2
  have H3 := hide h3
  clear h3 h2
  go_enter Tryz.func143, Tryz.ntmps143
  go_wp2_with fail
  go_loopw [7] (fun v7 W => ∃ i : Nat, i ≤ l.length ∧ v7 = .int .i64 (i : Int) ∧ Hid (areW (l.take i)) ∧ Hid (W = w)) (fun v7 _ => l.length - (intOf v7).toNat)
  case atStart => exact ⟨0, Nat.zero_le _, rfl, ⟨fun x hx => by simp at hx, by simp⟩, rfl⟩
  case round =>
    obtain ⟨i, hil, rfl, HA, HW⟩ := hrel
    by_cases hlt : i < l.length
    · have t1 : (i : Int) < (l.length : Int) := by omega
      obtain ⟨g, o, rfl, e1⟩ := H3.out i hlt
      rw [← HW.out] at e1
      have hS : Sr wr (.slice (some ⟨g, o, none⟩) i c) (l.take i) := by
        have hl : (l.take i).length = i := by rw [List.length_take]; omega
        refine ⟨some ⟨g, o, none⟩, c, by rw [hl], by omega, H2.out, fun j hj => ⟨g, o, rfl, ?_⟩⟩
        obtain ⟨g', o', e', z⟩ := H3.out j (by omega)
        simp only [Option.some.injEq, Addr.mk.injEq, and_true] at e'
        obtain ⟨rfl, rfl⟩ := e'
        rw [List.getElem_take, HW.out]
        exact z
      have hp := areW_push l i hlt
      have hno : ¬ areW (l.take (i + 1)) → ¬ areW l := fun h e => h (areW_take l _ e)
      have HP := hide hp
      have HNO := hide hno
      letI : Decidable (l[i] ∈ l.take i) := Classical.propDecidable _
      have JC := hide (contains_any hS l[i])
      have JC1 : Hid (l[i] ∈ l.take i → Calls Tryz.prog 181 #[.slice (some ⟨g, o, none⟩) i c, .string l[i]] wr fun e w' => e = .returned (.bool true) ∧ w' = wr) := fun hm => by
        have := JC.out
        rw [decide_eq_true hm] at this
        exact this
      have JC0 : Hid (l[i] ∉ l.take i → Calls Tryz.prog 181 #[.slice (some ⟨g, o, none⟩) i c, .string l[i]] wr fun e w' => e = .returned (.bool false) ∧ w' = wr) := fun hm => by
        have := JC.out
        rw [decide_eq_false hm] at this
        exact this
      have JW := hide (word_any l[i] wr)
      have tm : (i : Int) ≤ (l.length : Int) := by omega
      have tm2 : (i : Int) ≤ (c : Int) := by omega
      clear JC
      clear hS hp hno
      generalize l[i] = x at *
      by_cases hw : isW x
      · have JW1 : Hid (Calls Tryz.prog 180 #[.string x] wr fun e w' => e = .returned (.bool true) ∧ w' = wr) := JW.out.mono (fun _e _w' ⟨⟨b, k1, k2⟩, k3⟩ => ⟨by rw [k1, k2.2 hw], k3⟩)
        by_cases hm : x ∈ l.take i
        · have JC := hide (JC1.out hm)
          clear JC1 JC0
          have HN := hide (HNO.out (fun e => (HP.out.1 e).2.2 hm))
          clear JW hw hm HP HNO
          go_wp2_with fail
          refine JW1.out.mono ?_
          rintro e w' ⟨rfl, rfl⟩
          go_wp2_with fail
          refine JC.out.mono ?_
          rintro e w' ⟨rfl, rfl⟩
          go_wp2_with fail
          go_ret
          exact ⟨⟨_, rfl, ⟨fun e => (by cases e), fun e => absurd e HN.out⟩⟩, HW.out⟩
        · have JC := hide (JC0.out hm)
          clear JC1 JC0
          have HN := hide (HP.out.2 ⟨HA.out, hw, hm⟩)
          clear JW hw hm HP HNO
          go_wp2_with fail
          refine JW1.out.mono ?_
          rintro e w' ⟨rfl, rfl⟩
          go_wp2_with fail
          refine JC.out.mono ?_
          rintro e w' ⟨rfl, rfl⟩
          go_wp2_with fail
          go_roundw
          case rel => exact ⟨i + 1, by omega, by go_num, HN, HW⟩
          case measure => simp [intOf]; omega
      · have JW1 : Hid (Calls Tryz.prog 180 #[.string x] wr fun e w' => e = .returned (.bool false) ∧ w' = wr) := JW.out.mono (fun _e _w' ⟨⟨b, k1, k2⟩, k3⟩ => ⟨by rw [k1]; cases b with
          | true => exact absurd (k2.1 rfl) hw
          | false => rfl, k3⟩)
        have HN := hide (HNO.out (fun e => hw (HP.out.1 e).2.1))
        clear JW hw HP HNO JC1 JC0
        go_wp2_with fail
        refine JW1.out.mono ?_
        rintro e w' ⟨rfl, rfl⟩
        go_wp2_with fail
        go_ret
        exact ⟨⟨_, rfl, ⟨fun e => (by cases e), fun e => absurd e HN.out⟩⟩, HW.out⟩
    · obtain rfl : i = l.length := by omega
      have t1 : ¬ (l.length : Int) < (l.length : Int) := by omega
      have hy := HA.out
      rw [List.take_length] at hy
      have HY := hide hy
      clear HA hy
      go_wp2_with fail
      go_ret
      first | exact ⟨.inr ⟨rfl, HY.out⟩, HW.out⟩ | exact ⟨⟨_, rfl, ⟨fun _ => HY.out, fun _ => rfl⟩⟩, HW.out⟩
end Go.Proofs.YtafmiolehlagkaaGreat

/-
  World: slices.Clone of texts.
-/
namespace Go.Proofs.YtafmiolehlagkaaGreat
open Go.RowKit
set_option maxRecDepth 100000
theorem info9 : (Tryz.prog.info? 9).map (fun i => (i.zero, i.size, i.bytes)) = some (some (.string ⟨#[]⟩), 1, 16) := by kernel_rfl
def sz (l : List ByteArray) : List Value := l.map Value.string
theorem sz_len (l : List ByteArray) : (sz l).length = l.length := by simp [sz]
theorem sz_one (l : List ByteArray) : ∀ u ∈ sz l, u.oneCell' = true := by
  intro u hu
  simp only [sz, List.mem_map] at hu
  obtain ⟨x, -, rfl⟩ := hu
  rfl
theorem sz_at (l : List ByteArray) (i : Nat) (h : i < l.length) : (sz l)[i]? = some (.string l[i]) := by simp [sz, h]
theorem Sr.own {w : World} {v : Value} {l : List ByteArray} {B : Nat} (h : w.ownsRow B 9 1 v l.length (sz l)) : Sr w v l := by
  rcases h.2 with ⟨rfl, hl⟩ | ⟨g, c, cur, rfl, -, hg, h1, h2, hcs, htake⟩
  · obtain rfl := List.eq_nil_of_length_eq_zero hl
    exact ⟨none, 0, rfl, Nat.le_refl _, Nat.zero_le _, fun j hj => absurd hj (by simp)⟩
  · refine ⟨_, c, rfl, h1, h2, fun j hj => ⟨g, 0, rfl, ?_⟩⟩
    rw [Nat.zero_add, h.cellAt j (by omega), sz_at l j hj]
set_option maxHeartbeats 1000000 in
theorem clone_texts (v : Value) (l : List ByteArray) (w : World) (h : Sr w v l) (hn : l.length ≤ 1000000) :
    Calls Tryz.prog 145 #[v] w fun e w' => ∃ v', e = .returned v' ∧ w'.ownsRow w.heap.size 9 1 v' l.length (sz l) ∧ Below w.heap.size w w' := by
  obtain ⟨i0, hi, hz0, hz1, hz2⟩ := info_parts info9
  have q41 : ∀ (w : World) (a : Option Addr) (n c n' c' : Nat), (binOp .eql 41 (.slice a n c) (.slice none n' c')).run Tryz.prog w = .ok (.bool a.isNone) w := fun w a n c n' c' => Lib.run_eql_slice_nil w _ _ a n c n' c' Tryz.underlying41
  obtain ⟨ao, c, rfl, h1, h2, h3⟩ := h
  cases ao with
  | none =>
    obtain rfl : l = [] := by
      cases l with
      | nil => rfl
      | cons x t =>
        obtain ⟨g, o, e, -⟩ := h3 0 (by simp)
        cases e
    clear h3
    go_enter Tryz.func145, Tryz.ntmps145
    go_wp2_with fail
    go_ret
    exact ⟨_, rfl, World.ownsRow_nil _ _ _ _, Below.refl _ _⟩
  | some ad =>
    have H : Hid (∀ j u, (sz l)[j]? = some u → (w.alloc (.cells #[] 9)).cell? (ad.add j) = some u) := fun j u hj => by
      have hj2 : j < l.length := by
        have := (List.getElem?_eq_some_iff.1 hj).1
        rwa [sz_len] at this
      rw [sz_at l j hj2] at hj
      obtain ⟨g', o', e3, z4⟩ := h3 j hj2
      obtain rfl := Option.some.inj e3
      rw [add_at, ← Option.some.inj hj]
      exact ((below_alloc w _).cell (p := ⟨g', o' + j, none⟩) (World.block_lt_of_cell? w _ z4)).trans z4
    clear h3
    go_enter Tryz.func145, Tryz.ntmps145
    go_wp2_with (at_builtin; refine wpList_append_own_at _ rfl _ _ 41 rfl w.heap.size 9 i0 (.string ⟨#[]⟩) 1 16 Tryz.underlying41 hi hz0 hz1 hz2 rfl (by decide) _ 0 [] rfl (World.ownsRow_lit w #[] 0 (Nat.le_refl _) (Nat.zero_le _) rfl) ad l.length c (sz l) rfl (by rw [sz_len]; omega) H.out (sz_one l) (by unfold maxLen; omega) (by omega) (by simp) ?_)
    intro v' w' ho hg _ _
    obtain ⟨ao, c, rfl⟩ := own_len ho
    have HO := hide ho
    have HG := hide hg
    clear ho hg
    go_wp2_with fail
    go_ret
    refine ⟨_, rfl, ?_, (below_alloc w _).grown HG.out (by simp) (fun k e => ?_)⟩
    · have := HO.out
      simpa using this
    · simp [Value.ownBlock] at e
      omega
end Go.Proofs.YtafmiolehlagkaaGreat

/-
  World: whether kinds may be those of a world.
-/
namespace Go.Proofs.YtafmiolehlagkaaGreat
open Go.RowKit
set_option maxRecDepth 100000
def fieldsOk (k : Kind) : Prop := k.2.length ≤ 4 ∧ areW k.2
def mayB (ks : List Kind) : Prop := 1 ≤ ks.length ∧ ks.length ≤ 12 ∧ (∀ k ∈ ks, fieldsOk k) ∧ areW (ks.map (·.1))
theorem sz_append (a b : List ByteArray) : sz (a ++ b) = sz a ++ sz b := by simp [sz]
theorem names_push (ks : List Kind) (i : Nat) (hi : i < ks.length) : (ks.take (i + 1)).map (·.1) = (ks.take i).map (·.1) ++ [ks[i].1] := by
  rw [List.take_succ_eq_append_getElem hi, List.map_append]
  rfl
set_option maxHeartbeats 4000000 in
theorem maybe_any {w : World} {v : Value} {ks : List Kind} (h : Kr w v ks) : Calls Tryz.prog 71 #[v] w fun e w' => (∃ b : Bool, e = .returned (.bool b) ∧ (b = true ↔ mayB ks)) ∧ Below w.heap.size w w' := by
  obtain ⟨i0, hi0, hz0, hz1, hz2⟩ := info_parts info9
  have HK := hide h
  obtain ⟨ao, c, rfl, h1, h2, h3⟩ := h
  have hbig : c ≤ 9223372036854775807 := by unfold maxLen at h2; omega
  clear h3 h2
  by_cases g1 : (ks.length : Int) < 1
  · have HN : Hid (¬ mayB ks) := fun h => by have := h.1; omega
    go_enter Tryz.func71, Tryz.ntmps71
    go_wp2_with fail
    go_ret
    first | exact ⟨.inl ⟨rfl, HN.out⟩, Below.refl _ _⟩ | exact ⟨⟨_, rfl, ⟨fun e => (by cases e), fun e => absurd e HN.out⟩⟩, Below.refl _ _⟩
  · by_cases g2 : (ks.length : Int) > 12
    · have HN : Hid (¬ mayB ks) := fun h => by have := h.2.1; omega
      go_enter Tryz.func71, Tryz.ntmps71
      go_wp2_with fail
      go_ret
      first | exact ⟨.inl ⟨rfl, HN.out⟩, Below.refl _ _⟩ | exact ⟨⟨_, rfl, ⟨fun e => (by cases e), fun e => absurd e HN.out⟩⟩, Below.refl _ _⟩
    · go_enter Tryz.func71, Tryz.ntmps71
      go_wp2_with fail
      go_loopw [3, 16] (fun v3 v16 W => ∃ i : Nat, i ≤ ks.length ∧ v16 = .int .i64 (i : Int) ∧ Hid (∀ k ∈ ks.take i, fieldsOk k) ∧ Hid (W.ownsRow w.heap.size 9 1 v3 ((ks.take i).map (·.1)).length (sz ((ks.take i).map (·.1)))) ∧ Hid (Below w.heap.size w W)) (fun _ v16 _ => ks.length - (intOf v16).toNat)
      case atStart => exact ⟨0, Nat.zero_le _, rfl, fun k hk => by simp at hk, World.ownsRow_nil _ _ _ _, Below.refl _ _⟩
      case round =>
        obtain ⟨i, hil, rfl, HA, HO, HB⟩ := hrel
        by_cases hlt : i < ks.length
        · have t1 : (i : Int) < (ks.length : Int) := by omega
          obtain ⟨ao', c', e', -, -, h3⟩ := HK.out.later HB.out
          simp only [Value.slice.injEq, true_and] at e'
          obtain ⟨rfl, rfl⟩ := e'
          obtain ⟨g, o, vf, rfl, e1, e2, e3⟩ := h3 i hlt
          have hnp := hide (names_push ks i hlt)
          have HNO : Hid (¬ fieldsOk ks[i] → ¬ mayB ks) := fun h e => h (e.2.2.1 _ (List.getElem_mem hlt))
          have HOK : Hid (fieldsOk ks[i] → ∀ k ∈ ks.take (i + 1), fieldsOk k) := fun h k hk => by
            rw [List.take_succ_eq_append_getElem hlt, List.mem_append, List.mem_singleton] at hk
            rcases hk with hk | rfl
            · exact HA.out k hk
            · exact h
          have hnl : ((ks.take i).map (·.1)).length ≤ 12 := by rw [List.length_map, List.length_take]; omega
          generalize (ks.take i).map (·.1) = N at *
          generalize ks[i] = kd at *
          obtain ⟨nm, fs⟩ := kd
          have E3 := hide e3
          obtain ⟨af, cf, rfl, -⟩ := e3
          obtain ⟨a3, c3, rfl⟩ := own_len HO.out
          dsimp only at e1 e2
          have hsz := HB.out.size
          have B5 : Hid (Below wr.heap.size wr (wr.alloc (.cells #[.string nm, .slice af fs.length cf] 119))) := below_alloc wr _
          have JA := hide (arewords_any (w := wr.alloc (.cells #[.string nm, .slice af fs.length cf] 119)) (E3.out.on (fun a x e => (B5.out.cell (p := a) (World.block_lt_of_cell? wr _ e)).trans e)))
          clear h3 E3
          by_cases g4 : (fs.length : Int) > 4
          · have HN := hide (HNO.out (fun e => by have := e.1; dsimp only at this; omega))
            clear HNO HOK JA
            go_wp2_with fail
            go_ret
            first | exact ⟨.inl ⟨rfl, HN.out⟩, below_on HB.out B5.out⟩ | exact ⟨⟨_, rfl, ⟨fun e => (by cases e), fun e => absurd e HN.out⟩⟩, below_on HB.out B5.out⟩
          · by_cases hW : areW fs
            · have JA1 : Hid (Calls Tryz.prog 143 #[.slice af fs.length cf] (wr.alloc (.cells #[.string nm, .slice af fs.length cf] 119)) fun e w' => e = .returned (.bool true) ∧ w' = wr.alloc (.cells #[.string nm, .slice af fs.length cf] 119)) := JA.out.mono (fun _e _w' ⟨⟨b, k1, k2⟩, k3⟩ => ⟨by rw [k1, k2.2 hW], k3⟩)
              have HY := hide (HOK.out ⟨by dsimp only; omega, hW⟩)
              have HX : Hid (∀ (v' : Value) (w' : World), w'.ownsRow w.heap.size 9 1 v' (N.length + 1) (sz N ++ [.string nm]) → ((wr.alloc (.cells #[.string nm, .slice af fs.length cf] 119)).alloc (.cells #[.string nm] 9)).grownBy w' (Value.slice a3 N.length c3).ownBlock → w'.ownsRow w.heap.size 9 1 v' ((ks.take (i + 1)).map (·.1)).length (sz ((ks.take (i + 1)).map (·.1))) ∧ Below w.heap.size w w') := fun v' w' k1 k2 => by
                refine ⟨?_, (below_on (below_on HB.out B5.out) (below_alloc _ _)).grown k2 (by simp; omega) (fun k e => (HO.out.lt k e).1)⟩
                rw [hnp.out, List.length_append, sz_append]
                exact k1
              clear JA HOK HNO hW hnp
              go_wp2_with (first | (go_at_call 143; refine JA1.out.mono ?_; rintro e w' ⟨rfl, rfl⟩) | (at_builtin; refine wpList_append_own_at _ rfl _ _ 41 rfl w.heap.size 9 i0 (.string ⟨#[]⟩) 1 16 Tryz.underlying41 hi0 hz0 hz1 hz2 rfl (by decide) _ N.length (sz N) rfl ((HO.out.alloc _).alloc _) ⟨wr.heap.size + 1, 0, none⟩ 1 1 [.string nm] rfl rfl ?c1 ?c2 (by unfold maxLen; omega) (by omega) ?c5 ?_))
              case c1 =>
                intro j u hj
                match j, hj with
                | 0, hj => simp at hj; subst hj; simp [Addr.add]
              case c2 =>
                intro u hu
                simp at hu
                subst hu
                rfl
              case c5 => simp; omega
              intro v' w' k1 k2 _ _
              obtain ⟨r1, r2⟩ := HX.out v' w' k1 k2
              have R1 := hide r1
              have R2 := hide r2
              clear k1 k2 r1 r2 HX
              go_wp2_with fail
              go_roundw
              case rel => exact ⟨i + 1, by omega, by go_num, HY, R1, R2⟩
              case measure => simp [intOf]; omega
            · have JA1 : Hid (Calls Tryz.prog 143 #[.slice af fs.length cf] (wr.alloc (.cells #[.string nm, .slice af fs.length cf] 119)) fun e w' => e = .returned (.bool false) ∧ w' = wr.alloc (.cells #[.string nm, .slice af fs.length cf] 119)) := JA.out.mono (fun _e _w' ⟨⟨b, k1, k2⟩, k3⟩ => ⟨by rw [k1]; cases b with
                | true => exact absurd (k2.1 rfl) hW
                | false => rfl, k3⟩)
              have HN := hide (HNO.out (fun e => hW e.2))
              clear HNO HOK JA hW
              go_wp2_with fail
              refine JA1.out.mono ?_
              rintro e w' ⟨rfl, rfl⟩
              go_wp2_with fail
              go_ret
              first | exact ⟨.inl ⟨rfl, HN.out⟩, below_on HB.out B5.out⟩ | exact ⟨⟨_, rfl, ⟨fun e => (by cases e), fun e => absurd e HN.out⟩⟩, below_on HB.out B5.out⟩
        · obtain rfl : i = ks.length := by omega
          have t1 : ¬ (ks.length : Int) < (ks.length : Int) := by omega
          have ho := HO.out
          have ha := HA.out
          rw [List.take_length] at ho ha
          have JA := hide (arewords_any (Sr.own ho))
          have HM : Hid (areW (ks.map (·.1)) ↔ mayB ks) := ⟨fun e => ⟨by omega, by omega, ha, e⟩, fun e => e.2.2.2⟩
          obtain ⟨a3, c3, rfl⟩ := own_len ho
          clear ho ha HO HA
          generalize (ks.map (·.1)).length = nn at *
          go_wp2_with fail
          refine JA.out.mono ?_
          rintro e w' ⟨⟨b, rfl, hb⟩, rfl⟩
          have HBB := hide (hb.trans HM.out)
          clear hb JA HM
          go_wp2_with fail
          go_ret
          exact ⟨⟨b, rfl, HBB.out⟩, HB.out⟩
end Go.Proofs.YtafmiolehlagkaaGreat

/-
  World: kinds cloned; New.
-/
namespace Go.Proofs.YtafmiolehlagkaaGreat
open Go.RowKit
set_option maxRecDepth 100000
theorem infoK : (Tryz.prog.info? 119).map (fun i => (i.zero, i.size, i.bytes)) = some (some (.agg #[.string ⟨#[]⟩, .slice none 0 0]), 2, 40) := by kernel_rfl
abbrev Kc := ByteArray × Option Addr × Nat × Nat
def kcV (p : Kc) : Value := .slice p.2.1 p.2.2.1 p.2.2.2
def kz : List Kc → List Value
  | [] => []
  | p :: l => .string p.1 :: .slice p.2.1 p.2.2.1 p.2.2.2 :: kz l
theorem kz_len : ∀ l : List Kc, (kz l).length = l.length * 2
  | [] => rfl
  | p :: t => by simp [kz, kz_len t]; omega
theorem kz_at : ∀ (l : List Kc) (i : Nat) (h : i < l.length), (kz l)[i * 2]? = some (.string l[i].1) ∧ (kz l)[i * 2 + 1]? = some (kcV l[i])
  | p :: t, 0, _ => ⟨rfl, rfl⟩
  | p :: t, i + 1, h => by
    have := kz_at t i (by simpa using h)
    rw [show (i + 1) * 2 = i * 2 + 1 + 1 by omega]
    simpa [kz] using this
theorem kz_set : ∀ (l : List Kc) (i : Nat) (x : Option Addr × Nat × Nat) (_h : i < l.length), (kz l).set (i * 2 + 1) (.slice x.1 x.2.1 x.2.2) = kz (l.set i (l[i].1, x))
  | p :: t, 0, x, _ => rfl
  | p :: t, i + 1, x, h => by
    have := kz_set t i x (by simpa using h)
    rw [show (i + 1) * 2 = i * 2 + 1 + 1 by omega]
    simpa [kz] using this
theorem kz_one : ∀ l : List Kc, ∀ u ∈ kz l, u.oneCell' = true
  | [], _, h => by cases h
  | p :: t, v, h => by
    simp only [kz, List.mem_cons] at h
    rcases h with rfl | rfl | h
    · rfl
    · rfl
    · exact kz_one t v h
/-- Kinds as they lie: names, and where the fields are. -/
def Kl (w : World) (v : Value) (L : List Kc) : Prop :=
  ∃ ao c, v = .slice ao L.length c ∧ L.length ≤ c ∧ c ≤ maxLen ∧ ∀ i (hi : i < L.length), ∃ g o, ao = some ⟨g, o, none⟩ ∧ w.cell? ⟨g, o + i * 2, none⟩ = some (.string L[i].1) ∧ w.cell? ⟨g, o + i * 2 + 1, none⟩ = some (kcV L[i])
theorem Kr.kl {w : World} {v : Value} {ks : List Kind} (h : Kr w v ks) : ∃ L, Kl w v L ∧ L.length = ks.length ∧ ∀ i (h1 : i < L.length) (h2 : i < ks.length), L[i].1 = ks[i].1 ∧ Sr w (kcV L[i]) ks[i].2 := by
  obtain ⟨ao, c, rfl, h1, h2, h3⟩ := h
  have hL : ∀ n, n ≤ ks.length → ∃ L : List Kc, L.length = n ∧ ∀ i (h1 : i < L.length) (h2 : i < ks.length), (∃ g o, ao = some ⟨g, o, none⟩ ∧ w.cell? ⟨g, o + i * 2, none⟩ = some (.string L[i].1) ∧ w.cell? ⟨g, o + i * 2 + 1, none⟩ = some (kcV L[i])) ∧ L[i].1 = ks[i].1 ∧ Sr w (kcV L[i]) ks[i].2 := by
    intro n
    induction n with
    | zero => exact fun _ => ⟨[], rfl, fun i h => by simp at h⟩
    | succ n ih =>
      intro hn
      obtain ⟨L, e1, e2⟩ := ih (by omega)
      obtain ⟨g, o, vf, ea, a1, a2, a3⟩ := h3 n (by omega)
      have a4 := a3
      obtain ⟨af, cf, rfl, -⟩ := a3
      refine ⟨L ++ [(ks[n].1, af, ks[n].2.length, cf)], by simp [e1], fun i hi hi2 => ?_⟩
      by_cases hin : i < L.length
      · rw [List.getElem_append_left hin]
        exact e2 i hin hi2
      · have hie : i = L.length := by simp at hi; omega
        subst hie
        rw [List.getElem_append_right (Nat.le_refl _)]
        simp only [Nat.sub_self, List.getElem_cons_zero, e1]
        exact ⟨⟨g, o, ea, a1, a2⟩, trivial, a4⟩
  obtain ⟨L, e1, e2⟩ := hL ks.length (Nat.le_refl _)
  refine ⟨L, ⟨ao, c, by rw [e1], by omega, h2, fun i hi => (e2 i hi (by omega)).1⟩, e1, fun i hi hi2 => (e2 i hi hi2).2⟩
set_option maxHeartbeats 1000000 in
theorem clone_kl (v : Value) (l : List Kc) (w : World) (h : Kl w v l) (hn : l.length ≤ 1000000) :
    Calls Tryz.prog 144 #[v] w fun e w' => ∃ v', e = .returned v' ∧ w'.ownsRow w.heap.size 119 2 v' l.length (kz l) ∧ Below w.heap.size w w' := by
  obtain ⟨i0, hi, hz0, hz1, hz2⟩ := info_parts infoK
  have q22 : ∀ (w : World) (a : Option Addr) (n c n' c' : Nat), (binOp .eql 22 (.slice a n c) (.slice none n' c')).run Tryz.prog w = .ok (.bool a.isNone) w := fun w a n c n' c' => Lib.run_eql_slice_nil w _ _ a n c n' c' Tryz.underlying22
  obtain ⟨ao, c, rfl, h1, h2, h3⟩ := h
  cases ao with
  | none =>
    obtain rfl : l = [] := by
      cases l with
      | nil => rfl
      | cons x t =>
        obtain ⟨g, o, e, -⟩ := h3 0 (by simp)
        cases e
    clear h3
    go_enter Tryz.func144, Tryz.ntmps144
    go_wp2_with fail
    go_ret
    exact ⟨_, rfl, World.ownsRow_nil _ _ _ _, Below.refl _ _⟩
  | some ad =>
    have H : Hid (∀ j u, (kz l)[j]? = some u → (w.alloc (.cells #[] 119)).cell? (ad.add j) = some u) := fun j u hj => by
      have hj2 : j < l.length * 2 := by
        have := (List.getElem?_eq_some_iff.1 hj).1
        rwa [kz_len] at this
      obtain ⟨g', o', e3, z4, z5⟩ := h3 (j / 2) (by omega)
      obtain rfl := Option.some.inj e3
      obtain ⟨y1, y2⟩ := kz_at l (j / 2) (by omega)
      rw [add_at]
      rcases Nat.mod_two_eq_zero_or_one j with hm | hm
      · have hje : j / 2 * 2 = j := by omega
        rw [hje] at y1 z4
        rw [y1] at hj
        rw [← Option.some.inj hj]
        exact ((below_alloc w _).cell (p := ⟨g', o' + j, none⟩) (World.block_lt_of_cell? w _ z4)).trans z4
      · have hje : j / 2 * 2 + 1 = j := by omega
        rw [hje] at y2
        rw [show o' + j / 2 * 2 + 1 = o' + j by omega] at z5
        rw [y2] at hj
        rw [← Option.some.inj hj]
        exact ((below_alloc w _).cell (p := ⟨g', o' + j, none⟩) (World.block_lt_of_cell? w _ z5)).trans z5
    clear h3
    go_enter Tryz.func144, Tryz.ntmps144
    go_wp2_with (at_builtin; refine wpList_append_own_at _ rfl _ _ 22 rfl w.heap.size 119 i0 (.agg #[.string ⟨#[]⟩, .slice none 0 0]) 2 40 Tryz.underlying22 hi hz0 hz1 hz2 rfl (by decide) _ 0 [] rfl (World.ownsRow_lit w #[] 0 (Nat.le_refl _) (Nat.zero_le _) rfl) ad l.length c (kz l) rfl (by rw [kz_len]) H.out (kz_one l) (by unfold maxLen; omega) (by omega) (by simp) ?_)
    intro v' w' ho hg _ _
    obtain ⟨ao, c, rfl⟩ := own_len ho
    have HO := hide ho
    have HG := hide hg
    clear ho hg
    go_wp2_with fail
    go_ret
    refine ⟨_, rfl, ?_, (below_alloc w _).grown HG.out (by simp) (fun k e => ?_)⟩
    · have := HO.out
      simpa using this
    · simp [Value.ownBlock] at e
      omega
end Go.Proofs.YtafmiolehlagkaaGreat

/-
  World: cloneKinds; New.
-/
namespace Go.Proofs.YtafmiolehlagkaaGreat
open Go.RowKit
set_option maxRecDepth 100000
/-- The clone under way: behind i rounds. -/
def Ck (w w1 W : World) (v : Value) (ks : List Kind) (L : List Kc) (i : Nat) : Prop :=
  L.length = ks.length ∧ (∀ j (h1 : j < L.length) (h2 : j < ks.length), L[j].1 = ks[j].1 ∧ (j < i → W.ownsRow w1.heap.size 9 1 (kcV L[j]) ks[j].2.length (sz ks[j].2))) ∧ W.ownsRow w.heap.size 119 2 v ks.length (kz L) ∧ Below w.heap.size w W ∧ w1.heap.size ≤ W.heap.size ∧ w.heap.size ≤ w1.heap.size ∧ ∀ k, v.ownBlock = some k → k < w1.heap.size
theorem Ck.turn {w w1 W W2 : World} {g c : Nat} {ks : List Kind} {L : List Kc} {i : Nat} (h : Ck w w1 W (.slice (some ⟨g, 0, none⟩) ks.length c) ks L i) (hi : i < ks.length) (hb : Below W.heap.size W W2) {a2 : Option Addr} {n2 c2 : Nat} (ho : W2.ownsRow W.heap.size 9 1 (.slice a2 n2 c2) ks[i].2.length (sz ks[i].2)) :
    (W2.cell? ⟨g, i * 2 + 1, none⟩ = some (kcV (L[i]'(by rw [h.1]; exact hi))) ∧ W2.frozen? ⟨g, i * 2 + 1, none⟩ = false) ∧ ∃ L', Ck w w1 (W2.setCell ⟨g, i * 2 + 1, none⟩ (.slice a2 n2 c2)) (.slice (some ⟨g, 0, none⟩) ks.length c) ks L' (i + 1) := by
  obtain ⟨h1, h2, h3, h4, h5, h6, h7⟩ := h
  have hL : i < L.length := by omega
  have h3' := own_later h3 hb
  have hg := h7 g rfl
  refine ⟨⟨by rw [h3'.cellAt (i * 2 + 1) (by omega)]; exact (kz_at L i hL).2, h3'.frozenAt _⟩, L.set i (L[i].1, a2, n2, c2), by rw [List.length_set]; exact h1, fun j j1 j2 => ?_, ?_, ?_, ?_, h6, h7⟩
  · rw [List.length_set] at j1
    obtain ⟨k1, k2⟩ := h2 j j1 j2
    by_cases e : i = j
    · subst e
      rw [List.getElem_set_self]
      refine ⟨k1, fun _ => own_set (own_lower ho h5) (fun e' => ?_)⟩
      have := (ho.lt g e').1
      omega
    · rw [List.getElem_set_ne e]
      refine ⟨k1, fun hj => own_set (own_later (k2 (by omega)) hb) (fun e' => ?_)⟩
      have := ((k2 (by omega)).lt g e').1
      omega
  · have := (h3'.stored (i * 2 + 1) (.slice a2 n2 c2)).1
    rw [show (Value.slice a2 n2 c2) = .slice (a2, n2, c2).1 (a2, n2, c2).2.1 (a2, n2, c2).2.2 from rfl, kz_set L i (a2, n2, c2) hL] at this
    exact this
  · have := (h3.lt g rfl).1
    exact (below_on h4 hb).grown (grown_set _ _ _ _) (by have := hb.size; have := h4.size; omega) (fun k e => by cases e; omega)
  · have := (grown_set W2 g (i * 2 + 1) (.slice a2 n2 c2)).size
    have := hb.size
    omega
/-- Kinds in memory of their own. -/
def Ko (B : Nat) (w : World) (v : Value) (ks : List Kind) : Prop := ∃ L, w.ownsRow B 119 2 v ks.length (kz L) ∧ L.length = ks.length ∧ ∀ i (h1 : i < L.length) (h2 : i < ks.length), L[i].1 = ks[i].1 ∧ w.ownsRow B 9 1 (kcV L[i]) ks[i].2.length (sz ks[i].2)
theorem Ck.fin {w w1 W : World} {v : Value} {ks : List Kind} {L : List Kc} (h : Ck w w1 W v ks L ks.length) : Ko w.heap.size W v ks ∧ Below w.heap.size w W := by
  obtain ⟨h1, h2, h3, h4, h5, h6, h7⟩ := h
  exact ⟨⟨L, h3, h1, fun i i1 i2 => ⟨(h2 i i1 i2).1, own_lower ((h2 i i1 i2).2 i2) h6⟩⟩, h4⟩
theorem Ko.kr {B : Nat} {w : World} {v : Value} {ks : List Kind} (h : Ko B w v ks) : Kr w v ks := by
  obtain ⟨L, h1, h2, h3⟩ := h
  rcases h1.2 with ⟨rfl, hl⟩ | ⟨g, c, cur, rfl, -, hg, e1, e2, hcs, htake⟩
  · have : ks.length = 0 := hl
    exact ⟨none, 0, by rw [this], by omega, Nat.zero_le _, fun j hj => absurd hj (by omega)⟩
  · refine ⟨_, c, rfl, e1, e2, fun i hi => ⟨g, 0, kcV (L[i]'(by omega)), rfl, ?_, ?_, ?_⟩⟩
    · rw [Nat.zero_add, h1.cellAt (i * 2) (by omega), (kz_at L i (by omega)).1, (h3 i (by omega) hi).1]
    · rw [Nat.zero_add, h1.cellAt (i * 2 + 1) (by omega), (kz_at L i (by omega)).2]
    · exact Sr.own (h3 i (by omega) hi).2
theorem Ko.same {B : Nat} {w w' : World} {v : Value} {ks : List Kind} (h : Ko B w v ks) (hs : ∀ k, B ≤ k → k < w.heap.size → w'.heap[k]? = w.heap[k]?) : Ko B w' v ks := by
  have key : ∀ {e s n : Nat} {v : Value} {xs : List Value}, w.ownsRow B e s v n xs → w'.ownsRow B e s v n xs := fun {e s n v xs} hr => by
    have hlt := hr.lt
    obtain ⟨a1, a2⟩ := hr
    refine ⟨a1, ?_⟩
    rcases a2 with a2 | ⟨g, c, cur, rfl, b1, b2, b3⟩
    · exact .inl a2
    · have := hlt g rfl
      exact .inr ⟨g, c, cur, rfl, b1, (hs g this.1 this.2).trans b2, b3⟩
  obtain ⟨L, h1, h2, h3⟩ := h
  exact ⟨L, key h1, h2, fun i i1 i2 => ⟨(h3 i i1 i2).1, key (h3 i i1 i2).2⟩⟩
set_option maxHeartbeats 4000000 in
theorem clone_kinds {w : World} {v : Value} {ks : List Kind} (h : Kr w v ks) (hn : ks.length ≤ 1000) (hf : ∀ k ∈ ks, k.2.length ≤ 1000) :
    Calls Tryz.prog 73 #[v] w fun e w' => ∃ v', e = .returned v' ∧ Ko w.heap.size w' v' ks ∧ Below w.heap.size w w' := by
  have HK := hide h
  obtain ⟨L0, hkl, hlen, hsr⟩ := h.kl
  have JC := hide (clone_kl v L0 w hkl (by omega))
  have HN : Hid (L0.length = ks.length) := hlen
  have HR : Hid (∀ i (h1 : i < L0.length) (h2 : i < ks.length), L0[i].1 = ks[i].1) := fun i h1 h2 => (hsr i h1 h2).1
  clear hsr hkl
  obtain ⟨ao, c, rfl, h1, h2, h3⟩ := h
  have hbig : c ≤ 9223372036854775807 := by unfold maxLen at h2; omega
  have HF := hide hf
  clear h3 h2 hf hlen
  go_enter Tryz.func73, Tryz.ntmps73
  go_wp2_with fail
  refine JC.out.mono ?_
  rintro e w1 ⟨v', rfl, ho, hb⟩
  rw [HN.out] at ho
  have hlt := ho.lt
  have hbs := hb.size
  obtain ⟨a', c', rfl⟩ := own_len ho
  have H0 : Hid (∃ L, Ck w w1 w1 (.slice a' ks.length c') ks L 0) := ⟨L0, HN.out, fun j j1 j2 => ⟨HR.out j j1 j2, fun e => absurd e (by omega)⟩, ho, hb, Nat.le_refl _, hb.size, fun k e => (hlt k e).2⟩
  have hc' := (own_cap ho)
  clear ho hlt HR JC hb HN
  go_wp2_with fail
  go_loopw [10] (fun v10 W => ∃ i : Nat, i ≤ ks.length ∧ v10 = .int .i64 (i : Int) ∧ Hid (∃ L, Ck w w1 W (.slice a' ks.length c') ks L i)) (fun v10 _ => ks.length - (intOf v10).toNat)
  case atStart => exact ⟨0, Nat.zero_le _, rfl, H0⟩
  case round =>
    obtain ⟨i, hil, rfl, HC⟩ := hrel
    by_cases hlt : i < ks.length
    · have t1 : (i : Int) < (ks.length : Int) := by omega
      have t2 : (0 : Int) ≤ (i : Int) := by omega
      obtain ⟨L, hC⟩ := HC.out
      obtain ⟨ao2, c2, e2, -, -, h3⟩ := HK.out.later hC.2.2.2.1
      simp only [Value.slice.injEq, true_and] at e2
      obtain ⟨rfl, rfl⟩ := e2
      obtain ⟨g, o, vf, rfl, y1, y2, y3⟩ := h3 i hlt
      obtain ⟨g', c3, e3, -, -⟩ := own_form hC.2.2.1 (by omega)
      simp only [Value.slice.injEq, true_and] at e3
      obtain ⟨rfl, rfl⟩ := e3
      have hfl := HF.out _ (List.getElem_mem hlt)
      have HT : Hid (∀ (W2 : World), Below (wr.alloc (.cells #[.string ks[i].1, vf] 119)).heap.size (wr.alloc (.cells #[.string ks[i].1, vf] 119)) W2 → ∀ a2 n2 c2, W2.ownsRow (wr.alloc (.cells #[.string ks[i].1, vf] 119)).heap.size 9 1 (.slice a2 n2 c2) ks[i].2.length (sz ks[i].2) → (W2.cell? ⟨g', i * 2 + 1, none⟩ = some (kcV (L[i]'(by rw [hC.1]; exact hlt))) ∧ W2.frozen? ⟨g', i * 2 + 1, none⟩ = false) ∧ ∃ L', Ck w w1 (W2.setCell ⟨g', i * 2 + 1, none⟩ (.slice a2 n2 c2)) (.slice (some ⟨g', 0, none⟩) ks.length c') ks L' (i + 1)) := fun W2 hb2 a2 n2 c2 ho => hC.turn hlt (below_on (below_alloc wr _) hb2) (own_lower ho (by simp))
      have JT : Hid (Calls Tryz.prog 145 #[vf] (wr.alloc (.cells #[.string ks[i].1, vf] 119)) fun e w' => ∃ v', e = .returned v' ∧ w'.ownsRow (wr.alloc (.cells #[.string ks[i].1, vf] 119)).heap.size 9 1 v' ks[i].2.length (sz ks[i].2) ∧ Below (wr.alloc (.cells #[.string ks[i].1, vf] 119)).heap.size (wr.alloc (.cells #[.string ks[i].1, vf] 119)) w') := clone_texts vf _ _ (y3.on (fun a x e => ((below_alloc wr _).cell (p := a) (World.block_lt_of_cell? wr _ e)).trans e)) (by omega)
      generalize L[i]'(by rw [hC.1]; exact hlt) = li at *
      clear hC HC h3 hfl
      generalize ks[i] = kd at *
      obtain ⟨nm, fs⟩ := kd
      obtain ⟨af, cf, rfl, -⟩ := y3
      dsimp only at y1 y2 HT JT
      go_wp2_with fail
      refine JT.out.mono ?_
      rintro e w2 ⟨v2, rfl, ho2, hb2⟩
      obtain ⟨a2, c2, rfl⟩ := own_len ho2
      obtain ⟨⟨z1, z2⟩, hz⟩ := HT.out w2 hb2 _ _ _ ho2
      have HZ := hide hz
      clear hz HT JT ho2 hb2
      go_wp2_with fail
      go_roundw
      case rel => exact ⟨i + 1, by omega, by go_num, HZ⟩
      case measure => simp [intOf]; omega
    · obtain rfl : i = ks.length := by omega
      have t1 : ¬ (ks.length : Int) < (ks.length : Int) := by omega
      obtain ⟨L, hC⟩ := HC.out
      have HE := hide hC.fin
      clear hC HC
      go_wp2_with fail
      go_ret
      exact ⟨_, rfl, HE.out.1, HE.out.2⟩
/-- A world of nobody. -/
theorem wx_made {w w3 : World} {g0 B2 : Nat} {vk : Value} {ks : List Kind} (hp : Pl w3 (fun k => k = g0) g0 200 [] []) (hg : g0 < B2) (hk : Ko B2 w3 vk ks) (hB : w.heap.size ≤ g0) (hB2 : B2 ≤ w3.heap.size) (T : Nat → Ts) :
    ∃ own : Nat → Nat, (∀ k, k < w.heap.size → own k = 0) ∧ Wx 0 (((w3.alloc (.map #[] 0)).alloc (.map #[] 0)).alloc (.cells #[vk, .pointer (some ⟨g0, 0, none⟩), .map (some w3.heap.size), .map (some (w3.heap.size + 1))] 109)) own (w3.heap.size + 1 + 1) vk g0 w3.heap.size (w3.heap.size + 1) 0 ks [] [] (fun _ => none) (fun _ => none) T := by
  obtain ⟨o3, ho3⟩ : ∃ X, X = Obj.cells #[vk, .pointer (some ⟨g0, 0, none⟩), .map (some w3.heap.size), .map (some (w3.heap.size + 1))] 109 (0, 0) := ⟨_, rfl⟩
  rw [← ho3]
  obtain ⟨n1, n2, n3⟩ : ((((w3.alloc (.map #[] 0)).alloc (.map #[] 0)).alloc o3).heap[w3.heap.size]? = some (.map #[] 0)) ∧ ((((w3.alloc (.map #[] 0)).alloc (.map #[] 0)).alloc o3).heap[w3.heap.size + 1]? = some (.map #[] 0)) ∧ ((((w3.alloc (.map #[] 0)).alloc (.map #[] 0)).alloc o3).heap[w3.heap.size + 1 + 1]? = some o3) := by
    refine ⟨?_, ?_, ?_⟩
    · have b1 := below_alloc (w3.alloc (.map #[] 0)) (.map #[] 0)
      have b2 := below_alloc ((w3.alloc (.map #[] 0)).alloc (.map #[] 0)) o3
      exact (b2.block _ (by simp; omega)).trans ((b1.block _ (by simp)).trans (heap_alloc_new w3 _))
    · have b2 := below_alloc ((w3.alloc (.map #[] 0)).alloc (.map #[] 0)) o3
      refine (b2.block _ (by simp)).trans ?_
      have := heap_alloc_new (w3.alloc (.map #[] 0)) (.map #[] 0)
      simpa using this
    · have := heap_alloc_new ((w3.alloc (.map #[] 0)).alloc (.map #[] 0)) o3
      simpa using this
  have hb : Below w3.heap.size w3 (((w3.alloc (.map #[] 0)).alloc (.map #[] 0)).alloc o3) := below_on (below_on (below_alloc w3 _) (below_alloc _ _)) (below_alloc _ _)
  have hsz : (((w3.alloc (.map #[] 0)).alloc (.map #[] 0)).alloc o3).heap.size = w3.heap.size + 3 := by simp
  generalize ((w3.alloc (.map #[] 0)).alloc (.map #[] 0)).alloc o3 = W at *
  refine ⟨fun k => if k < B2 then (if k = g0 then 3 else 0) else if k = w3.heap.size then 4 else if k = w3.heap.size + 1 then 5 else if k = w3.heap.size + 1 + 1 then 1 else 2, fun k hk => ?_, ⟨?_, ?_, ?_⟩, ⟨by omega, by omega⟩, ?_, ?_, fun _ => ?_, fun _ => ?_, fun _ => ?_, fun s g h => by cases h⟩
  · dsimp only
    rw [if_pos (by omega), if_neg (by omega)]
  · dsimp only
    rw [if_neg (by omega), if_neg (by omega), if_neg (by omega), if_pos rfl]
  · dsimp only
    rw [if_neg (by omega), if_pos rfl]
  · dsimp only
    rw [if_neg (by omega), if_neg (by omega), if_pos rfl]
  · rw [Wc, n3, ho3]
  · intro w' hw'
    refine Ko.kr (hk.same (w' := w') (fun k k1 k2 => ?_))
    refine (hw' k ⟨by omega, ?_⟩).trans (hb.block k k2)
    dsimp only
    rw [if_neg (by omega), if_neg (by omega), if_neg (by omega), if_neg (by omega)]
  · refine (hp.later hb).mono (fun k e => ?_)
    subst e
    refine ⟨by omega, ?_⟩
    dsimp only
    rw [if_pos hg, if_pos rfl]
  · exact (Mp.made w3).same (n1.trans (heap_alloc_new w3 _).symm)
  · have e : (w3.alloc (.map #[] 0)).heap.size = w3.heap.size + 1 := by simp
    have h1 := Mq.made (w3.alloc (.map #[] 0))
    have h2 := heap_alloc_new (w3.alloc (.map #[] 0)) (.map #[] 0)
    rw [e] at h1 h2
    exact h1.same (n2.trans h2.symm)
set_option maxHeartbeats 4000000 in
theorem wnew_bad {w : World} {v : Value} {ks : List Kind} (h : Kr w v ks) (hm : ¬ mayB ks) :
    Calls Tryz.prog 22 #[v] w fun e w' => e = .returned (.tuple #[.pointer none, .int .i64 65]) ∧ Below w.heap.size w w' := by
  have JM : Hid (Calls Tryz.prog 71 #[v] w fun e w' => e = .returned (.bool false) ∧ Below w.heap.size w w') := (maybe_any h).mono (fun _e _w' ⟨⟨b, k1, k2⟩, k3⟩ => ⟨by
    rw [k1]
    cases b with
    | true => exact absurd (k2.1 rfl) hm
    | false => rfl, k3⟩)
  obtain ⟨ao, c, rfl, -⟩ := h
  clear hm
  go_enter Tryz.func22, Tryz.ntmps22
  go_wp2_with fail
  refine JM.out.mono ?_
  rintro e w1 ⟨rfl, hb⟩
  have HB := hide hb
  clear hb JM
  go_wp2_with fail
  go_ret2
  exact ⟨rfl, HB.out⟩
set_option maxHeartbeats 4000000 in
theorem wnew_any {w : World} {v : Value} {ks : List Kind} (h : Kr w v ks) (hm : mayB ks) (T : Nat → Ts) :
    Calls Tryz.prog 22 #[v] w fun e w' => ∃ gw, e = .returned (.tuple #[.pointer (some ⟨gw, 0, none⟩), .int .i64 0]) ∧ (∃ own vk gp gm gt, (∀ k, k < w.heap.size → own k = 0) ∧ Wx 0 w' own gw vk gp gm gt 0 ks [] [] (fun _ => none) (fun _ => none) T) ∧ Below w.heap.size w w' := by
  have JM : Hid (Calls Tryz.prog 71 #[v] w fun e w' => e = .returned (.bool true) ∧ Below w.heap.size w w') := (maybe_any h).mono (fun _e _w' ⟨⟨b, k1, k2⟩, k3⟩ => ⟨by rw [k1, k2.2 hm], k3⟩)
  have JK : Hid (∀ W, Below w.heap.size w W → Calls Tryz.prog 73 #[v] W fun e w' => ∃ v', e = .returned v' ∧ Ko W.heap.size w' v' ks ∧ Below W.heap.size W w') := fun W hW => clone_kinds (h.later hW) (by have := hm.2.1; omega) (fun k hk => by have := (hm.2.2.1 k hk).1; omega)
  have JP : Hid (∀ W : World, Calls Tryz.prog 72 #[.int .i64 200] W fun e w' => e = .returned (.tuple #[.pointer (some ⟨W.heap.size, 0, none⟩), .int .i64 0]) ∧ Pl w' (fun k => k = W.heap.size) W.heap.size 200 [] [] ∧ Below W.heap.size W w') := fun W => i_new_any 200 W (by omega) (by omega)
  have hmm := @run_makeMap Tryz.prog
  obtain ⟨ao, c, rfl, -⟩ := h
  clear hm
  go_enter Tryz.func22, Tryz.ntmps22
  go_wp2_with fail
  refine JM.out.mono ?_
  rintro e w1 ⟨rfl, hb⟩
  have HB1 := hide hb
  clear hb JM
  go_wp2_with fail
  refine (JP.out _).mono ?_
  rintro e w2 ⟨rfl, hp, hb⟩
  have HB2 := hide hb
  have HP := hide hp
  clear hp hb JP
  go_wp2_with fail
  refine (JK.out _ (below_on HB1.out HB2.out)).mono ?_
  rintro e w3 ⟨vk, rfl, hk, hb⟩
  have HB3 := hide hb
  have HKo := hide hk
  clear hb JK
  obtain ⟨L, hk, -⟩ := hk
  obtain ⟨ak, ck, rfl⟩ := own_len hk
  clear hk
  go_wp2_with fail
  go_ret2
  have hlt : w1.heap.size < w2.heap.size := by
    obtain ⟨⟨vg, vl, vf, hpm, -⟩, -⟩ := HP.out
    exact hpm.lt
  obtain ⟨own, o1, o2⟩ := wx_made (w := w) (HP.out.later HB3.out) hlt HKo.out HB1.out.size HB3.out.size T
  refine ⟨_, rfl, ⟨own, _, _, _, _, o1, o2⟩, ?_⟩
  exact below_on (below_on (below_on HB1.out HB2.out) HB3.out) (below_on (below_on (below_alloc w3 _) (below_alloc _ _)) (below_alloc _ _))
end Go.Proofs.YtafmiolehlagkaaGreat

/-
  World: who lives with what.
-/
namespace Go.Proofs.YtafmiolehlagkaaGreat
open Go.RowKit
set_option maxRecDepth 100000
theorem row_ext {a b : List (List Int)} {i j : Nat} (hl : a.length = b.length) (h : ∀ m (h1 : m < a.length) (h2 : m < b.length), a[m].getD i 0 = b[m].getD j 0) : rowOf a i = rowOf b j := by
  refine List.ext_getElem (by simp [rowOf, hl]) (fun m m1 m2 => ?_)
  simp only [rowOf, List.length_map] at m1 m2
  simp only [rowOf, List.getElem_map]
  exact h m m1 m2
theorem row_add_old {cols : List (List Int)} {vals : List Int} {n j : Nat} (hc : ∀ c ∈ cols, c.length = n) (hj : j < n) : rowOf (addRow cols vals) j = rowOf cols j := by
  refine row_ext (addRow_len _ _) (fun m m1 m2 => ?_)
  have := hc _ (List.getElem_mem m2)
  rw [addRow_at cols vals m m2 m1, List.getD_eq_getElem?_getD, List.getElem?_append_left (by omega), ← List.getD_eq_getElem?_getD]
theorem row_add_new {cols : List (List Int)} {vals : List Int} {n : Nat} (hc : ∀ c ∈ cols, c.length = n) (hv : vals.length = cols.length) : rowOf (addRow cols vals) n = vals := by
  refine List.ext_getElem (by rw [rowOf_len, addRow_len, hv]) (fun m m1 m2 => ?_)
  have hm : m < cols.length := by omega
  have hm1 : m < (addRow cols vals).length := by rw [addRow_len]; exact hm
  have := hc _ (List.getElem_mem hm)
  simp only [rowOf, List.getElem_map]
  rw [addRow_at cols vals m hm hm1, List.getD_eq_getElem?_getD, List.getElem?_append_right (by omega), this, Nat.sub_self]
  simp [m2]
theorem row_rem {cols : List (List Int)} {n r j : Nat} (hc : ∀ c ∈ cols, c.length = n) (hr : r < n) (hj : j < n - 1) : rowOf (remCols cols r) j = rowOf cols (if j = r then n - 1 else j) := by
  refine row_ext (remCols_len _ _) (fun m m1 m2 => ?_)
  have hl := hc _ (List.getElem_mem m2)
  have hj2 : j < (rem cols[m] r).length := by rw [rem_len]; omega
  rw [remCols_at cols r m m2 m1, List.getD_eq_getElem?_getD, List.getElem?_eq_getElem hj2, Option.getD_some, rem_at _ _ _ (by omega) hj2]
  by_cases c : j = r
  · rw [if_pos c, if_pos c, List.getD_eq_getElem?_getD, List.getElem?_eq_getElem (by omega), Option.getD_some]
    congr 1
    omega
  · rw [if_neg c, if_neg c, List.getD_eq_getElem?_getD, List.getElem?_eq_getElem (by omega), Option.getD_some]
abbrev Co := Int × Int → Option (Nat × List Int)
/-- The tables hold what is told of each. -/
def Ct (C : Co) (T : Nat → Ts) : Prop := ∀ e s vals, C e = some (s, vals) → ∃ j, ∃ hj : j < (T s).1.length, (T s).1[j] = e ∧ rowOf (T s).2 j = vals
def fC (C : Co) : Int × Int → Option Nat := fun e => (C e).map (·.1)
section
variable {ks : List Kind} {C : Co} {q : Nat → Option Nat} {T : Nat → Ts}
theorem fC_some {e : Int × Int} {s : Nat} {vals : List Int} (h : C e = some (s, vals)) : fC C e = some s := by simp [fC, h]
theorem fC_is (e : Int × Int) : (fC C e).isSome = (C e).isSome := by simp [fC]
theorem fC_less (C : Co) (e : Int × Int) : fC (fun x => if x = e then none else C x) = fun x => if x = e then none else fC C x := by
  funext x
  by_cases c : x = e <;> simp [fC, c]
theorem fC_more (C : Co) (e : Int × Int) (p : Nat × List Int) : fC (fun x => if x = e then some p else C x) = fun x => if x = e then some p.1 else fC C x := by
  funext x
  by_cases c : x = e <;> simp [fC, c]
theorem Ct.drop (h : Ct C T) (hw : Wi ks (fC C) q T) {e : Int × Int} {s r : Nat} (hf : fC C e = some s) (hr : r < (T s).1.length) (hx : (T s).1[r] = e) : Ct (fun x => if x = e then none else C x) (lessT T s r) := by
  obtain ⟨_, ⟨g, hg⟩, _⟩ := hw.1 e s hf
  obtain ⟨_, k2, k3, k4, k5, k6⟩ := hw.2 s g hg
  intro x s' vals hx'
  dsimp only at hx'
  by_cases c : x = e
  · rw [if_pos c] at hx'; cases hx'
  · rw [if_neg c] at hx'
    obtain ⟨j, hj, e1, e2⟩ := h x s' vals hx'
    by_cases d : s' = s
    · subst d
      have hjr : j ≠ r := fun e' => c (by subst e'; exact e1.symm.trans hx)
      by_cases hl : j = (T s').1.length - 1
      · have hr2 : r < (rem (T s').1 r).length := by rw [rem_len]; omega
        refine ⟨r, by simp only [lessT, if_true]; exact hr2, ?_, ?_⟩
        · simp only [lessT, if_true]
          rw [rem_at _ _ _ hr hr2, if_pos rfl]
          subst hl
          exact e1
        · simp only [lessT, if_true]
          rw [row_rem k6 hr (by omega), if_pos rfl, ← hl]
          exact e2
      · have hj2 : j < (rem (T s').1 r).length := by rw [rem_len]; omega
        refine ⟨j, by simp only [lessT, if_true]; exact hj2, ?_, ?_⟩
        · simp only [lessT, if_true]
          rw [rem_at _ _ _ hr hj2, if_neg hjr]
          exact e1
        · simp only [lessT, if_true]
          rw [row_rem k6 hr (by omega), if_neg hjr]
          exact e2
    · refine ⟨j, by simp only [lessT, if_neg d]; exact hj, ?_, ?_⟩
      · simp only [lessT, if_neg d]
        exact e1
      · simp only [lessT, if_neg d]
        exact e2
theorem Ct.put (h : Ct C T) (hw : Wi ks (fC C) q T) {e : Int × Int} {s : Nat} {vals : List Int} (hv : vals.length = fsum ks s 1) : Ct (fun x => if x = e then some (s, vals) else C x) (moreT q T s e vals) := by
  have hb : (baseT q T s vals.length).2.length = vals.length ∧ ∀ c ∈ (baseT q T s vals.length).2, c.length = (baseT q T s vals.length).1.length := by
    unfold baseT
    cases hq : q s with
    | none => simp
    | some g0 =>
      obtain ⟨_, k2, _, _, _, k6⟩ := hw.2 s g0 hq
      simp only [Option.isSome_some, if_true]
      exact ⟨by rw [k2, hv], k6⟩
  intro x s' vals' hx'
  dsimp only at hx'
  by_cases c : x = e
  · rw [if_pos c] at hx'
    simp only [Option.some.injEq, Prod.mk.injEq] at hx'
    obtain ⟨rfl, rfl⟩ := hx'
    refine ⟨(baseT q T s vals.length).1.length, by simp [moreT], ?_, ?_⟩
    · simp [moreT, c]
    · simp only [moreT, if_true]
      exact row_add_new hb.2 hb.1.symm
  · rw [if_neg c] at hx'
    obtain ⟨j, hj, e1, e2⟩ := h x s' vals' hx'
    by_cases d : s' = s
    · subst d
      obtain ⟨_, ⟨g, hg⟩, _⟩ := hw.1 x s' (fC_some hx')
      have hbe : baseT q T s' vals.length = T s' := by unfold baseT; rw [hg]; simp
      obtain ⟨_, _, _, _, _, k6⟩ := hw.2 s' g hg
      refine ⟨j, by simp only [moreT, if_true, hbe, List.length_append]; omega, ?_, ?_⟩
      · simp only [moreT, if_true, hbe]
        rw [List.getElem_append_left hj]
        exact e1
      · simp only [moreT, if_true, hbe]
        rw [row_add_old k6 hj]
        exact e2
    · refine ⟨j, by simp only [moreT, if_neg d]; exact hj, ?_, ?_⟩
      · simp only [moreT, if_neg d]
        exact e1
      · simp only [moreT, if_neg d]
        exact e2
end
/-! ### A world, as it is told -/
def Lv (gs fr : List Nat) (C : Co) : Prop := ∀ a b, livesOf gs fr a b = (C (a, b)).isSome
/-- A world: its kinds, its pool as State tells it, and who lives with what. -/
def Wn (w : World) (own : Nat → Nat) (gw N : Nat) (ks : List Kind) (gs fr : List Nat) (C : Co) : Prop :=
  ∃ vk gp gm gt q T, Wx 0 w own gw vk gp gm gt N ks gs fr (fC C) q T ∧ Wi ks (fC C) q T ∧ Ct C T ∧ mayB ks ∧ Lv gs fr C ∧ ∀ e s vals, C e = some (s, vals) → Pak.Rw.AllFit vals
theorem lives_at {gs fr : List Nat} {a b : Int} (h : livesOf gs fr a b = true) : ∃ i : Nat, a = (i : Int) ∧ i < gs.length ∧ on gs fr i = true ∧ b = ((gs.getD i 0 : Nat) : Int) := by
  simp only [livesOf, isOn, Bool.and_eq_true, decide_eq_true_eq] at h
  exact ⟨a.toNat, by omega, h.1.1.2, h.1.2, h.2.symm⟩
theorem lives_cnt {gs fr : List Nat} {C : Co} (h : Lv gs fr C) (hg : gs.length ≤ 200) (E : List (Int × Int)) (hn : E.Nodup) (hE : ∀ e ∈ E, (fC C e).isSome = true) : E.length ≤ 200 := by
  have hm : (E.map (fun e => e.1.toNat)).Nodup := by
    refine List.pairwise_map.2 (List.Pairwise.imp_of_mem (fun {x y} hx hy hne e => ?_) hn)
    have h1 := hE x hx
    have h2 := hE y hy
    rw [fC_is, ← h] at h1 h2
    obtain ⟨i, i1, i2, i3, i4⟩ := lives_at h1
    obtain ⟨j, j1, j2, j3, j4⟩ := lives_at h2
    have : i = j := by rw [i1, j1] at e; simpa using e
    subst this
    exact hne (Prod.ext (i1.trans j1.symm) (i4.trans j4.symm))
  have := nodup_len 200 _ hm (fun n hn' => by
    obtain ⟨e, he, rfl⟩ := List.mem_map.1 hn'
    have h1 := hE e he
    rw [fC_is, ← h] at h1
    obtain ⟨i, i1, i2, -⟩ := lives_at h1
    rw [i1]
    simp
    omega)
  rwa [List.length_map] at this
section
variable {w w' : World} {own : Nat → Nat} {gw N N' : Nat} {ks : List Kind} {gs fr : List Nat} {C : Co}
theorem Wn.later (h : Wn w own gw N ks gs fr C) (hb : Below w.heap.size w w') : Wn w' (rel own w 0) gw N ks gs fr C := by
  obtain ⟨vk, gp, gm, gt, q, T, h1, h2⟩ := h
  exact ⟨vk, gp, gm, gt, q, T, h1.later hb, h2⟩
theorem Wn.up (h : Wn w own gw N ks gs fr C) (hN : N ≤ N') : Wn w own gw N' ks gs fr C := by
  obtain ⟨vk, gp, gm, gt, q, T, h1, h2⟩ := h
  exact ⟨vk, gp, gm, gt, q, T, h1.up hN, h2⟩
theorem Wn.ok (h : Wn w own gw N ks gs fr C) : Ok 200 gs fr := by
  obtain ⟨vk, gp, gm, gt, q, T, h1, h2⟩ := h
  exact h1.pl.2
theorem fit_cols {q : Nat → Option Nat} {T : Nat → Ts} (hw : Wi ks (fC C) q T) (hc : Ct C T) (hf : ∀ e s vals, C e = some (s, vals) → Pak.Rw.AllFit vals) : ∀ s g, q s = some g → ∀ c ∈ (T s).2, Pak.Rw.AllFit c := fun s g hg c hcm z hz => by
  obtain ⟨_, k2, k3, k4, k5, k6⟩ := hw.2 s g hg
  obtain ⟨m, hm, rfl⟩ := List.getElem_of_mem hcm
  obtain ⟨j, hj, rfl⟩ := List.getElem_of_mem hz
  have hjl : j < (T s).1.length := by rw [← k6 _ (List.getElem_mem hm)]; exact hj
  have hfe := k4 _ (List.getElem_mem hjl)
  obtain ⟨⟨s', vals⟩, hC, hs'⟩ := Option.map_eq_some_iff.1 hfe
  dsimp only at hs'
  subst hs'
  obtain ⟨j', hj', e1, e2⟩ := hc _ _ _ hC
  obtain rfl := nodup_at k3 hj' hjl e1
  refine hf _ _ _ hC _ ?_
  rw [← e2]
  simp only [rowOf, List.mem_map]
  exact ⟨_, List.getElem_mem hm, by rw [List.getD_eq_getElem?_getD, List.getElem?_eq_getElem hj]; rfl⟩
theorem inb_of {gs fr : List Nat} {a b : Int} (ho : Ok 200 gs fr) (h : livesOf gs fr a b = true) : InB (a, b) := by
  obtain ⟨i, i1, i2, i3, i4⟩ := lives_at h
  have := ho.gen i i2
  have := ho.2.2.1
  refine ⟨⟨?_, ?_⟩, ?_, ?_⟩ <;> dsimp only <;> omega
end
end Go.Proofs.YtafmiolehlagkaaGreat
