import Derived.Test.YtafmiolehlagkaaGreatWSort
import Derived.Test.YtafmiolehlagkaaGreatWParts
import Derived.Test.YtafmiolehlagkaaGreatWMath
import Derived.Maps.RangeWalk
import Derived.Shelf.SlSortCmp.WholeK
/-
  World: rows are put in order by their numbers: slices.SortFunc at rows, laid.
-/
namespace Go.Proofs.YtafmiolehlagkaaGreat
open Go.RowKit Go.Shelf Go.Lib Go.Sort
set_option maxRecDepth 100000
def renR : Ren := ⟨fun x => if x = 6 then 82 else if x = 14 then 153 else if x = 15 then 154 else if x = 20 then 184 else if x = 21 then 185 else if x = 22 then 186 else if x = 23 then 187 else if x = 24 then 188 else if x = 25 then 189 else if x = 26 then 190 else if x = 27 then 191 else if x = 28 then 192 else if x = 29 then 165 else if x = 46 then 213 else if x = 47 then 214 else if x = 48 then 215 else if x = 49 then 216 else if x = 50 then 217 else if x = 57 then 222 else x, fun x => if x = 22 then 78 else if x = 24 then 87 else if x = 25 then 145 else if x = 39 then 211 else if x = 45 then 230 else if x = 46 then 231 else if x = 50 then 176 else if x = 53 then 237 else if x = 55 then 165 else if x = 66 then 248 else if x = 70 then 252 else if x = 76 then 258 else if x = 77 then 166 else x, fun x => x⟩
set_option maxHeartbeats 8000000 in
theorem laidR : SlLaysF0.n6 Tryz.prog renR where
  mixed := by kernel_rfl
  f6 := ⟨"slices.SortFunc[[]hindcast/api.Row,hindcast/api.Row]", by decide, by kernel_rfl⟩
  f14 := ⟨"slices.pdqsortCmpFunc[hindcast/api.Row]", by decide, by kernel_rfl⟩
  f15 := by kernel_rfl
  f20 := ⟨"slices.insertionSortCmpFunc[hindcast/api.Row]", by decide, by kernel_rfl⟩
  f21 := ⟨"slices.heapSortCmpFunc[hindcast/api.Row]", by decide, by kernel_rfl⟩
  f22 := ⟨"slices.breakPatternsCmpFunc[hindcast/api.Row]", by decide, by kernel_rfl⟩
  f23 := ⟨"slices.choosePivotCmpFunc[hindcast/api.Row]", by decide, by kernel_rfl⟩
  f24 := ⟨"slices.reverseRangeCmpFunc[hindcast/api.Row]", by decide, by kernel_rfl⟩
  f25 := ⟨"slices.partialInsertionSortCmpFunc[hindcast/api.Row]", by decide, by kernel_rfl⟩
  f26 := ⟨"slices.partitionEqualCmpFunc[hindcast/api.Row]", by decide, by kernel_rfl⟩
  f27 := ⟨"slices.partitionCmpFunc[hindcast/api.Row]", by decide, by kernel_rfl⟩
  f28 := by kernel_rfl
  f29 := by kernel_rfl
  f46 := ⟨"slices.siftDownCmpFunc[hindcast/api.Row]", by decide, by kernel_rfl⟩
  f47 := by kernel_rfl
  f48 := by kernel_rfl
  f49 := ⟨"slices.medianAdjacentCmpFunc[hindcast/api.Row]", by decide, by kernel_rfl⟩
  f50 := ⟨"slices.medianCmpFunc[hindcast/api.Row]", by decide, by kernel_rfl⟩
  f57 := ⟨"slices.order2CmpFunc[hindcast/api.Row]", by decide, by kernel_rfl⟩
  t0 := by kernel_rfl
  a0 := fun w => by kernel_rfl
  z0 := fun w => by kernel_rfl
  v0 := fun w => by kernel_rfl
  t3 := by kernel_rfl
  a3 := fun w => by kernel_rfl
  z3 := fun w => by kernel_rfl
  v3 := fun w => by kernel_rfl
  t4 := by kernel_rfl
  a4 := fun w => by kernel_rfl
  z4 := fun w => by kernel_rfl
  v4 := fun w => by kernel_rfl
  t5 := by kernel_rfl
  a5 := fun w => by kernel_rfl
  z5 := fun w => by kernel_rfl
  v5 := fun w => by kernel_rfl
  t9 := by kernel_rfl
  a9 := fun w => by kernel_rfl
  z9 := fun w => by kernel_rfl
  v9 := fun w => by kernel_rfl
  t22 := by kernel_rfl
  a22 := fun w => by kernel_rfl
  z22 := fun w => by kernel_rfl
  v22 := fun w => by kernel_rfl
  t25 := by kernel_rfl
  a25 := fun w => by kernel_rfl
  z25 := fun w => by kernel_rfl
  v25 := fun w => by kernel_rfl
  t39 := by kernel_rfl
  a39 := fun w => by kernel_rfl
  z39 := fun w => by kernel_rfl
  v39 := fun w => by kernel_rfl
  t45 := by kernel_rfl
  a45 := fun w => by kernel_rfl
  z45 := fun w => by kernel_rfl
  v45 := fun w => by kernel_rfl
  t46 := by kernel_rfl
  a46 := fun w => by kernel_rfl
  z46 := fun w => by kernel_rfl
  v46 := fun w => by kernel_rfl
  t50 := by kernel_rfl
  a50 := fun w => by kernel_rfl
  z50 := fun w => by kernel_rfl
  v50 := fun w => by kernel_rfl
  t53 := by kernel_rfl
  a53 := fun w => by kernel_rfl
  z53 := fun w => by kernel_rfl
  v53 := fun w => by kernel_rfl
  t55 := by kernel_rfl
  a55 := fun w => by kernel_rfl
  z55 := fun w => by kernel_rfl
  v55 := fun w => by kernel_rfl
  t66 := by kernel_rfl
  a66 := fun w => by kernel_rfl
  z66 := fun w => by kernel_rfl
  v66 := fun w => by kernel_rfl
  t70 := by kernel_rfl
  a70 := fun w => by kernel_rfl
  z70 := fun w => by kernel_rfl
  v70 := fun w => by kernel_rfl
  t76 := by kernel_rfl
  a76 := fun w => by kernel_rfl
  z76 := fun w => by kernel_rfl
  v76 := fun w => by kernel_rfl
  t77 := by kernel_rfl
  a77 := fun w => by kernel_rfl
  z77 := fun w => by kernel_rfl
  v77 := fun w => by kernel_rfl
end Go.Proofs.YtafmiolehlagkaaGreat

/-
  World: ranging over the map of sets.
-/
namespace Go.Proofs.YtafmiolehlagkaaGreat
open Go.RowKit
set_option maxRecDepth 100000
theorem wf_in {x : Int} (h : (Lit.int .i64 x).wf = true) : -9223372036854775808 ≤ x ∧ x ≤ 9223372036854775807 := by
  simp [Lit.wf, IntKind.min, IntKind.max, IntKind.signed, IntKind.bits] at h
  exact h
theorem key_inv {v : Value} {kl : Lit} (h : keyOf Tryz.prog 29 v = some kl) : ∃ e : Int × Int, v = evz e ∧ InB e := by
  have hk : Tryz.prog.keyType 29 = true := by kernel_rfl
  have hc : Tryz.prog.cellsOf 29 = 2 := by kernel_rfl
  have hc3 : Tryz.prog.cellsOf 3 = 1 := by kernel_rfl
  obtain ⟨d, hd⟩ : ∃ d, Tryz.prog.types.size + 1 = d + 2 := ⟨275, by kernel_rfl⟩
  unfold keyOf at h
  rw [Tryz.underlying29] at h
  simp only [hk, Bool.true_and] at h
  split at h
  · rename_i hf
    rw [Option.map_eq_some_iff] at h
    obtain ⟨ls, hl, -⟩ := h
    rw [hd] at hl
    have hv : ∃ x y, v = .agg #[x, y] := by
      unfold Value.formed at hf
      rw [Tryz.underlying29] at hf
      split at hf
      · rename_i cs
        simp only [hc, beq_iff_eq] at hf
        obtain ⟨l⟩ := cs
        match l, hf with
        | [x, y], _ => exact ⟨x, y, rfl⟩
      · cases hf
      · cases hf
    obtain ⟨x, y, rfl⟩ := hv
    have key : ∀ (z : Value) (l : List Lit), Tryz.prog.keyLits (d + 1) 3 [z] = some l → ∃ a, z = .int .i64 a ∧ (Lit.int .i64 a).wf = true := by
      intro z l hz
      cases z <;> simp [Program.keyLits, Tryz.underlying3] at hz
      rename_i q n
      obtain ⟨⟨rfl, h2⟩, -⟩ := hz
      exact ⟨n, rfl, h2⟩
    unfold Program.keyLits at hl
    rw [Tryz.underlying29] at hl
    generalize hG : Tryz.prog.keyLits (d + 1) = G at *
    simp [Value.cells, hc, hc3, List.mapM_cons] at hl
    cases hx : G 3 [x] with
    | none => rw [hx] at hl; simp at hl
    | some lx =>
      cases hy : G 3 [y] with
      | none => rw [hx, hy] at hl; simp at hl
      | some ly =>
        obtain ⟨a, rfl, ha⟩ := key x lx hx
        obtain ⟨b, rfl, hb⟩ := key y ly hy
        exact ⟨(a, b), rfl, wf_in ha, wf_in hb⟩
  · cases h
/-- A range over a map of entities under way: E: who came. -/
def Rg (w : World) (gm r n : Nat) (f : Int × Int → Option Nat) (E : List (Int × Int)) (cnt : Nat) : Prop :=
  ∃ (D : DataW Unit) (left : Lit → Bool), w.ranges Tryz.prog 29 (plainElem Tryz.prog 3) gm r n D left cnt ∧ E.Nodup ∧ (∀ e ∈ E, InB e ∧ (f e).isSome = true) ∧ ∀ e, InB e → ∀ kl, keyOf Tryz.prog 29 (evz e) = some kl → (left kl = true ↔ (f e).isSome = true ∧ e ∉ E)
section
variable {w w' : World} {gm r n cnt : Nat} {f : Int × Int → Option Nat} {E : List (Int × Int)}
theorem Rg.kept {row : Option Nat} (h : Rg w gm r n f E cnt) (hg : w.grownBy w' row) (h1 : some gm ≠ row) (h2 : some r ≠ row) : Rg w' gm r n f E cnt := by
  obtain ⟨D, left, a1, a2⟩ := h
  exact ⟨D, left, a1.kept hg h1 h2, a2⟩
theorem Rg.later (h : Rg w gm r n f E cnt) (hb : Below w.heap.size w w') : Rg w' gm r n f E cnt := h.kept (grown_later hb) (by simp) (by simp)
theorem Rg.left_eq (h : Rg w gm r n f E cnt) : w.rangeLeft gm r = cnt := by
  obtain ⟨D, left, a1, a2⟩ := h
  exact a1.left_eq
theorem Rg.start {D : DataW Unit} (h2 : ∀ e, InB e → ∀ kl, keyOf Tryz.prog 29 (evz e) = some kl → Maps.has D kl = (f e).isSome ∧ ∀ i, f e = some i → D.atKey kl (.lit (.int .i64 0)) = .lit (.int .i64 (i : Int))) (hr : w'.ranges Tryz.prog 29 (plainElem Tryz.prog 3) gm r n D (Maps.has D) (Maps.size D)) : Rg w' gm r n f [] (Maps.size D) :=
  ⟨D, _, hr, List.nodup_nil, fun e h => (by cases h), fun e he kl hk => (by rw [(h2 e he kl hk).1]; simp)⟩
theorem Rg.done (h : Rg w gm r n f E cnt) (hl : cnt = 0) : ∀ e, InB e → (f e).isSome = true → e ∈ E := by
  obtain ⟨D, left, a1, -, -, a4⟩ := h
  rcases a1.next keyed32 0 with ⟨_, b2, _⟩ | ⟨key, v, kl, y, w', cnt', _, _, _, _, _, _, c7, _⟩
  · intro e he hf
    obtain ⟨kl, hkl⟩ := key_of e he
    by_cases c : e ∈ E
    · exact c
    · have := (a4 e he kl hkl).2 ⟨hf, c⟩
      rw [b2 kl] at this
      cases this
  · omega
/-- The next one: nobody is left, or one comes. -/
theorem Rg.next (h : Rg w gm r n f E cnt) (ty : TypeId) :
    (cnt = 0 ∧ (Instr.next (.pointer (some ⟨r, 0, none⟩)) false ty).run Tryz.prog w = .ok (.tuple #[.bool false]) w) ∨
    ∃ (a b c : Int) (w' : World) (cnt' : Nat), InB (a, b) ∧ (f (a, b)).isSome = true ∧ (a, b) ∉ E ∧ (Instr.next (.pointer (some ⟨r, 0, none⟩)) false ty).run Tryz.prog w = .ok (.tuple #[.bool true, .agg #[.int .i64 a, .int .i64 b], .int .i64 c]) w' ∧ Rg w' gm r n f (E ++ [(a, b)]) cnt' ∧ cnt' < cnt ∧ w.grownBy w' (some r) ∧ w'.heap.size = w.heap.size ∧ (Instr.entry (.pointer (some ⟨r, 0, none⟩))).run Tryz.prog w' = .ok (.tuple #[.agg #[.int .i64 a, .int .i64 b], .int .i64 c]) w' := by
  obtain ⟨D, left, a1, a2, a3, a4⟩ := h
  rcases a1.next keyed32 ty with ⟨b1, b2, b3⟩ | ⟨key, v, kl, y, w', cnt', c1, c2, c3, c4, c5, c6, c7, c8, c9, c10⟩
  · exact .inl ⟨b1, b3⟩
  · obtain ⟨⟨a, b⟩, rfl, hin⟩ := key_inv c1
    obtain ⟨c, rfl, -⟩ := plainElem_int_inv Tryz.underlying3 c3
    have h1 := (a4 _ hin kl c1).1 c2
    refine .inr ⟨a, b, c, w', cnt', hin, h1.1, h1.2, c5, ⟨D, _, c6, ?_, fun e he => ?_, fun e he kx hkx => ?_⟩, c7, c8, c9, c10⟩
    · rw [List.nodup_append]
      refine ⟨a2, by simp, fun x hx y hy e => ?_⟩
      simp only [List.mem_singleton] at hy
      subst e
      exact h1.2 (hy ▸ hx)
    · rcases List.mem_append.1 he with he | he
      · exact a3 e he
      · rw [List.mem_singleton.1 he]
        exact ⟨hin, h1.1⟩
    · have hk : (kx.sameKey kl = true) ↔ e = (a, b) := by
        rw [WideAt.sameKey_iff (keyed32.key c1)]
        constructor
        · intro e'
          subst e'
          exact evz_inj (keyed32.inj hkx c1)
        · intro e'
          subst e'
          rw [hkx] at c1
          exact Option.some.inj c1
      have h4 := a4 e he kx hkx
      simp only [Bool.and_eq_true, Bool.not_eq_true', List.mem_append, List.mem_singleton, not_or]
      rw [← Bool.not_eq_true, hk, h4]
      exact ⟨fun h => ⟨h.1.1, h.1.2, h.2⟩, fun h => ⟨⟨h.1, h.2.1⟩, h.2.2⟩⟩
end
end Go.Proofs.YtafmiolehlagkaaGreat

/-
  World: Row.
-/
namespace Go.Proofs.YtafmiolehlagkaaGreat
open Go.RowKit
set_option maxRecDepth 100000
section
variable {w w' : World} {own : Nat → Nat} {gw gp gm gt M M' : Nat} {vk : Value} {ks : List Kind} {gs fr gs' fr' : List Nat} {f f' : Int × Int → Option Nat} {q q' : Nat → Option Nat} {T T' : Nat → Ts}
theorem row_cells {w W : World} {kr : Nat} (h : w.heap[kr]? = some (.cells #[.int .i64 0, .int .i64 0, .slice none 0 0] 87 (0, 0))) (hb : Below w.heap.size w W) : (W.cell? ⟨kr, 0, none⟩ = some (.int .i64 0) ∧ W.cell? ⟨kr, 1, none⟩ = some (.int .i64 0) ∧ W.cell? ⟨kr, 2, none⟩ = some (.slice none 0 0)) ∧ W.frozen? ⟨kr, 0, none⟩ = false ∧ W.frozen? ⟨kr, 1, none⟩ = false ∧ W.frozen? ⟨kr, 2, none⟩ = false := by
  have hx := (hb.block kr (lt_of_block h)).trans h
  refine ⟨⟨?_, ?_, ?_⟩, frozen_of_row W kr 0 _ 87 hx, frozen_of_row W kr 1 _ 87 hx, frozen_of_row W kr 2 _ 87 hx⟩ <;> rw [cell_of_row W kr _ _ 87 (0, 0) hx] <;> rfl
set_option maxHeartbeats 4000000 in
theorem row_stale (h : Wx 0 w own gw vk gp gm gt M ks gs fr f q T) (a b : Int) (hl : livesOf gs fr a b = false) : Calls Tryz.prog 33 #[.pointer (some ⟨gw, 0, none⟩), .agg #[.int .i64 a, .int .i64 b]] w fun e w' => e = .returned (.tuple #[.agg #[.int .i64 0, .int .i64 0, .slice none 0 0], .int .i64 41]) ∧ Below w.heap.size w w' := by
  obtain ⟨w2, hw2⟩ : ∃ X, X = (w.alloc (.cells #[.int .i64 a, .int .i64 b] 29)).alloc (.cells #[.int .i64 0, .int .i64 0, .slice none 0 0] 87) := ⟨_, rfl⟩
  have B2 : Hid (Below w.heap.size w w2) := hw2 ▸ below_on (below_alloc w _) (below_alloc _ _)
  have hx1 : w2.heap[w.heap.size]? = some (.cells #[.int .i64 a, .int .i64 b] 29 (0, 0)) := by
    rw [hw2]
    exact ((below_alloc _ _).block w.heap.size (by simp)).trans (heap_alloc_new w _)
  have hx2 : w2.heap[w.heap.size + 1]? = some (.cells #[.int .i64 0, .int .i64 0, .slice none 0 0] 87 (0, 0)) := by
    have := heap_alloc_new (w.alloc (.cells #[.int .i64 a, .int .i64 b] 29)) (.cells #[.int .i64 0, .int .i64 0, .slice none 0 0] 87)
    rw [hw2]
    simpa using this
  have J1 := hide (wlives_any (h.later B2.out) a b)
  rw [hl] at J1
  clear h hl
  go_enter Tryz.func33, Tryz.ntmps33
  go_wp2_with fail
  rw [← hw2]
  obtain ⟨kx, hkx⟩ : ∃ k, k = w.heap.size := ⟨_, rfl⟩
  obtain ⟨kr, hkr⟩ : ∃ k, k = w.heap.size + 1 := ⟨_, rfl⟩
  have HKR : Hid (w.heap.size ≤ kr) := by unfold Hid; omega
  rw [← hkr] at hx2 ⊢
  rw [← hkx] at hx1 ⊢
  clear hkx hkr hw2
  refine J1.out.mono ?_
  rintro e w3 ⟨rfl, hb3⟩
  have B3 := hide (below_on B2.out hb3)
  obtain ⟨⟨z0, z1, z2⟩, f0, f1, f2⟩ := row_cells hx2 hb3
  have HB7 : Hid (Below w.heap.size w (((w3.setCell ⟨kr, 0, none⟩ (.int .i64 0)).setCell ⟨kr, 1, none⟩ (.int .i64 0)).setCell ⟨kr, 2, none⟩ (.slice none 0 0))) := below_set (below_set (below_set B3.out HKR.out) HKR.out) HKR.out
  clear hb3 hx1 hx2 J1
  go_wp2_with fail
  (try simp only [Exit.inBlock, Exit.then])
  refine bodyPost_ret (v := .tuple #[.agg #[.int .i64 0, .int .i64 0, .slice none 0 0], .int .i64 41]) ?_ rfl ⟨rfl, HB7.out⟩
  rw [results_cell_tmp rfl]
  go_simp
theorem row_end {w w5 W' : World} {B kr n c : Nat} {a5 : Option Addr} {L : List Pt} {R : List (Nat × List Int)} (hg : w5.grownBy W' (some kr)) (ho : w5.ownsRow B 32 2 (.slice a5 L.length c) L.length (pz L)) (hv : Pv B w5 L R) (hb : Below w.heap.size w w5) (hB : w.heap.size ≤ B) (hk : w.heap.size ≤ kr) (hkn : kr < n) (hn : n ≤ B) : (W'.ownsRow w.heap.size 32 2 (.slice a5 L.length c) L.length (pz L) ∧ Pv w.heap.size W' L R) ∧ Below w.heap.size w W' := by
  refine ⟨⟨own_lower (own_kept ho hg (fun j e e2 => by have := (ho.lt j e).1; have := Option.some.inj e2; omega)) hB, ?_⟩, hb.grown hg hb.size (fun j e => by have := Option.some.inj e; omega)⟩
  have h2 := hv.grown hg (fun p hp j e e2 => by
    obtain ⟨m, hm, rfl⟩ := List.getElem_of_mem hp
    have := ((hv.2 m hm (by rw [← hv.1]; exact hm)).2.lt j e).1
    have := Option.some.inj e2
    omega)
  exact ⟨h2.1, fun i h1 h3 => ⟨(h2.2 i h1 h3).1, own_lower (h2.2 i h1 h3).2 hB⟩⟩
set_option maxHeartbeats 8000000 in
theorem row_live (h : Wx 0 w own gw vk gp gm gt M ks gs fr f q T) (a b : Int) (hl : livesOf gs fr a b = true) (hib : InB (a, b)) (hks : ks.length ≤ 12) (s g i : Nat) (hf : f (a, b) = some s) (hq : q s = some g) (hs : s < 8192) (hi : i < (T s).1.length) (hx : (T s).1[i] = (a, b)) (hcol : (T s).2.length = fsum ks s 1) :
    Calls Tryz.prog 33 #[.pointer (some ⟨gw, 0, none⟩), .agg #[.int .i64 a, .int .i64 b]] w fun e w' => ∃ v, e = .returned (.tuple #[.agg #[.int .i64 a, .int .i64 b, v], .int .i64 0]) ∧ (∃ L, w'.ownsRow w.heap.size 32 2 v L.length (pz L) ∧ Pv w.heap.size w' L (partsL ks s 1 (rowOf (T s).2 i))) ∧ Below w.heap.size w w' := by
  obtain ⟨w2, hw2⟩ : ∃ X, X = (w.alloc (.cells #[.int .i64 a, .int .i64 b] 29)).alloc (.cells #[.int .i64 0, .int .i64 0, .slice none 0 0] 87) := ⟨_, rfl⟩
  have B2 : Hid (Below w.heap.size w w2) := hw2 ▸ below_on (below_alloc w _) (below_alloc _ _)
  have hx1 : w2.heap[w.heap.size]? = some (.cells #[.int .i64 a, .int .i64 b] 29 (0, 0)) := by
    rw [hw2]
    exact ((below_alloc _ _).block w.heap.size (by simp)).trans (heap_alloc_new w _)
  have hx2 : w2.heap[w.heap.size + 1]? = some (.cells #[.int .i64 0, .int .i64 0, .slice none 0 0] 87 (0, 0)) := by
    have := heap_alloc_new (w.alloc (.cells #[.int .i64 a, .int .i64 b] 29)) (.cells #[.int .i64 0, .int .i64 0, .slice none 0 0] 87)
    rw [hw2]
    simpa using this
  have J1 := hide (wlives_any (h.later B2.out) a b)
  rw [hl] at J1
  have JP : Hid (∀ W, Below w2.heap.size w2 W → Calls Tryz.prog 78 #[.pointer (some ⟨gw, 0, none⟩), .agg #[.int .i64 a, .int .i64 b]] W fun e w' => ∃ v, e = .returned v ∧ ∃ L, w'.ownsRow W.heap.size 32 2 v L.length (pz L) ∧ Pv W.heap.size w' L (partsL ks s 1 (rowOf (T s).2 i)) ∧ Below W.heap.size W w') := fun W hW => parts_any (h.later (below_on B2.out hW)) a b hib hks s g i hf hq hs hi hx hcol
  generalize partsL ks s 1 (rowOf (T s).2 i) = R at *
  clear h hl hf hq hi hx hcol
  go_enter Tryz.func33, Tryz.ntmps33
  go_wp2_with fail
  rw [← hw2]
  obtain ⟨kx, hkx⟩ : ∃ k, k = w.heap.size := ⟨_, rfl⟩
  obtain ⟨kr, hkr⟩ : ∃ k, k = w.heap.size + 1 := ⟨_, rfl⟩
  have HKR : Hid (w.heap.size ≤ kr) := by unfold Hid; omega
  rw [← hkr] at hx2 ⊢
  rw [← hkx] at hx1 ⊢
  clear hkx hkr hw2
  refine J1.out.mono ?_
  rintro e w3 ⟨rfl, hb3⟩
  have B3 := hide (below_on B2.out hb3)
  obtain ⟨p0, p1⟩ := kx_cells hx1 (below_on hb3 (below_drew w3))
  have J2 := hide (JP.out w3.drew (below_on hb3 (below_drew w3)))
  have X1 := hide hx1
  have X2 := hide hx2
  have HB3 := hide hb3
  clear JP J1 hb3 hx1 hx2
  go_upto_region 3 with fail
  refine wp_region_noPanic ?_
  refine wp_region_late (J := fun i => i != 5) (S := fun W => W.cell? ⟨kx, 0, none⟩ = some (.int .i64 a) ∧ W.cell? ⟨kx, 1, none⟩ = some (.int .i64 b)) (by kernel_rfl) ⟨p0, p1⟩ (fun hHeld => ?_)
  refine' wpAnyJ_take (i := 0) (oi := { dst := some 11, op := Op.load 29 (Operand.tmp 3), type := 29, pos := "world.go:118", after := #[], guard := none }) (v := _) rfl (by kernel_rfl) (by kernel_rfl) (by kernel_rfl) (by kernel_rfl) (fun _ _ _ h => h) (Or.inl ⟨by rfl, ?hyA1⟩) (by assumption) ?reA1
  case hyA1 => (intro W hSw; (try dsimp only at hSw); go_simp; try with_reducible rfl)
  try simp only [Act.put, List.setIfInBounds_toArray, List.set_cons_zero, List.set_cons_succ]
  refine' wpAnyJ_takeW (i := 1) (oi := { dst := some 12, op := Op.move (Operand.tmp 0), type := 37, pos := "world.go:118", after := #[], guard := none }) (v := _) rfl (by kernel_rfl) (by kernel_rfl) (by kernel_rfl) (fun _ _ _ h => h) (Or.inl ⟨by rfl, ?hyA2⟩) ?reA2
  case hyA2 => (intro W hSw; (try dsimp only at hSw); go_simp; try with_reducible rfl)
  try simp only [Act.put, List.setIfInBounds_toArray, List.set_cons_zero, List.set_cons_succ]
  refine' wpAnyJ_take (i := 2) (oi := { dst := some 13, op := Op.load 29 (Operand.tmp 3), type := 29, pos := "world.go:118", after := #[], guard := none }) (v := _) rfl (by kernel_rfl) (by kernel_rfl) (by kernel_rfl) (by kernel_rfl) (fun _ _ _ h => h) (Or.inl ⟨by rfl, ?hyA3⟩) (by assumption) ?reA3
  case hyA3 => (intro W hSw; (try dsimp only at hSw); go_simp; try with_reducible rfl)
  try simp only [Act.put, List.setIfInBounds_toArray, List.set_cons_zero, List.set_cons_succ]
  refine wpAnyJ_ready (rs := [3]) (by kernel_rfl) (by simp) ?_
  refine AllReadyJ.cons (o := { dst := some 14, op := Op.call { callee := Callee.value (Operand.func 78), args := #[Operand.tmp 12, Operand.tmp 13], argTypes := #[37, 29] }, type := 33, pos := "world.go:118", after := #[{ on := 1, ground := Ground.data }, { on := 2, ground := Ground.data }], guard := none }) rfl (fun K hK => ?_) AllReadyJ.nil
  go_simp
  go_at_call 78
  refine J2.out.mono ?_
  rintro e w5 ⟨v5, rfl, L, ho5, hv5, hb5⟩
  have b6 := below_on HB3.out (below_on (below_drew w3) hb5)
  obtain ⟨⟨z0, z1, z2⟩, f0, f1, f2⟩ := row_cells X2.out b6
  obtain ⟨y0, y1⟩ := kx_cells X1.out b6
  obtain ⟨a5, c5, rfl⟩ := own_len ho5
  have HE : Hid (∀ W', w5.grownBy W' (some kr) → (W'.ownsRow w.heap.size 32 2 (.slice a5 L.length c5) L.length (pz L) ∧ Pv w.heap.size W' L R) ∧ Below w.heap.size w W') := fun W' hg => row_end hg ho5 hv5 (below_on B2.out b6) (below_on B2.out HB3.out).size HKR.out (lt_of_block X2.out) HB3.out.size
  clear b6 ho5 hv5 hb5
  go_simp
  refine hK.out _ _ (fun _ _ => ⟨y0, y1⟩) ?_
  clear hK K J2
  try simp only [Act.put, List.setIfInBounds_toArray, List.set_cons_zero, List.set_cons_succ]
  refine' wpAnyJ_takeW (i := 4) (oi := { dst := some 15, op := Op.build 87 #[(0, Operand.tmp 11), (1, Operand.tmp 14)], type := 87, pos := "world.go:118", after := #[{ on := 0, ground := Ground.data }, { on := 3, ground := Ground.data }], guard := none }) (v := _) rfl (by kernel_rfl) (by kernel_rfl) (by kernel_rfl) (fun _ _ _ h => h) (Or.inl ⟨by rfl, ?hyA4⟩) ?reA4
  case hyA4 => (intro W hSw; (try dsimp only at hSw); go_simp; try with_reducible rfl)
  try simp only [Act.put, List.setIfInBounds_toArray, List.set_cons_zero, List.set_cons_succ]
  refine wpAnyJ_ready (rs := [5]) (by kernel_rfl) (by simp) ?_
  refine AllReadyJ.cons (o := { dst := none, op := Op.store 87 (Operand.tmp 4) (Operand.tmp 15), type := 0, pos := "world.go:118", after := #[{ on := 4, ground := Ground.data }, { on := 3, ground := Ground.chain }, { on := 0, ground := Ground.phase }, { on := 1, ground := Ground.phase }, { on := 2, ground := Ground.phase }, { on := 3, ground := Ground.phase }, { on := 4, ground := Ground.phase }], guard := none }) rfl (fun K hK => ?_) AllReadyJ.nil
  go_simp
  refine hK.out _ _ (fun h => absurd h (by decide)) ?_
  clear hK K
  try simp only [Act.put, List.setIfInBounds_toArray, List.set_cons_zero, List.set_cons_succ]
  refine' wpAnyJ_takeW (i := 6) (oi := { dst := some 5, op := Op.assign (Operand.const (Value.int IntKind.i64 0)), type := 61, pos := "world.go:118", after := #[{ on := 5, ground := Ground.chain }, { on := 0, ground := Ground.phase }, { on := 1, ground := Ground.phase }, { on := 2, ground := Ground.phase }, { on := 3, ground := Ground.phase }, { on := 4, ground := Ground.phase }, { on := 5, ground := Ground.phase }], guard := none }) (v := _) rfl (by kernel_rfl) (by kernel_rfl) (by kernel_rfl) (fun _ _ _ h => h) (Or.inl ⟨by rfl, ?hyA5⟩) ?reA5
  case hyA5 => (intro W hSw; (try dsimp only at hSw); go_simp; try with_reducible rfl)
  try simp only [Act.put, List.setIfInBounds_toArray, List.set_cons_zero, List.set_cons_succ]
  refine wpAnyJ_done (by kernel_rfl) ?_ _
  refine NoPanic.normal ?_
  have hg9 : w5.grownBy (((w5.setCell ⟨kr, 0, none⟩ (.int .i64 a)).setCell ⟨kr, 1, none⟩ (.int .i64 b)).setCell ⟨kr, 2, none⟩ (.slice a5 L.length c5)) (some kr) := grown_two (grown_two (grown_set _ _ _ _) (grown_set _ _ _ _)) (grown_set _ _ _ _)
  have HF := hide (HE.out _ hg9)
  clear hg9 HE
  go_wp2_with fail
  (try simp only [Exit.inBlock, Exit.then])
  refine bodyPost_ret (v := .tuple #[.agg #[.int .i64 a, .int .i64 b, .slice a5 L.length c5], .int .i64 0]) ?_ rfl ⟨_, rfl, ⟨L, HF.out.1⟩, HF.out.2⟩
  rw [results_cell_tmp rfl]
  go_simp
end
end Go.Proofs.YtafmiolehlagkaaGreat

/-
  World: rows are put in order by their numbers.
-/
namespace Go.Proofs.YtafmiolehlagkaaGreat
open Go.RowKit Go.Shelf Go.Lib Go.Sort
set_option maxRecDepth 100000
/-- A row's three cells: its entity, where its parts lie. -/
abbrev Rt := Int × Int × Option Addr × Nat × Nat
def encR (p : Rt) : List Value := [.int .i64 p.1, .int .i64 p.2.1, .slice p.2.2.1 p.2.2.2.1 p.2.2.2.2]
def cfR (p r : Rt) : Int := Lib.compareInt p.1 r.1
set_option maxHeartbeats 1000000 in
theorem byIndex_any (p r : Rt) (w : World) : Calls Tryz.prog 83 #[.agg (encR p).toArray, .agg (encR r).toArray] w fun e w' => e = .returned (.int .i64 (cfR p r)) ∧ ∃ q os', w' = grow (w.drewN q) os' := by
  obtain ⟨x, x2, ax, nx, cx⟩ := p
  obtain ⟨y, y2, ay, ny, cy⟩ := r
  unfold encR cfR
  dsimp only
  have J := fun W => cmp_any x y W
  have J := hide J
  generalize Lib.compareInt x y = z at *
  go_enter Tryz.func83, Tryz.ntmps83
  go_wp2_with fail
  refine (J.out _).mono ?_
  rintro e w' ⟨rfl, rfl⟩
  go_wp2_with fail
  go_ret
  exact ⟨rfl, 0, _, by rw [alloc_eq_grow, alloc_eq_grow, grow_grow]; rfl⟩
/-! ### Rows of rows -/
def rz : List Rt → List Value
  | [] => []
  | p :: l => .int .i64 p.1 :: .int .i64 p.2.1 :: .slice p.2.2.1 p.2.2.2.1 p.2.2.2.2 :: rz l
theorem rz_len : ∀ l : List Rt, (rz l).length = l.length * 3
  | [] => rfl
  | p :: t => by simp [rz, rz_len t]; omega
theorem rz_append : ∀ a b : List Rt, rz (a ++ b) = rz a ++ rz b
  | [], _ => rfl
  | h :: t, b => by simp [rz, rz_append t b]
theorem rz_at : ∀ (l : List Rt) (i : Nat) (h : i < l.length), (rz l)[i * 3]? = some (.int .i64 l[i].1) ∧ (rz l)[i * 3 + 1]? = some (.int .i64 l[i].2.1) ∧ (rz l)[i * 3 + 2]? = some (.slice l[i].2.2.1 l[i].2.2.2.1 l[i].2.2.2.2)
  | p :: t, 0, _ => ⟨rfl, rfl, rfl⟩
  | p :: t, i + 1, h => by
    have := rz_at t i (by simpa using h)
    rw [show (i + 1) * 3 = i * 3 + 1 + 1 + 1 by omega]
    simpa [rz] using this
theorem rz_flat (l : List Rt) : (flatK encR 3 l.toArray).toList = rz l := by
  apply List.ext_getElem?
  intro j
  rw [Array.getElem?_toList]
  by_cases hj : j < l.length * 3
  · have h1 : j < (flatK encR 3 l.toArray).size := by simpa using hj
    rw [Array.getElem?_eq_getElem h1, ← getElem!_pos (flatK encR 3 l.toArray) j h1, get_flatK _ _ _ j (by simpa using hj)]
    have hi : j / 3 < l.length := by omega
    have e1 : (l.toArray[j / 3]!) = l[j / 3] := by rw [getElem!_pos _ _ (by simpa using hi)]; simp
    rw [e1]
    obtain ⟨a, b, c⟩ := rz_at l (j / 3) hi
    have hm : j % 3 = 0 ∨ j % 3 = 1 ∨ j % 3 = 2 := by omega
    rcases hm with h | h | h
    · rw [show j / 3 * 3 = j by omega] at a
      rw [h, a]
      rfl
    · rw [show j / 3 * 3 + 1 = j by omega] at b
      rw [h, b]
      rfl
    · rw [show j / 3 * 3 + 2 = j by omega] at c
      rw [h, c]
      rfl
  · rw [Array.getElem?_eq_none (by simpa using hj), List.getElem?_eq_none (by rw [rz_len]; omega)]
theorem row_holds {w : World} {g c : Nat} {l : List Rt} (h : w.ownsRow 0 87 3 (.slice (some ⟨g, 0, none⟩) l.length c) l.length (rz l)) : HoldsK encR 3 w g 0 l.toArray := by
  intro j hj
  have hj2 : j < l.length * 3 := by simpa using hj
  refine ⟨?_, ?_⟩
  · rw [Nat.zero_add, h.cellAt j hj2, ← rz_flat l, Array.getElem?_toList, Array.getElem?_eq_getElem hj, getElem!_pos (flatK encR 3 l.toArray) j hj]
    rfl
  · rw [Nat.zero_add]
    exact h.frozenAt j
theorem row_sorted {w : World} {g c n : Nat} {l l' : List Rt} {os : Array Obj} (h : w.ownsRow 0 87 3 (.slice (some ⟨g, 0, none⟩) l.length c) l.length (rz l)) (hl : l'.length = l.length) :
    (sortWorldK encR 3 w g 0 n l'.toArray os).ownsRow 0 87 3 (.slice (some ⟨g, 0, none⟩) l.length c) l.length (rz l') ∧ w.grownBy (sortWorldK encR 3 w g 0 n l'.toArray os) (some g) := by
  rcases h.2 with ⟨e0, _⟩ | ⟨g', cap', cur, e0, hb, hg, hn, hm, hs, ht⟩
  · cases e0
  · injection e0 with e1 _ e3
    injection e1 with e1
    injection e1 with e1
    subst e1; subst e3
    have hlt : g < w.heap.size := lt_of_block hg
    have hsz : (flatK encR 3 l'.toArray).size = l.length * 3 := by simp [hl]
    refine ⟨⟨by rw [rz_len, hl], .inr ⟨g, c, putCells id 0 (flatK encR 3 l'.toArray) cur, rfl, hb, ?_, hn, hm, by simpa [putCells] using hs, ?_⟩⟩, ⟨rfl, rfl, rfl, ?_, fun k hk hne => ?_⟩⟩
    · unfold sortWorldK
      rw [heap_grow_old _ _ (by simpa [putRowK, putRow, mapBlock, Sort.ahead] using hlt)]
      simp [putRowK, putRow, mapBlock, Sort.ahead, Array.getElem?_modify, hg, onCells]
    · rw [← rz_flat l']
      apply List.ext_getElem?
      intro j
      rw [List.getElem?_take, Array.getElem?_toList, Array.getElem?_toList]
      by_cases hj : j < l.length * 3
      · have hjc : j < cur.size := by rw [hs]; omega
        simp only [if_pos hj, putCells, Array.getElem?_mapIdx, Array.getElem?_eq_getElem hjc, Option.map_some]
        have hF : j < (flatK encR 3 l'.toArray).size := by omega
        rw [if_pos ⟨Nat.zero_le _, by omega⟩, Nat.sub_zero, Array.getElem?_eq_getElem hF, getElem!_pos (flatK encR 3 l'.toArray) j hF]
        rfl
      · rw [if_neg hj, Array.getElem?_eq_none (by omega)]
    · simp [sortWorldK, putRowK, putRow, mapBlock, Sort.ahead]
    · have hne2 : ¬ g = k := fun e => hne (by rw [e])
      unfold sortWorldK
      rw [heap_grow_old _ _ (by simpa [putRowK, putRow, mapBlock, Sort.ahead] using hk)]
      simp [putRowK, putRow, mapBlock, Sort.ahead, Array.getElem?_modify, hne2]
theorem ltR (x y : Rt) : ltOf cfR x y = decide (x.1 < y.1) := by
  unfold ltOf cfR Lib.compareInt
  by_cases h1 : x.1 < y.1
  · simp [h1]
  · by_cases h2 : y.1 < x.1 <;> simp [h1, h2]
theorem swoR : SWO (ltOf cfR) where
  irrefl x := by rw [ltR]; simp
  trans x y z h1 h2 := by rw [ltR] at *; simp at *; omega
  ntrans x y z h1 h2 := by rw [ltR] at *; simp at *; omega
/-! ### Nothing is put in order -/
theorem rins_none (ao : Option Addr) (c : Nat) (fv : Value) (w : World) : Calls Tryz.prog 184 #[.slice ao 0 c, .int .i64 0, .int .i64 0, fv] w fun e w' => e = .returned (.tuple #[]) ∧ w' = w := by
  go_enter Tryz.func184, Tryz.ntmps184
  go_wp2_with fail
  refine wp_loop_rounds 1 ?_
  rw [rounds_succ]
  go_wp2_with fail
  go_end0
  exact ⟨rfl, rfl⟩
set_option maxHeartbeats 2000000 in
theorem rpdq_none (ao : Option Addr) (c : Nat) (fv : Value) (w : World) (lim : Int) : Calls Tryz.prog 153 #[.slice ao 0 c, .int .i64 0, .int .i64 0, .int .i64 lim, fv] w fun e w' => e = .returned (.tuple #[]) ∧ w' = w := by
  have J := hide (rins_none ao c fv w)
  go_enter Tryz.func153, Tryz.ntmps153
  go_wp2_with fail
  refine wp_loop_rounds 1 ?_
  rw [rounds_succ]
  go_wp2_with fail
  refine J.out.mono ?_
  rintro e w' ⟨rfl, rfl⟩
  go_wp2_with fail
  (try simp only [Exit.inBlock, Exit.then]); refine bodyPost_ret (results_none rfl _ _ _) rfl ?_
  exact ⟨rfl, rfl⟩
set_option maxHeartbeats 2000000 in
theorem rsort_none (ao : Option Addr) (c : Nat) (fv : Value) (w : World) : Calls Tryz.prog 82 #[.slice ao 0 c, fv] w fun e w' => e = .returned (.tuple #[]) ∧ w' = w := by
  have JL := hide (len_small 0 w (by omega))
  have JP : Hid (∀ lim : Int, Calls Tryz.prog 153 #[.slice ao 0 c, .int .i64 0, .int .i64 0, .int .i64 lim, fv] w fun e w' => e = .returned (.tuple #[]) ∧ w' = w) := fun lim => rpdq_none ao c fv w lim
  go_enter Tryz.func82, Tryz.ntmps82
  go_wp2_with fail
  refine JL.out.mono ?_
  rintro e w' ⟨⟨l, rfl⟩, rfl⟩
  go_wp2_with fail
  refine (JP.out _).mono ?_
  rintro e w' ⟨rfl, rfl⟩
  go_wp2_with fail
  go_end0
  exact ⟨rfl, rfl⟩
/-- slices.SortFunc of rows, by their numbers. -/
theorem rsort_any {w : World} {v : Value} {l : List Rt} (h : w.ownsRow 0 87 3 v l.length (rz l)) (hn : l.length ≤ 1000000) : Calls Tryz.prog 82 #[v, .func (.func 83) #[] #[]] w fun e w' => e = .returned (.tuple #[]) ∧ ∃ l', l'.Perm l ∧ l'.Pairwise (fun x y => x.1 ≤ y.1) ∧ w'.ownsRow 0 87 3 v l.length (rz l') ∧ w.grownBy w' v.ownBlock := by
  by_cases hv : v = .slice none 0 0
  · subst hv
    have hl : l.length = 0 := by
      rcases h.2 with ⟨_, h0⟩ | ⟨g, c, cur, e, _⟩
      · exact h0
      · cases e
    obtain rfl := List.eq_nil_of_length_eq_zero hl
    refine (rsort_none none 0 _ w).mono ?_
    rintro e w' ⟨rfl, rfl⟩
    exact ⟨rfl, [], List.Perm.refl _, List.Pairwise.nil, h, grown_later (Below.refl _ _)⟩
  · obtain ⟨g, c, rfl⟩ : ∃ g c, v = .slice (some ⟨g, 0, none⟩) l.length c := by
      rcases h.2 with ⟨e, _⟩ | ⟨g, c, cur, e, _⟩
      · exact absurd e hv
      · exact ⟨g, c, e⟩
    have hg := (h.lt g rfl).2
    have eg : ∀ args w, (callFunc 83 args).run Tryz.prog w = .ok (.enter 83 args) w := enters_of Tryz.func83 (by kernel_rfl) rfl
    have hcon := AnyQ.slices_SortFunc laidR 3 (fun w => by kernel_rfl) (fun w => by kernel_rfl) encR (fun _ => rfl) (fun x v hv => by simp [encR] at hv; rcases hv with rfl | rfl | rfl <;> rfl) cfR swoR 83 #[] g 0 c l.toArray w eg (fun _ _ _ _ x y => byIndex_any x y _) (row_holds h) hg (by simp; omega)
    change Calls Tryz.prog 82 _ _ _ at hcon
    simp only [List.size_toArray] at hcon
    refine hcon.mono ?_
    rintro e w' ⟨rfl, d', n, os, ⟨hp1, -, hp3⟩, hs, rfl⟩
    have hsz : d'.toList.length = l.length := by simpa using hp1
    have hperm : d'.toList.Perm l := by
      have e1 : d'.extract 0 l.length = d' := by rw [← hsz]; simp
      rw [e1] at hp3
      simpa using hp3
    obtain ⟨k1, k2⟩ := row_sorted (n := n) (os := os) (l' := d'.toList) h hsz
    refine ⟨rfl, d'.toList, hperm, ?_, k1, k2⟩
    rw [List.pairwise_iff_getElem]
    intro i j hi hj hij
    have := hs i j (Nat.zero_le _) hij (by omega)
    rw [ltR, decide_eq_false_iff_not, getElem!_pos d' i (by simpa using hi), getElem!_pos d' j (by simpa using hj)] at this
    simp only [Array.getElem_toList]
    omega
end Go.Proofs.YtafmiolehlagkaaGreat

/-
  World: Rows.
-/
namespace Go.Proofs.YtafmiolehlagkaaGreat
open Go.RowKit
set_option maxRecDepth 100000
theorem infoR : (Tryz.prog.info? 87).map (fun i => (i.zero, i.size, i.bytes)) = some (some (.agg #[.int .i64 0, .int .i64 0, .slice none 0 0]), 3, 40) := by kernel_rfl
def entR (r : Rt) : Int × Int := (r.1, r.2.1)
def rtV (r : Rt) : Value := .slice r.2.2.1 r.2.2.2.1 r.2.2.2.2
/-- A row of one that lives: its parts, in memory of their own, apart from X. -/
def Rw1 (B : Nat) (W : World) (ks : List Kind) (f : Int × Int → Option Nat) (T : Nat → Ts) (X : Nat → Prop) (r : Rt) : Prop :=
  ∃ s j L, f (entR r) = some s ∧ (∃ hj : j < (T s).1.length, (T s).1[j] = entR r) ∧ W.ownsRow B 32 2 (rtV r) L.length (pz L) ∧ Pv B W L (partsL ks s 1 (rowOf (T s).2 j)) ∧ (∀ k, (rtV r).ownBlock = some k → ¬ X k) ∧ ∀ p ∈ L, ∀ k, (ptV p).ownBlock = some k → ¬ X k
section
variable {B : Nat} {W W' : World} {ks : List Kind} {f : Int × Int → Option Nat} {T : Nat → Ts} {X X' : Nat → Prop} {r : Rt}
theorem Pv.lt {L : List Pt} {R : List (Nat × List Int)} (h : Pv B W L R) {p : Pt} (hp : p ∈ L) {k : Nat} (e : (ptV p).ownBlock = some k) : B ≤ k ∧ k < W.heap.size := by
  obtain ⟨m, hm, rfl⟩ := List.getElem_of_mem hp
  exact (h.2 m hm (by rw [← h.1]; exact hm)).2.lt k e
theorem Rw1.grown {row : Option Nat} (h : Rw1 B W ks f T X r) (hg : W.grownBy W' row) (hr : ∀ k, row = some k → X k) : Rw1 B W' ks f T X r := by
  obtain ⟨s, j, L, h1, h2, h3, h4, h5, h6⟩ := h
  exact ⟨s, j, L, h1, h2, own_kept h3 hg (fun k e e2 => h5 k e (hr k e2)), h4.grown hg (fun p hp k e e2 => h6 p hp k e (hr k e2)), h5, h6⟩
theorem Rw1.off (h : Rw1 B W ks f T X r) (hx : ∀ k, B ≤ k → k < W.heap.size → X' k → X k) : Rw1 B W ks f T X' r := by
  obtain ⟨s, j, L, h1, h2, h3, h4, h5, h6⟩ := h
  exact ⟨s, j, L, h1, h2, h3, h4, fun k e e2 => h5 k e (hx k (h3.lt k e).1 (h3.lt k e).2 e2), fun p hp k e e2 => h6 p hp k e (hx k (h4.lt hp e).1 (h4.lt hp e).2 e2)⟩
theorem Pv.low {B' : Nat} {L : List Pt} {R : List (Nat × List Int)} (h : Pv B W L R) (hB : B' ≤ B) : Pv B' W L R := ⟨h.1, fun i h1 h2 => ⟨(h.2 i h1 h2).1, own_lower (h.2 i h1 h2).2 hB⟩⟩
theorem Rw1.low {B' : Nat} (h : Rw1 B W ks f T X r) (hB : B' ≤ B) : Rw1 B' W ks f T X r := by
  obtain ⟨s, j, L, h1, h2, h3, h4, h5⟩ := h
  exact ⟨s, j, L, h1, h2, own_lower h3 hB, h4.low hB, h5⟩
end
/-- Rows that are being gathered. -/
def Ri (w : World) (gm n : Nat) (ks : List Kind) (f : Int × Int → Option Nat) (T : Nat → Ts) (W : World) (v : Value) (R : List Rt) (cnt : Nat) : Prop :=
  Rg W gm w.heap.size n f (R.map entR) cnt ∧ W.ownsRow (w.heap.size + 1) 87 3 v R.length (rz R) ∧ (∀ r ∈ R, Rw1 (w.heap.size + 1) W ks f T (fun k => v.ownBlock = some k) r) ∧ Below w.heap.size w W
/-- Rows, by their numbers. -/
def Rs (B : Nat) (W : World) (ks : List Kind) (f : Int × Int → Option Nat) (T : Nat → Ts) (v : Value) (R : List Rt) : Prop :=
  W.ownsRow B 87 3 v R.length (rz R) ∧ R.Pairwise (fun x y => x.1 ≤ y.1) ∧ (R.map entR).Nodup ∧ (∀ e, InB e → ((f e).isSome = true ↔ e ∈ R.map entR)) ∧ (∀ r ∈ R, Rw1 B W ks f T (fun k => v.ownBlock = some k) r) ∧ ∀ r ∈ R, InB (entR r)
section
variable {w W w1 w5 w6 w9 : World} {gm n cnt cnt1 : Nat} {ks : List Kind} {f : Int × Int → Option Nat} {T : Nat → Ts} {v : Value} {R : List Rt}
theorem Ri.push (h : Ri w gm n ks f T W v R cnt) (hgm : gm < w.heap.size) {a b : Int} (hr : Rg w1 gm w.heap.size n f (R.map entR ++ [(a, b)]) cnt1) (hg1 : W.grownBy w1 (some w.heap.size)) (hs1 : w1.heap.size = W.heap.size) (hb5 : Below w1.heap.size w1 w5)
    {s j B5 : Nat} {a5 : Option Addr} {n5 c5 : Nat} {L : List Pt} (hf : f (a, b) = some s) (hj : ∃ hj : j < (T s).1.length, (T s).1[j] = (a, b)) (ho : w5.ownsRow B5 32 2 (.slice a5 n5 c5) L.length (pz L)) (hv : Pv B5 w5 L (partsL ks s 1 (rowOf (T s).2 j))) (hB5 : w1.heap.size ≤ B5) (hb6 : Below w5.heap.size w5 w6)
    {g9 c9 : Nat} (ho9 : w9.ownsRow (w.heap.size + 1) 87 3 (.slice (some ⟨g9, 0, none⟩) (R.length + 1) c9) (R.length + 1) (rz R ++ [.int .i64 a, .int .i64 b, .slice a5 n5 c5])) (hg9 : w6.grownBy w9 v.ownBlock) (ha9 : v.ownBlock = some g9 ∨ g9 = w6.heap.size) :
    Ri w gm n ks f T w9 (.slice (some ⟨g9, 0, none⟩) (R.length + 1) c9) (R ++ [(a, b, a5, n5, c5)]) cnt1 := by
  obtain ⟨h1, h2, h3, h4⟩ := h
  have hrl : w.heap.size < W.heap.size := by
    obtain ⟨D, left, a1, -⟩ := h1
    exact a1.lt
  have hvl : ∀ k, v.ownBlock = some k → w.heap.size + 1 ≤ k ∧ k < W.heap.size := fun k e => h2.lt k e
  have hsW := h4.size
  have s5 := hb5.size
  have s6 := hb6.size
  refine ⟨?_, ?_, fun r hr' => ?_, ?_⟩
  · rw [List.map_append]
    exact ((hr.later hb5).later hb6).kept hg9 (fun e => by have := hvl gm e.symm; omega) (fun e => by have := hvl _ e.symm; omega)
  · rw [List.length_append, rz_append]
    exact ho9
  · rcases List.mem_append.1 hr' with hr' | hr'
    · have k1 := (h3 r hr').off (X' := fun k => v.ownBlock = some k ∨ k = w.heap.size) (fun k k1 _ e => e.resolve_right (fun e => by omega))
      have k2 := k1.grown hg1 (fun k e => .inr (Option.some.inj e).symm)
      have k3 := (k2.grown (grown_later hb5) (fun k e => by cases e)).grown (grown_later hb6) (fun k e => by cases e)
      have k4 := k3.off (X' := fun k => v.ownBlock = some k ∨ k = g9) (fun k _ k2 e => by
        rcases e with e | e
        · exact .inl e
        · subst e
          rcases ha9 with e | e
          · exact .inl e
          · omega)
      have k5 := k4.grown hg9 (fun k e => .inl e)
      exact k5.off (fun k _ _ e => .inr (Option.some.inj e).symm)
    · rw [List.mem_singleton.1 hr']
      have hob : ∀ k, (Value.slice a5 n5 c5).ownBlock = some k → B5 ≤ k ∧ k < w5.heap.size := fun k e => ho.lt k e
      have hne : ∀ k, B5 ≤ k → k < w5.heap.size → v.ownBlock ≠ some k := fun k k1 k2 e => by have := hvl k e; omega
      have hn9 : ∀ k, B5 ≤ k → k < w5.heap.size → ¬ (some g9 = some k) := fun k k1 k2 e => by
        have := Option.some.inj e
        subst this
        rcases ha9 with e | e
        · exact hne _ k1 k2 e
        · omega
      refine ⟨s, j, L, hf, hj, own_lower (own_kept (own_later ho hb6) hg9 (fun k e => hne k (hob k e).1 (hob k e).2)) (by omega), ((hv.later hb6).grown hg9 (fun p hp k e => hne k (hv.lt hp e).1 (hv.lt hp e).2)).low (by omega), fun k e => hn9 k (hob k e).1 (hob k e).2, fun p hp k e => hn9 k (hv.lt hp e).1 (hv.lt hp e).2⟩
  · refine ((below_on (h4.grown hg1 hsW (fun k e => by cases e; omega)) (below_on hb5 hb6))).grown hg9 (by omega) (fun k e => by have := hvl k e; omega)
theorem own_raise {B e s n : Nat} {v : Value} {xs : List Value} (h : w.ownsRow 0 e s v n xs) (hB : ∀ k, v.ownBlock = some k → B ≤ k) : w.ownsRow B e s v n xs := by
  obtain ⟨a1, a2⟩ := h
  refine ⟨a1, ?_⟩
  rcases a2 with a2 | ⟨g, c, cur, rfl, b1, b2⟩
  · exact .inl a2
  · exact .inr ⟨g, c, cur, rfl, hB g rfl, b2⟩
theorem Ri.fin (h : Ri w gm n ks f T W v R cnt) (h0 : cnt = 0) {R' : List Rt} (hp : R'.Perm R) (hpw : R'.Pairwise (fun x y => x.1 ≤ y.1)) (ho : w9.ownsRow 0 87 3 v R.length (rz R')) (hg : W.grownBy w9 v.ownBlock) : Rs w.heap.size w9 ks f T v R' ∧ Below w.heap.size w w9 := by
  obtain ⟨h1, h2, h3, h4⟩ := h
  have hd := h1.done h0
  obtain ⟨D, left, -, a2, a3, -⟩ := h1
  have hvl : ∀ k, v.ownBlock = some k → w.heap.size + 1 ≤ k ∧ k < W.heap.size := fun k e => h2.lt k e
  have hpm := hp.map entR
  refine ⟨⟨?_, hpw, hpm.nodup_iff.2 a2, fun e he => ⟨fun hf => hpm.mem_iff.2 (hd e he hf), fun hm => (a3 e (hpm.mem_iff.1 hm)).2⟩, fun r hr => ((h3 r (hp.mem_iff.1 hr)).grown hg (fun k e => e)).low (by omega), fun r hr => (a3 _ (List.mem_map.2 ⟨r, hp.mem_iff.1 hr, rfl⟩)).1⟩, h4.grown hg h4.size (fun k e => by have := hvl k e; omega)⟩
  rw [hp.length_eq]
  exact own_raise ho (fun k e => by have := hvl k e; omega)
end
section
variable {w w' : World} {own : Nat → Nat} {gw gp gm gt M M' : Nat} {vk : Value} {ks : List Kind} {gs fr gs' fr' : List Nat} {f f' : Int × Int → Option Nat} {q q' : Nat → Option Nat} {T T' : Nat → Ts}
set_option maxHeartbeats 8000000 in
theorem rows_any (h : Wx 0 w own gw vk gp gm gt M ks gs fr f q T) (hw : Wi ks f q T) (hks : ks.length ≤ 12) (hcnt : ∀ E : List (Int × Int), E.Nodup → (∀ e ∈ E, (f e).isSome = true) → E.length ≤ 200) :
    Calls Tryz.prog 29 #[.pointer (some ⟨gw, 0, none⟩)] w fun e w' => ∃ v, e = .returned v ∧ (∃ R, Rs w.heap.size w' ks f T v R) ∧ Below w.heap.size w w' := by
  obtain ⟨i0, hi0, hz0, hz1, hz2⟩ := info_parts infoR
  obtain ⟨D, hD, hcl⟩ := h.mp
  have hgm := h.2.1.1
  obtain ⟨-, -, c2, -⟩ := h.cells
  have H := hide h
  have HW := hide hw
  have HCL := hide hcl
  have HN := hide hcnt
  clear h hw hcl hcnt
  go_enter Tryz.func29, Tryz.ntmps29
  go_wp2_with (at_range; refine wpList_range_own _ rfl _ 106 rfl 29 3 keyed32 Tryz.underlying106 _ gm M D rfl hD ?_; intro w0 hrg0 hg0 hs0)
  have H0 : Hid (∃ R cnt, Ri w gm M ks f T w0 (.slice none 0 0) R cnt) := ⟨[], _, Rg.start HCL.out hrg0, World.ownsRow_nil _ _ _ _, fun r hr => (by cases hr), (Below.refl _ w).grown hg0 (Nat.le_refl _) (fun k e => by cases e)⟩
  clear hrg0 hg0 hs0 HCL hD c2
  go_frame
  go_loopw [3] (fun v3 W => Hid (∃ R cnt, Ri w gm M ks f T W v3 R cnt)) (fun _ W => W.rangeLeft gm w.heap.size)
  case atStart => exact H0
  case round =>
    have hrel' := hrel
    obtain ⟨R, cnt, hRi⟩ := hrel'
    have HRi := hide hRi
    obtain ⟨a3, c3, rfl⟩ := own_len hRi.2.1
    have hRl : R.length ≤ 200 := by
      obtain ⟨D', left, -, b2, b3, -⟩ := hRi.1
      have := HN.out _ b2 (fun e he => (b3 e he).2)
      rwa [List.length_map] at this
    rcases hRi.1.next 0 with ⟨n1, n2⟩ | ⟨a, b, c, w1, cnt1, n1, n2, n3, n4, n5, n6, n7, n8, n9⟩
    · have JS := hide (rsort_any (own_lower hRi.2.1 (Nat.zero_le _)) (by omega))
      have HF : Hid (∀ (R' : List Rt) (w9 : World), R'.Perm R → R'.Pairwise (fun x y => x.1 ≤ y.1) → w9.ownsRow 0 87 3 (.slice a3 R.length c3) R.length (rz R') → wr.grownBy w9 (Value.slice a3 R.length c3).ownBlock → Rs w.heap.size w9 ks f T (.slice a3 R.length c3) R' ∧ Below w.heap.size w w9) := fun R' w9 k1 k2 k3 k4 => HRi.out.fin n1 k1 k2 k3 k4
      clear hRi HRi n1 hrel
      go_wp2_with fail
      refine JS.out.mono ?_
      rintro e w9 ⟨rfl, R', k1, k2, k3, k4⟩
      have HE := hide (HF.out R' w9 k1 k2 k3 k4)
      clear k1 k2 k3 k4 JS HF
      go_wp2_with fail
      go_ret
      exact ⟨_, rfl, ⟨R', HE.out.1⟩, HE.out.2⟩
    · obtain ⟨s, hs⟩ := Option.isSome_iff_exists.1 n2
      obtain ⟨m1, ⟨g, m2⟩, m3⟩ := HW.out.1 _ _ hs
      obtain ⟨j, hj, hjx⟩ := List.getElem_of_mem m3
      have hcol := (HW.out.2 s g m2).2.1
      obtain ⟨w2, hw2⟩ : ∃ X, X = w1.alloc (.cells #[.int .i64 a, .int .i64 b] 29) := ⟨_, rfl⟩
      have B1 : Hid (Below w.heap.size w w1) := hRi.2.2.2.grown n7 hRi.2.2.2.size (fun k e => by cases e; omega)
      have B2 : Hid (Below w1.heap.size w1 w2) := hw2 ▸ below_alloc w1 _
      have hx2 : w2.heap[w1.heap.size]? = some (.cells #[.int .i64 a, .int .i64 b] 29 (0, 0)) := by rw [hw2]; exact heap_alloc_new w1 _
      have J2 : Hid (Calls Tryz.prog 78 #[.pointer (some ⟨gw, 0, none⟩), .agg #[.int .i64 a, .int .i64 b]] w2.drew fun e w' => ∃ v, e = .returned v ∧ ∃ L, w'.ownsRow w2.drew.heap.size 32 2 v L.length (pz L) ∧ Pv w2.drew.heap.size w' L (partsL ks s 1 (rowOf (T s).2 j)) ∧ Below w2.drew.heap.size w2.drew w') := parts_any (H.out.later (below_on (below_on B1.out B2.out) (below_drew w2))) a b n1 hks s g j hs m2 m1 hj hjx hcol
      have HP : Hid (∀ (w5 w6 w9 : World) (a5 : Option Addr) (c5 g9 c9 : Nat) (L : List Pt), w5.ownsRow w2.drew.heap.size 32 2 (.slice a5 L.length c5) L.length (pz L) → Pv w2.drew.heap.size w5 L (partsL ks s 1 (rowOf (T s).2 j)) → Below w2.drew.heap.size w2.drew w5 → Below w5.heap.size w5 w6 → w9.ownsRow (w.heap.size + 1) 87 3 (.slice (some ⟨g9, 0, none⟩) (R.length + 1) c9) (R.length + 1) (rz R ++ [.int .i64 a, .int .i64 b, .slice a5 L.length c5]) → w6.grownBy w9 (Value.slice a3 R.length c3).ownBlock → ((Value.slice a3 R.length c3).ownBlock = some g9 ∨ g9 = w6.heap.size) → Hid (∃ R' cnt', Ri w gm M ks f T w9 (.slice (some ⟨g9, 0, none⟩) (R.length + 1) c9) R' cnt') ∧ w9.rangeLeft gm w.heap.size < cnt) := fun w5 w6 w9 a5 c5 g9 c9 L k1 k2 k3 k4 k5 k6 k7 => by
        have := HRi.out.push hgm n5 n7 n8 (below_on (below_on B2.out (below_drew w2)) k3) hs ⟨hj, hjx⟩ k1 k2 (below_on B2.out (below_drew w2)).size k4 k5 k6 k7
        exact ⟨⟨_, _, this⟩, by rw [this.1.left_eq]; exact n6⟩
      have hv3 : Hid (wr.ownsRow (w.heap.size + 1) 87 3 (.slice a3 R.length c3) R.length (rz R)) := hRi.2.1
      have HK : Hid (∀ k, (Value.slice a3 R.length c3).ownBlock = some k → k < wr.heap.size ∧ k ≠ w.heap.size) := fun k e => ⟨(hRi.2.1.lt k e).2, by have := (hRi.2.1.lt k e).1; omega⟩
      have hlc : wr.rangeLeft gm w.heap.size = cnt := hRi.1.left_eq
      have hrl : w.heap.size + 1 ≤ wr.heap.size := by
        obtain ⟨D', left, a1, -⟩ := hRi.1
        exact a1.lt
      obtain ⟨kx, hkx⟩ : ∃ k, k = w1.heap.size := ⟨_, rfl⟩
      have HKX : Hid (wr.heap.size ≤ kx) := by unfold Hid; omega
      have HG7 := hide n7
      rw [← hkx] at hx2
      have X2 := hide hx2
      have HLC := hide hlc
      have HRL := hide hrl
      obtain ⟨p0, p1⟩ := kx_cells hx2 (below_drew w2)
      clear hRi HRi n1 n2 n3 n5 n6 n7 n8 hrel m1 m2 m3 hj hjx hcol hs hx2 hlc hrl
      go_upto_region 5 with fail
      rw [← hw2]
      rw [← hkx]
      clear hw2 hkx n4 n9
      have HS2 : Hid (w.heap.size + 1 ≤ w2.heap.size) := by have := HRL.out; have := HKX.out; have := lt_of_block X2.out; unfold Hid; omega
      have HO5 : Hid (∀ W, Below w2.heap.size w2 W → W.ownsRow (w.heap.size + 1) 87 3 (.slice a3 R.length c3) R.length (rz R)) := fun W hW => own_later (own_later (own_kept hv3.out HG7.out (fun k e e2 => (HK.out k e).2 (Option.some.inj e2).symm)) B2.out) hW
      clear hv3 HG7
      obtain ⟨nR, hnR⟩ : ∃ n, n = R.length := ⟨_, rfl⟩
      rw [← hnR] at HP HK hRl HO5 ⊢
      clear hnR
      refine wp_region_noPanic ?_
      refine wp_region_late (J := fun i => i != 99) (S := fun W => W.cell? ⟨kx, 0, none⟩ = some (.int .i64 a) ∧ W.cell? ⟨kx, 1, none⟩ = some (.int .i64 b)) (by kernel_rfl) ⟨p0, p1⟩ (fun hHeld => ?_)
      refine' wpAnyJ_takeW (i := 0) (oi := { dst := some 14, op := Op.move (Operand.tmp 3), type := 78, pos := "world.go:128", after := #[], guard := none }) (v := _) rfl (by kernel_rfl) (by kernel_rfl) (by kernel_rfl) (fun _ _ _ h => h) (Or.inl ⟨by rfl, ?hyA1⟩) ?reA1
      case hyA1 => (intro W hSw; (try dsimp only at hSw); go_simp; try with_reducible rfl)
      try simp only [Act.put, List.setIfInBounds_toArray, List.set_cons_zero, List.set_cons_succ]
      refine' wpAnyJ_take (i := 1) (oi := { dst := some 15, op := Op.load 29 (Operand.tmp 4), type := 29, pos := "world.go:128", after := #[], guard := none }) (v := _) rfl (by kernel_rfl) (by kernel_rfl) (by kernel_rfl) (by kernel_rfl) (fun _ _ _ h => h) (Or.inl ⟨by rfl, ?hyA2⟩) (by assumption) ?reA2
      case hyA2 => (intro W hSw; (try dsimp only at hSw); go_simp; try with_reducible rfl)
      try simp only [Act.put, List.setIfInBounds_toArray, List.set_cons_zero, List.set_cons_succ]
      refine' wpAnyJ_takeW (i := 2) (oi := { dst := some 16, op := Op.move (Operand.tmp 0), type := 37, pos := "world.go:128", after := #[], guard := none }) (v := _) rfl (by kernel_rfl) (by kernel_rfl) (by kernel_rfl) (fun _ _ _ h => h) (Or.inl ⟨by rfl, ?hyA3⟩) ?reA3
      case hyA3 => (intro W hSw; (try dsimp only at hSw); go_simp; try with_reducible rfl)
      try simp only [Act.put, List.setIfInBounds_toArray, List.set_cons_zero, List.set_cons_succ]
      refine' wpAnyJ_take (i := 3) (oi := { dst := some 17, op := Op.load 29 (Operand.tmp 4), type := 29, pos := "world.go:128", after := #[], guard := none }) (v := _) rfl (by kernel_rfl) (by kernel_rfl) (by kernel_rfl) (by kernel_rfl) (fun _ _ _ h => h) (Or.inl ⟨by rfl, ?hyA4⟩) (by assumption) ?reA4
      case hyA4 => (intro W hSw; (try dsimp only at hSw); go_simp; try with_reducible rfl)
      try simp only [Act.put, List.setIfInBounds_toArray, List.set_cons_zero, List.set_cons_succ]
      refine wpAnyJ_ready (rs := [4]) (by kernel_rfl) (by simp) ?_
      refine AllReadyJ.cons (o := { dst := some 18, op := Op.call { callee := Callee.value (Operand.func 78), args := #[Operand.tmp 16, Operand.tmp 17], argTypes := #[37, 29] }, type := 33, pos := "world.go:128", after := #[{ on := 2, ground := Ground.data }, { on := 3, ground := Ground.data }], guard := none }) rfl (fun K hK => ?_) AllReadyJ.nil
      go_simp
      go_at_call 78
      refine J2.out.mono ?_
      rintro e w5 ⟨v5, rfl, L, ho5, hv5, hb5⟩
      obtain ⟨a5, c5, rfl⟩ := own_len ho5
      have HB5 : Hid (Below w2.heap.size w2 w5) := below_on (below_drew w2) hb5
      obtain ⟨y0, y1⟩ := kx_cells X2.out HB5.out
      have HP5 : Hid (∀ (w6 w9 : World) (g9 c9 : Nat), Below w5.heap.size w5 w6 → w9.ownsRow (w.heap.size + 1) 87 3 (.slice (some ⟨g9, 0, none⟩) (nR + 1) c9) (nR + 1) (rz R ++ [.int .i64 a, .int .i64 b, .slice a5 L.length c5]) → w6.grownBy w9 (Value.slice a3 nR c3).ownBlock → ((Value.slice a3 nR c3).ownBlock = some g9 ∨ g9 = w6.heap.size) → Hid (∃ R' cnt', Ri w gm M ks f T w9 (.slice (some ⟨g9, 0, none⟩) (nR + 1) c9) R' cnt') ∧ w9.rangeLeft gm w.heap.size < cnt) := fun w6 w9 g9 c9 k4 k5 k6 k7 => HP.out w5 w6 w9 a5 c5 g9 c9 L ho5 hv5 hb5 k4 k5 k6 k7
      clear ho5 hv5 hb5 HP
      go_simp
      refine hK.out _ _ (fun _ _ => ⟨y0, y1⟩) ?_
      clear hK K J2
      try simp only [Act.put, List.setIfInBounds_toArray, List.set_cons_zero, List.set_cons_succ]
      refine' wpAnyJ_takeW (i := 5) (oi := { dst := some 19, op := Op.build 87 #[(0, Operand.tmp 15), (1, Operand.tmp 18)], type := 87, pos := "world.go:128", after := #[{ on := 1, ground := Ground.data }, { on := 4, ground := Ground.data }], guard := none }) (v := _) rfl (by kernel_rfl) (by kernel_rfl) (by kernel_rfl) (fun _ _ _ h => h) (Or.inl ⟨by rfl, ?hyA5⟩) ?reA5
      case hyA5 => (intro W hSw; (try dsimp only at hSw); go_simp; try with_reducible rfl)
      try simp only [Act.put, List.setIfInBounds_toArray, List.set_cons_zero, List.set_cons_succ]
      refine wpAnyJ_ready (rs := [6]) (by kernel_rfl) (by simp) ?_
      refine AllReadyJ.cons (o := { dst := some 20, op := Op.buildSlice 78 1 #[(0, Operand.tmp 19)], type := 78, pos := "world.go:128", after := #[{ on := 5, ground := Ground.data }], guard := none }) rfl (fun K hK => ?_) AllReadyJ.nil
      go_simp
      refine hK.out _ _ (fun _ _ => kx_cells X2.out (below_on HB5.out (below_alloc _ _))) ?_
      clear hK K
      try simp only [Act.put, List.setIfInBounds_toArray, List.set_cons_zero, List.set_cons_succ]
      refine wpAnyJ_ready (rs := [7]) (by kernel_rfl) (by simp) ?_
      refine AllReadyJ.cons (o := { dst := some 21, op := Op.call { callee := Callee.builtin Builtin.append, args := #[Operand.tmp 14, Operand.tmp 20], argTypes := #[78, 78] }, type := 78, pos := "world.go:128", after := #[{ on := 0, ground := Ground.data }, { on := 6, ground := Ground.data }, { on := 4, ground := Ground.chain }], guard := none }) rfl (fun K hK => ?_) AllReadyJ.nil
      have HO6 : Hid ((w5.alloc (.cells #[.int .i64 a, .int .i64 b, .slice a5 L.length c5] 87)).ownsRow (w.heap.size + 1) 87 3 (.slice a3 nR c3) nR (rz R)) := HO5.out w5 HB5.out |> fun h => own_later h (below_alloc _ _)
      refine step_append_lies _ rfl (.tmp 14) (.tmp 20) 78 rfl (w.heap.size + 1) 87 i0 (.agg #[.int .i64 0, .int .i64 0, .slice none 0 0]) 3 40 Tryz.underlying78 hi0 hz0 hz1 hz2 rfl (by decide) (.slice a3 nR c3) nR (rz R) (by simp [Act.eval]) HO6.out ⟨w5.heap.size, 0, none⟩ 1 1 [.int .i64 a, .int .i64 b, .slice a5 L.length c5] (by simp [Act.eval]) rfl (by intro j u hj; match j, hj with | 0, hj => simp at hj; subst hj; simp [Addr.add] | 1, hj => simp at hj; subst hj; simp [Addr.add] | 2, hj => simp at hj; subst hj; simp [Addr.add]) (by intro u hu; simp at hu; rcases hu with rfl | rfl | rfl <;> rfl) (by omega) (by unfold maxLen; omega) (by omega) (by have := HB5.out.size; have := HS2.out; simp; omega) _ rfl ?_
      intro g9 c9 w9 ho9 hg9 ha9 _
      obtain ⟨HR9, hlt9⟩ := HP5.out _ w9 g9 c9 (below_alloc _ _) ho9 hg9 ha9
      have hc9 : w9.cell? ⟨kx, 0, none⟩ = some (.int .i64 a) ∧ w9.cell? ⟨kx, 1, none⟩ = some (.int .i64 b) := (fun (z : _ ∧ _) => ⟨hg9.cell z.1 (fun e => by have := (HK.out kx e.symm).1; have := HKX.out; omega), hg9.cell z.2 (fun e => by have := (HK.out kx e.symm).1; have := HKX.out; omega)⟩) (kx_cells X2.out (below_on HB5.out (below_alloc _ (.cells #[.int .i64 a, .int .i64 b, .slice a5 L.length c5] 87))))
      have HLT := hide hlt9
      clear ho9 hg9 ha9 hlt9 HO6
      refine hK.out _ _ (fun _ _ => hc9) ?_
      clear hK K hc9
      try simp only [Act.put, List.setIfInBounds_toArray, List.set_cons_zero, List.set_cons_succ]
      refine' wpAnyJ_takeW (i := 8) (oi := { dst := some 3, op := Op.assign (Operand.tmp 21), type := 78, pos := "world.go:128", after := #[{ on := 7, ground := Ground.data }, { on := 7, ground := Ground.chain }, { on := 0, ground := Ground.phase }, { on := 1, ground := Ground.phase }, { on := 2, ground := Ground.phase }, { on := 3, ground := Ground.phase }, { on := 4, ground := Ground.phase }, { on := 5, ground := Ground.phase }, { on := 6, ground := Ground.phase }, { on := 7, ground := Ground.phase }], guard := none }) (v := _) rfl (by kernel_rfl) (by kernel_rfl) (by kernel_rfl) (fun _ _ _ h => h) (Or.inl ⟨by rfl, ?hyA6⟩) ?reA6
      case hyA6 => (intro W hSw; (try dsimp only at hSw); go_simp; try with_reducible rfl)
      try simp only [Act.put, List.setIfInBounds_toArray, List.set_cons_zero, List.set_cons_succ]
      refine wpAnyJ_done (by kernel_rfl) ?_ _
      refine NoPanic.normal ?_
      go_wp2_with fail
      go_roundw
      case rel => exact HR9
      case measure => rw [HLC.out]; exact HLT.out
end
end Go.Proofs.YtafmiolehlagkaaGreat

/-
  World: Shapes: a map from sets to how many.
-/
namespace Go.Proofs.YtafmiolehlagkaaGreat
open Go.RowKit
set_option maxRecDepth 100000
/-- A range over the map of tables under way: S: which sets came. -/
def Rq (w : World) (gm r n : Nat) (q : Nat → Option Nat) (S : List Nat) (cnt : Nat) : Prop :=
  ∃ (D : DataW Nat) (left : Lit → Bool), w.ranges Tryz.prog 3 ptrElem gm r n D left cnt ∧ S.Nodup ∧ (∀ s ∈ S, s < 9007199254740992 ∧ (q s).isSome = true) ∧ (∀ s : Nat, s < 9007199254740992 → (left (.int .i64 (s : Int)) = true ↔ (q s).isSome = true ∧ s ∉ S)) ∧ (∀ kl, left kl = true → ∃ s : Nat, s < 9007199254740992 ∧ kl = .int .i64 (s : Int)) ∧ ∀ s : Nat, s < 9007199254740992 → ∀ g, q s = some g → D.atKey (.int .i64 (s : Int)) .nil = .held g
section
variable {w w' : World} {gm r n cnt : Nat} {q : Nat → Option Nat} {S : List Nat}
theorem Rq.kept {row : Option Nat} (h : Rq w gm r n q S cnt) (hg : w.grownBy w' row) (h1 : some gm ≠ row) (h2 : some r ≠ row) : Rq w' gm r n q S cnt := by
  obtain ⟨D, left, a1, a2⟩ := h
  exact ⟨D, left, a1.kept hg h1 h2, a2⟩
theorem Rq.left_eq (h : Rq w gm r n q S cnt) : w.rangeLeft gm r = cnt := by
  obtain ⟨D, left, a1, a2⟩ := h
  exact a1.left_eq
theorem Rq.start {D : DataW Nat} (h2 : ∀ s : Nat, s < 9007199254740992 → Maps.has D (.int .i64 (s : Int)) = (q s).isSome ∧ ∀ g, q s = some g → D.atKey (.int .i64 (s : Int)) .nil = .held g) (hz : ∀ kl, Maps.has D kl = true → ∃ s : Nat, s < 9007199254740992 ∧ kl = .int .i64 (s : Int)) (hr : w'.ranges Tryz.prog 3 ptrElem gm r n D (Maps.has D) (Maps.size D)) : Rq w' gm r n q [] (Maps.size D) :=
  ⟨D, _, hr, List.nodup_nil, fun e h => (by cases h), fun s hs => (by rw [(h2 s hs).1]; simp), hz, fun s hs => (h2 s hs).2⟩
theorem Rq.done (h : Rq w gm r n q S cnt) (hl : cnt = 0) : ∀ s, s < 9007199254740992 → (q s).isSome = true → s ∈ S := by
  obtain ⟨D, left, a1, -, -, a4, -⟩ := h
  rcases a1.next keyed3 0 with ⟨_, b2, _⟩ | ⟨key, v, kl, y, w', cnt', _, _, _, _, _, _, c7, _⟩
  · intro s hs hf
    by_cases c : s ∈ S
    · exact c
    · have := (a4 s hs).2 ⟨hf, c⟩
      rw [b2] at this
      cases this
  · omega
/-- The next one: none is left, or one comes. -/
theorem Rq.next (h : Rq w gm r n q S cnt) (ty : TypeId) :
    (cnt = 0 ∧ (Instr.next (.pointer (some ⟨r, 0, none⟩)) false ty).run Tryz.prog w = .ok (.tuple #[.bool false]) w) ∨
    ∃ (s g : Nat) (w' : World) (cnt' : Nat), s < 9007199254740992 ∧ q s = some g ∧ s ∉ S ∧ (Instr.next (.pointer (some ⟨r, 0, none⟩)) false ty).run Tryz.prog w = .ok (.tuple #[.bool true, .int .i64 (s : Int), .pointer (some ⟨g, 0, none⟩)]) w' ∧ Rq w' gm r n q (S ++ [s]) cnt' ∧ cnt' < cnt ∧ w.grownBy w' (some r) ∧ w'.heap.size = w.heap.size ∧ (Instr.entry (.pointer (some ⟨r, 0, none⟩))).run Tryz.prog w' = .ok (.tuple #[.int .i64 (s : Int), .pointer (some ⟨g, 0, none⟩)]) w' := by
  obtain ⟨D, left, a1, a2, a3, a4, a5, a6⟩ := h
  rcases a1.next keyed3 ty with ⟨b1, b2, b3⟩ | ⟨key, v, kl, y, w', cnt', c1, c2, c3, c4, c5, c6, c7, c8, c9, c10⟩
  · exact .inl ⟨b1, b3⟩
  · obtain ⟨x, rfl, rfl, -⟩ := Maps.keyOf_int_inv Tryz.underlying3 c1
    obtain ⟨s, hs, e⟩ := a5 _ c2
    simp only [Lit.int.injEq, true_and] at e
    subst e
    have h1 := (a4 s hs).1 c2
    obtain ⟨g, hg⟩ := Option.isSome_iff_exists.1 h1.1
    have hy := c4 .nil
    rw [a6 s hs g hg] at hy
    obtain ⟨y1, y2⟩ := y
    dsimp only at hy
    subst hy
    obtain rfl := ptrElem_inv c3
    refine .inr ⟨s, g, w', cnt', hs, hg, h1.2, c5, ⟨D, _, c6, ?_, fun e he => ?_, fun e he => ?_, fun kx hkx => ?_, a6⟩, c7, c8, c9, c10⟩
    · rw [List.nodup_append]
      refine ⟨a2, by simp, fun x hx y hy e => ?_⟩
      simp only [List.mem_singleton] at hy
      subst e
      exact h1.2 (hy ▸ hx)
    · rcases List.mem_append.1 he with he | he
      · exact a3 e he
      · rw [List.mem_singleton.1 he]
        exact ⟨hs, h1.1⟩
    · have hk : ((Lit.int .i64 (e : Int)).sameKey (.int .i64 (s : Int)) = true) ↔ e = s := by
        rw [WideAt.sameKey_iff (keyed3.key c1)]
        simp only [Lit.int.injEq, true_and]
        omega
      have h4 := a4 e he
      simp only [Bool.and_eq_true, Bool.not_eq_true', List.mem_append, List.mem_singleton, not_or]
      rw [← Bool.not_eq_true, hk, h4]
      exact ⟨fun h => ⟨h.1.1, h.1.2, h.2⟩, fun h => ⟨⟨h.1, h.2.1⟩, h.2.2⟩⟩
    · simp only [Bool.and_eq_true] at hkx
      exact a5 kx hkx.1
end
/-! ### A map from numbers to numbers -/
def Mi (w : World) (gm n : Nat) (q : Nat → Option Nat) : Prop :=
  ∃ D : DataW Unit, w.ownsMap Tryz.prog 3 (plainElem Tryz.prog 3) gm n D ∧ (∀ s : Nat, s < 9007199254740992 → Maps.has D (.int .i64 (s : Int)) = (q s).isSome ∧ ∀ i, q s = some i → D.atKey (.int .i64 (s : Int)) (.lit (.int .i64 0)) = .lit (.int .i64 (i : Int))) ∧ ∀ kl, Maps.has D kl = true → ∃ s : Nat, s < 9007199254740992 ∧ kl = .int .i64 (s : Int)
section
variable {w w' : World} {gm n : Nat} {q : Nat → Option Nat}
theorem Mi.made (w : World) : Mi (w.alloc (.map #[] 0)) w.heap.size 0 (fun _ => none) :=
  ⟨.map [], World.ownsMap_made w _ _ _, fun _ _ => ⟨rfl, fun _ h => by cases h⟩, fun kl h => by
    have e : Maps.has (H := Unit) (.map []) kl = false := rfl
    rw [e] at h
    cases h⟩
theorem Mi.same (h : Mi w gm n q) (hs : w'.heap[gm]? = w.heap[gm]?) : Mi w' gm n q := by
  obtain ⟨D, ⟨es, ck, h1, h2⟩, h3⟩ := h
  exact ⟨D, ⟨es, ck, hs.trans h1, h2⟩, h3⟩
theorem Mi.kept {row : Option Nat} (h : Mi w gm n q) (hg : w.grownBy w' row) (h1 : row ≠ some gm) : Mi w' gm n q := by
  have hl : gm < w.heap.size := by
    obtain ⟨D, h1, -⟩ := h
    exact h1.lt
  exact h.same (((Mv.refl w (fun k => row = some k)).grown hg (fun k _ e => e)).2.2.2.2 gm hl h1)
theorem Mi.lt (h : Mi w gm n q) : gm < w.heap.size := by
  obtain ⟨D, h1, -⟩ := h
  exact h1.lt
theorem Mi.store (h : Mi w gm n q) (s i : Nat) (hs : s < 9007199254740992) (hi : i ≤ 1000000) (hn : n ≤ 1000000) : ∃ w', (Instr.mapUpdate 80 (.map (some gm)) (.int .i64 (s : Int)) (.int .i64 (i : Int))).run Tryz.prog w = .ok () w' ∧ Mi w' gm (n + 1) (fun x => if x = s then some i else q x) ∧ w.mapTurned w' gm := by
  obtain ⟨D, h1, h2, hz⟩ := h
  have hw : (Lit.int .i64 (i : Int)).wf = true := by simp [Lit.wf, IntKind.min, IntKind.max, IntKind.signed, IntKind.bits]; omega
  obtain ⟨w', hr, h3, h4⟩ := h1.store keyed3 Tryz.underlying80 (by unfold maxLen; omega) (key3 s hs) (plainElem_int Tryz.underlying3 hw)
  refine ⟨w', hr, ⟨_, h3, fun x hx => ?_, fun kl hkl => ?_⟩, h4⟩
  rotate_left
  · by_cases c : kl = .int .i64 (s : Int)
    · exact ⟨s, hs, c⟩
    · rw [Maps.has_put_other c] at hkl
      exact hz kl hkl
  by_cases ex : x = s
  · subst ex
    refine ⟨by rw [Maps.has_put_same h1.isMap (keyed3.key (key3 x hs))]; simp, fun j hj => ?_⟩
    rw [Maps.atKey_put_same h1.isMap (keyed3.key (key3 x hs))]
    simp only [if_true, Option.some.injEq] at hj
    rw [hj]
  · have hne : (Lit.int .i64 (x : Int)) ≠ .int .i64 (s : Int) := fun e' => by
      simp only [Lit.int.injEq, true_and] at e'
      omega
    rw [Maps.has_put_other hne, Maps.atKey_put_other hne]
    simp only [if_neg ex]
    exact h2 x hx
end
/-! ### Shapes -/
def Sh (w : World) (gt M : Nat) (q : Nat → Option Nat) (T : Nat → Ts) (W : World) (S : List Nat) (cnt : Nat) : Prop :=
  Rq W gt (w.heap.size + 1) M q S cnt ∧ Mi W w.heap.size S.length (fun s => if s ∈ S then some (T s).1.length else none) ∧ Below w.heap.size w W
section
variable {w w' : World} {own : Nat → Nat} {gw gp gm gt M M' : Nat} {vk : Value} {ks : List Kind} {gs fr gs' fr' : List Nat} {f f' : Int × Int → Option Nat} {q q' : Nat → Option Nat} {T T' : Nat → Ts} {S : List Nat} {cnt : Nat} {W : World}
theorem Sh.short (h : Sh w gt M q T W S cnt) (hw : Wi ks f q T) : S.length ≤ 8192 := by
  obtain ⟨⟨D, left, -, a2, a3, -⟩, -⟩ := h
  refine nodup_len 8192 S a2 (fun s hs => ?_)
  obtain ⟨g, hg⟩ := Option.isSome_iff_exists.1 (a3 s hs).2
  exact (hw.2 s g hg).1.1
theorem Sh.fin (h : Sh w gt M q T W S 0) (hw : Wi ks f q T) : (∃ n, n ≤ 8192 ∧ Mi W w.heap.size n (fun s => (q s).map fun _ => (T s).1.length)) ∧ Below w.heap.size w W := by
  have hl := h.short hw
  obtain ⟨h1, h2, h3⟩ := h
  refine ⟨⟨_, hl, ?_⟩, h3⟩
  have e : (fun s => if s ∈ S then some (T s).1.length else none) = (fun s => (q s).map fun _ => (T s).1.length) := by
    funext s
    cases hq : q s with
    | none =>
      have : s ∉ S := fun hs => by
        obtain ⟨D, left, -, -, a3, -⟩ := h1
        have := (a3 s hs).2
        rw [hq] at this
        cases this
      rw [if_neg this]
      rfl
    | some g =>
      have := (hw.2 s g hq).1.1
      rw [if_pos (h1.done rfl s (by omega) (by rw [hq]; rfl))]
      rfl
  rw [← e]
  exact h2
set_option maxHeartbeats 4000000 in
theorem shapes_any (h : Wx 0 w own gw vk gp gm gt M ks gs fr f q T) (hw : Wi ks f q T) : Calls Tryz.prog 30 #[.pointer (some ⟨gw, 0, none⟩)] w fun e w' => e = .returned (.map (some w.heap.size)) ∧ (∃ n, n ≤ 8192 ∧ Mi w' w.heap.size n (fun s => (q s).map fun _ => (T s).1.length)) ∧ Below w.heap.size w w' := by
  have hgt := h.2.1.2
  have h1 := h.later (below_alloc w (.map #[] 0))
  obtain ⟨D, hD, hcl, hkl⟩ := h1.mq
  obtain ⟨-, -, -, c3⟩ := h1.cells
  have M0 := hide (Mi.made w)
  have H := hide h
  have HW := hide hw
  have HCL := hide hcl
  have HKL := hide hkl
  clear h hw hcl hkl h1
  have hmm := @run_makeMap Tryz.prog
  go_enter Tryz.func30, Tryz.ntmps30
  go_wp2_with (at_range; refine wpList_range_own _ rfl _ 107 rfl 3 133 keyed3 Tryz.underlying107 _ gt M D rfl hD ?_; intro w0 hrg0 hg0 hs0)
  have hs1 : (w.alloc (.map #[] 0)).heap.size = w.heap.size + 1 := by simp
  have HM0 : Hid (Mi w0 w.heap.size 0 (fun _ => none)) := M0.out.kept hg0 (by simp)
  have H0 : Hid (∃ S cnt, Sh w gt M q T w0 S cnt) := ⟨[], _, Rq.start HCL.out HKL.out (hs1 ▸ hrg0), by simpa using HM0.out, (below_alloc w _).grown hg0 (by rw [hs1]; omega) (fun k e => by cases e)⟩
  clear hrg0 hg0 HCL HKL hD c3 M0 HM0
  go_frame
  rw [hs1]
  clear hs1 hs0
  go_loopw [4] (fun _ W => Hid (∃ S cnt, Sh w gt M q T W S cnt)) (fun _ W => W.rangeLeft gt (w.heap.size + 1))
  case atStart => exact H0
  case round =>
    have hrel' := hrel
    obtain ⟨S, cnt, hS⟩ := hrel'
    have hle := hS.short HW.out
    have HS := hide hS
    rcases hS.1.next 0 with ⟨n1, n2⟩ | ⟨s, g, w1, cnt1, n1, n2, n3, n4, n5, n6, n7, n8, n9⟩
    · subst n1
      have HF := hide (hS.fin HW.out)
      clear hS HS hrel
      go_wp2_with fail
      go_ret
      exact ⟨rfl, HF.out⟩
    · have B1 : Hid (Below w.heap.size w w1) := hS.2.2.grown n7 hS.2.2.size (fun k e => by cases e; omega)
      obtain ⟨m, -, htb⟩ := (H.out.later B1.out).tb n2
      have hlen : (T s).1.length ≤ 200 := by
        obtain ⟨lab, vr, gm', vc, cs, f', -, -, -, -, -, hl, -⟩ := htb
        exact hl
      have JL := hide (len_any htb)
      obtain ⟨w9, hr9, hm9, ht9⟩ := (hS.2.1.kept n7 (by simp)).store s (T s).1.length n1 (by omega) (by omega)
      have HR9 : Hid (∃ S cnt, Sh w gt M q T w9 S cnt) := by
        refine ⟨S ++ [s], cnt1, n5.kept ht9.grown (by simp; omega) (by simp), ?_, B1.out.grown ht9.grown B1.out.size (fun k e => by cases e; omega)⟩
        rw [List.length_append]
        have e : (fun x => if x = s then some (T s).1.length else if x ∈ S then some (T x).1.length else none) = (fun x => if x ∈ S ++ [s] then some (T x).1.length else none) := by
          funext x
          by_cases c : x = s
          · subst c
            simp
          · simp [c]
        rw [← e]
        exact hm9
      have HLT : Hid (w9.rangeLeft gt (w.heap.size + 1) < wr.rangeLeft gt (w.heap.size + 1)) := by
        have := (n5.kept ht9.grown (by simp; omega) (by simp)).left_eq
        rw [this, hS.1.left_eq]
        exact n6
      clear hS HS hrel hlen hm9 ht9 n2 n3 n5 n6 n7 n8 htb B1
      go_wp2_with fail
      refine JL.out.mono ?_
      rintro e w5 ⟨rfl, rfl⟩
      go_wp2_with fail
      go_roundw
      case rel => exact HR9
      case measure => exact HLT.out
end
end Go.Proofs.YtafmiolehlagkaaGreat
