import Derived.Test.YtafmiolehlagkaaGreatOd06
import Derived.Maps.RangeWalk
import Derived.Shelf.SlSortCmp.WholeK
import Derived.Test.YtafmiolehlagkaaGreatProg
import Derived.WalkKit
import Derived.WalkSpells
import Derived.WalkLawsBesides
import Derived.Below
import Derived.RowKit
import Derived.Lib.VarintMem
import Derived.Laws.CopyOwn
import Derived.Shelf.Strconv.Itoa0
import Derived.Lib.Zigzag
import Derived.Lib.AppendStr
/-
  World: ranging over the map of sets.
-/
namespace Go.Proofs.YtafmiolehlagkaaGreat
open Go.RowKit
set_option maxRecDepth 100000
theorem wf_in {x : Int} (h : (Lit.int .i64 x).wf = true) : -9223372036854775808 ≤ x ∧ x ≤ 9223372036854775807 := by
  simp [Lit.wf, IntKind.min, IntKind.max, IntKind.signed, IntKind.bits] at h
  exact h
theorem key_inv {v : Value} {kl : Lit} (h : keyOf Tryz.prog 29 v = some kl) : ∃ e : Int × Int, v = evz e ∧ InB e := by
  have hk : Tryz.prog.keyType 29 = true := by kernel_rfl
  have hc : Tryz.prog.cellsOf 29 = 2 := by kernel_rfl
  have hc3 : Tryz.prog.cellsOf 3 = 1 := by kernel_rfl
  obtain ⟨d, hd⟩ : ∃ d, Tryz.prog.types.size + 1 = d + 2 := ⟨275, by kernel_rfl⟩
  unfold keyOf at h
  rw [Tryz.underlying29] at h
  simp only [hk, Bool.true_and] at h
  split at h
  · rename_i hf
    rw [Option.map_eq_some_iff] at h
    obtain ⟨ls, hl, -⟩ := h
    rw [hd] at hl
    have hv : ∃ x y, v = .agg #[x, y] := by
      unfold Value.formed at hf
      rw [Tryz.underlying29] at hf
      split at hf
      · rename_i cs
        simp only [hc, beq_iff_eq] at hf
        obtain ⟨l⟩ := cs
        match l, hf with
        | [x, y], _ => exact ⟨x, y, rfl⟩
      · cases hf
      · cases hf
    obtain ⟨x, y, rfl⟩ := hv
    have key : ∀ (z : Value) (l : List Lit), Tryz.prog.keyLits (d + 1) 3 [z] = some l → ∃ a, z = .int .i64 a ∧ (Lit.int .i64 a).wf = true := by
      intro z l hz
      cases z <;> simp [Program.keyLits, Tryz.underlying3] at hz
      rename_i q n
      obtain ⟨⟨rfl, h2⟩, -⟩ := hz
      exact ⟨n, rfl, h2⟩
    unfold Program.keyLits at hl
    rw [Tryz.underlying29] at hl
    generalize hG : Tryz.prog.keyLits (d + 1) = G at *
    simp [Value.cells, hc, hc3, List.mapM_cons] at hl
    cases hx : G 3 [x] with
    | none => rw [hx] at hl; simp at hl
    | some lx =>
      cases hy : G 3 [y] with
      | none => rw [hx, hy] at hl; simp at hl
      | some ly =>
        obtain ⟨a, rfl, ha⟩ := key x lx hx
        obtain ⟨b, rfl, hb⟩ := key y ly hy
        exact ⟨(a, b), rfl, wf_in ha, wf_in hb⟩
  · cases h
/-- A range over a map of entities under way: E: who came. -/
def Rg (w : World) (gm r n : Nat) (f : Int × Int → Option Nat) (E : List (Int × Int)) (cnt : Nat) : Prop :=
  ∃ (D : DataW Unit) (left : Lit → Bool), w.ranges Tryz.prog 29 (plainElem Tryz.prog 3) gm r n D left cnt ∧ E.Nodup ∧ (∀ e ∈ E, InB e ∧ (f e).isSome = true) ∧ ∀ e, InB e → ∀ kl, keyOf Tryz.prog 29 (evz e) = some kl → (left kl = true ↔ (f e).isSome = true ∧ e ∉ E)
section
variable {w w' : World} {gm r n cnt : Nat} {f : Int × Int → Option Nat} {E : List (Int × Int)}
theorem Rg.kept {row : Option Nat} (h : Rg w gm r n f E cnt) (hg : w.grownBy w' row) (h1 : some gm ≠ row) (h2 : some r ≠ row) : Rg w' gm r n f E cnt := by
  obtain ⟨D, left, a1, a2⟩ := h
  exact ⟨D, left, a1.kept hg h1 h2, a2⟩
theorem Rg.later (h : Rg w gm r n f E cnt) (hb : Below w.heap.size w w') : Rg w' gm r n f E cnt := h.kept (grown_later hb) (by simp) (by simp)
theorem Rg.left_eq (h : Rg w gm r n f E cnt) : w.rangeLeft gm r = cnt := by
  obtain ⟨D, left, a1, a2⟩ := h
  exact a1.left_eq
theorem Rg.start {D : DataW Unit} (h2 : ∀ e, InB e → ∀ kl, keyOf Tryz.prog 29 (evz e) = some kl → Maps.has D kl = (f e).isSome ∧ ∀ i, f e = some i → D.atKey kl (.lit (.int .i64 0)) = .lit (.int .i64 (i : Int))) (hr : w'.ranges Tryz.prog 29 (plainElem Tryz.prog 3) gm r n D (Maps.has D) (Maps.size D)) : Rg w' gm r n f [] (Maps.size D) :=
  ⟨D, _, hr, List.nodup_nil, fun e h => (by cases h), fun e he kl hk => (by rw [(h2 e he kl hk).1]; simp)⟩
theorem Rg.done (h : Rg w gm r n f E cnt) (hl : cnt = 0) : ∀ e, InB e → (f e).isSome = true → e ∈ E := by
  obtain ⟨D, left, a1, -, -, a4⟩ := h
  rcases a1.next keyed32 0 with ⟨_, b2, _⟩ | ⟨key, v, kl, y, w', cnt', _, _, _, _, _, _, c7, _⟩
  · intro e he hf
    obtain ⟨kl, hkl⟩ := key_of e he
    by_cases c : e ∈ E
    · exact c
    · have := (a4 e he kl hkl).2 ⟨hf, c⟩
      rw [b2 kl] at this
      cases this
  · omega
/-- The next one: nobody is left, or one comes. -/
theorem Rg.next (h : Rg w gm r n f E cnt) (ty : TypeId) :
    (cnt = 0 ∧ (Instr.next (.pointer (some ⟨r, 0, none⟩)) false ty).run Tryz.prog w = .ok (.tuple #[.bool false]) w) ∨
    ∃ (a b c : Int) (w' : World) (cnt' : Nat), InB (a, b) ∧ (f (a, b)).isSome = true ∧ (a, b) ∉ E ∧ (Instr.next (.pointer (some ⟨r, 0, none⟩)) false ty).run Tryz.prog w = .ok (.tuple #[.bool true, .agg #[.int .i64 a, .int .i64 b], .int .i64 c]) w' ∧ Rg w' gm r n f (E ++ [(a, b)]) cnt' ∧ cnt' < cnt ∧ w.grownBy w' (some r) ∧ w'.heap.size = w.heap.size ∧ (Instr.entry (.pointer (some ⟨r, 0, none⟩))).run Tryz.prog w' = .ok (.tuple #[.agg #[.int .i64 a, .int .i64 b], .int .i64 c]) w' := by
  obtain ⟨D, left, a1, a2, a3, a4⟩ := h
  rcases a1.next keyed32 ty with ⟨b1, b2, b3⟩ | ⟨key, v, kl, y, w', cnt', c1, c2, c3, c4, c5, c6, c7, c8, c9, c10⟩
  · exact .inl ⟨b1, b3⟩
  · obtain ⟨⟨a, b⟩, rfl, hin⟩ := key_inv c1
    obtain ⟨c, rfl, -⟩ := plainElem_int_inv Tryz.underlying3 c3
    have h1 := (a4 _ hin kl c1).1 c2
    refine .inr ⟨a, b, c, w', cnt', hin, h1.1, h1.2, c5, ⟨D, _, c6, ?_, fun e he => ?_, fun e he kx hkx => ?_⟩, c7, c8, c9, c10⟩
    · rw [List.nodup_append]
      refine ⟨a2, by simp, fun x hx y hy e => ?_⟩
      simp only [List.mem_singleton] at hy
      subst e
      exact h1.2 (hy ▸ hx)
    · rcases List.mem_append.1 he with he | he
      · exact a3 e he
      · rw [List.mem_singleton.1 he]
        exact ⟨hin, h1.1⟩
    · have hk : (kx.sameKey kl = true) ↔ e = (a, b) := by
        rw [WideAt.sameKey_iff (keyed32.key c1)]
        constructor
        · intro e'
          subst e'
          exact evz_inj (keyed32.inj hkx c1)
        · intro e'
          subst e'
          rw [hkx] at c1
          exact Option.some.inj c1
      have h4 := a4 e he kx hkx
      simp only [Bool.and_eq_true, Bool.not_eq_true', List.mem_append, List.mem_singleton, not_or]
      rw [← Bool.not_eq_true, hk, h4]
      exact ⟨fun h => ⟨h.1.1, h.1.2, h.2⟩, fun h => ⟨⟨h.1, h.2.1⟩, h.2.2⟩⟩
end
end Go.Proofs.YtafmiolehlagkaaGreat

/-
  World: Row.
-/
namespace Go.Proofs.YtafmiolehlagkaaGreat
open Go.RowKit
set_option maxRecDepth 100000
section
variable {w w' : World} {own : Nat → Nat} {gw gp gm gt M M' : Nat} {vk : Value} {ks : List Kind} {gs fr gs' fr' : List Nat} {f f' : Int × Int → Option Nat} {q q' : Nat → Option Nat} {T T' : Nat → Ts}
theorem row_cells {w W : World} {kr : Nat} (h : w.heap[kr]? = some (.cells #[.int .i64 0, .int .i64 0, .slice none 0 0] 87 (0, 0))) (hb : Below w.heap.size w W) : (W.cell? ⟨kr, 0, none⟩ = some (.int .i64 0) ∧ W.cell? ⟨kr, 1, none⟩ = some (.int .i64 0) ∧ W.cell? ⟨kr, 2, none⟩ = some (.slice none 0 0)) ∧ W.frozen? ⟨kr, 0, none⟩ = false ∧ W.frozen? ⟨kr, 1, none⟩ = false ∧ W.frozen? ⟨kr, 2, none⟩ = false := by
  have hx := (hb.block kr (lt_of_block h)).trans h
  refine ⟨⟨?_, ?_, ?_⟩, frozen_of_row W kr 0 _ 87 hx, frozen_of_row W kr 1 _ 87 hx, frozen_of_row W kr 2 _ 87 hx⟩ <;> rw [cell_of_row W kr _ _ 87 (0, 0) hx] <;> rfl
set_option maxHeartbeats 4000000 in
theorem row_stale (h : Wx 0 w own gw vk gp gm gt M ks gs fr f q T) (a b : Int) (hl : livesOf gs fr a b = false) : Calls Tryz.prog 33 #[.pointer (some ⟨gw, 0, none⟩), .agg #[.int .i64 a, .int .i64 b]] w fun e w' => e = .returned (.tuple #[.agg #[.int .i64 0, .int .i64 0, .slice none 0 0], .int .i64 41]) ∧ Below w.heap.size w w' := by
  obtain ⟨w2, hw2⟩ : ∃ X, X = (w.alloc (.cells #[.int .i64 a, .int .i64 b] 29)).alloc (.cells #[.int .i64 0, .int .i64 0, .slice none 0 0] 87) := ⟨_, rfl⟩
  have B2 : Hid (Below w.heap.size w w2) := hw2 ▸ below_on (below_alloc w _) (below_alloc _ _)
  have hx1 : w2.heap[w.heap.size]? = some (.cells #[.int .i64 a, .int .i64 b] 29 (0, 0)) := by
    rw [hw2]
    exact ((below_alloc _ _).block w.heap.size (by simp)).trans (heap_alloc_new w _)
  have hx2 : w2.heap[w.heap.size + 1]? = some (.cells #[.int .i64 0, .int .i64 0, .slice none 0 0] 87 (0, 0)) := by
    have := heap_alloc_new (w.alloc (.cells #[.int .i64 a, .int .i64 b] 29)) (.cells #[.int .i64 0, .int .i64 0, .slice none 0 0] 87)
    rw [hw2]
    simpa using this
  have J1 := hide (wlives_any (h.later B2.out) a b)
  rw [hl] at J1
  clear h hl
  go_enter Tryz.func33, Tryz.ntmps33
  go_wp2_with fail
  rw [← hw2]
  obtain ⟨kx, hkx⟩ : ∃ k, k = w.heap.size := ⟨_, rfl⟩
  obtain ⟨kr, hkr⟩ : ∃ k, k = w.heap.size + 1 := ⟨_, rfl⟩
  have HKR : Hid (w.heap.size ≤ kr) := by unfold Hid; omega
  rw [← hkr] at hx2 ⊢
  rw [← hkx] at hx1 ⊢
  clear hkx hkr hw2
  refine J1.out.mono ?_
  rintro e w3 ⟨rfl, hb3⟩
  have B3 := hide (below_on B2.out hb3)
  obtain ⟨⟨z0, z1, z2⟩, f0, f1, f2⟩ := row_cells hx2 hb3
  have HB7 : Hid (Below w.heap.size w (((w3.setCell ⟨kr, 0, none⟩ (.int .i64 0)).setCell ⟨kr, 1, none⟩ (.int .i64 0)).setCell ⟨kr, 2, none⟩ (.slice none 0 0))) := below_set (below_set (below_set B3.out HKR.out) HKR.out) HKR.out
  clear hb3 hx1 hx2 J1
  go_wp2_with fail
  (try simp only [Exit.inBlock, Exit.then])
  refine bodyPost_ret (v := .tuple #[.agg #[.int .i64 0, .int .i64 0, .slice none 0 0], .int .i64 41]) ?_ rfl ⟨rfl, HB7.out⟩
  rw [results_cell_tmp rfl]
  go_simp
theorem row_end {w w5 W' : World} {B kr n c : Nat} {a5 : Option Addr} {L : List Pt} {R : List (Nat × List Int)} (hg : w5.grownBy W' (some kr)) (ho : w5.ownsRow B 32 2 (.slice a5 L.length c) L.length (pz L)) (hv : Pv B w5 L R) (hb : Below w.heap.size w w5) (hB : w.heap.size ≤ B) (hk : w.heap.size ≤ kr) (hkn : kr < n) (hn : n ≤ B) : (W'.ownsRow w.heap.size 32 2 (.slice a5 L.length c) L.length (pz L) ∧ Pv w.heap.size W' L R) ∧ Below w.heap.size w W' := by
  refine ⟨⟨own_lower (own_kept ho hg (fun j e e2 => by have := (ho.lt j e).1; have := Option.some.inj e2; omega)) hB, ?_⟩, hb.grown hg hb.size (fun j e => by have := Option.some.inj e; omega)⟩
  have h2 := hv.grown hg (fun p hp j e e2 => by
    obtain ⟨m, hm, rfl⟩ := List.getElem_of_mem hp
    have := ((hv.2 m hm (by rw [← hv.1]; exact hm)).2.lt j e).1
    have := Option.some.inj e2
    omega)
  exact ⟨h2.1, fun i h1 h3 => ⟨(h2.2 i h1 h3).1, own_lower (h2.2 i h1 h3).2 hB⟩⟩
set_option maxHeartbeats 8000000 in
theorem row_live (h : Wx 0 w own gw vk gp gm gt M ks gs fr f q T) (a b : Int) (hl : livesOf gs fr a b = true) (hib : InB (a, b)) (hks : ks.length ≤ 12) (s g i : Nat) (hf : f (a, b) = some s) (hq : q s = some g) (hs : s < 8192) (hi : i < (T s).1.length) (hx : (T s).1[i] = (a, b)) (hcol : (T s).2.length = fsum ks s 1) :
    Calls Tryz.prog 33 #[.pointer (some ⟨gw, 0, none⟩), .agg #[.int .i64 a, .int .i64 b]] w fun e w' => ∃ v, e = .returned (.tuple #[.agg #[.int .i64 a, .int .i64 b, v], .int .i64 0]) ∧ (∃ L, w'.ownsRow w.heap.size 32 2 v L.length (pz L) ∧ Pv w.heap.size w' L (partsL ks s 1 (rowOf (T s).2 i))) ∧ Below w.heap.size w w' := by
  obtain ⟨w2, hw2⟩ : ∃ X, X = (w.alloc (.cells #[.int .i64 a, .int .i64 b] 29)).alloc (.cells #[.int .i64 0, .int .i64 0, .slice none 0 0] 87) := ⟨_, rfl⟩
  have B2 : Hid (Below w.heap.size w w2) := hw2 ▸ below_on (below_alloc w _) (below_alloc _ _)
  have hx1 : w2.heap[w.heap.size]? = some (.cells #[.int .i64 a, .int .i64 b] 29 (0, 0)) := by
    rw [hw2]
    exact ((below_alloc _ _).block w.heap.size (by simp)).trans (heap_alloc_new w _)
  have hx2 : w2.heap[w.heap.size + 1]? = some (.cells #[.int .i64 0, .int .i64 0, .slice none 0 0] 87 (0, 0)) := by
    have := heap_alloc_new (w.alloc (.cells #[.int .i64 a, .int .i64 b] 29)) (.cells #[.int .i64 0, .int .i64 0, .slice none 0 0] 87)
    rw [hw2]
    simpa using this
  have J1 := hide (wlives_any (h.later B2.out) a b)
  rw [hl] at J1
  have JP : Hid (∀ W, Below w2.heap.size w2 W → Calls Tryz.prog 78 #[.pointer (some ⟨gw, 0, none⟩), .agg #[.int .i64 a, .int .i64 b]] W fun e w' => ∃ v, e = .returned v ∧ ∃ L, w'.ownsRow W.heap.size 32 2 v L.length (pz L) ∧ Pv W.heap.size w' L (partsL ks s 1 (rowOf (T s).2 i)) ∧ Below W.heap.size W w') := fun W hW => parts_any (h.later (below_on B2.out hW)) a b hib hks s g i hf hq hs hi hx hcol
  generalize partsL ks s 1 (rowOf (T s).2 i) = R at *
  clear h hl hf hq hi hx hcol
  go_enter Tryz.func33, Tryz.ntmps33
  go_wp2_with fail
  rw [← hw2]
  obtain ⟨kx, hkx⟩ : ∃ k, k = w.heap.size := ⟨_, rfl⟩
  obtain ⟨kr, hkr⟩ : ∃ k, k = w.heap.size + 1 := ⟨_, rfl⟩
  have HKR : Hid (w.heap.size ≤ kr) := by unfold Hid; omega
  rw [← hkr] at hx2 ⊢
  rw [← hkx] at hx1 ⊢
  clear hkx hkr hw2
  refine J1.out.mono ?_
  rintro e w3 ⟨rfl, hb3⟩
  have B3 := hide (below_on B2.out hb3)
  obtain ⟨p0, p1⟩ := kx_cells hx1 (below_on hb3 (below_drew w3))
  have J2 := hide (JP.out w3.drew (below_on hb3 (below_drew w3)))
  have X1 := hide hx1
  have X2 := hide hx2
  have HB3 := hide hb3
  clear JP J1 hb3 hx1 hx2
  go_upto_region 3 with fail
  refine wp_region_noPanic ?_
  refine wp_region_late (J := fun i => i != 5) (S := fun W => W.cell? ⟨kx, 0, none⟩ = some (.int .i64 a) ∧ W.cell? ⟨kx, 1, none⟩ = some (.int .i64 b)) (by kernel_rfl) ⟨p0, p1⟩ (fun hHeld => ?_)
  refine' wpAnyJ_take (i := 0) (oi := { dst := some 11, op := Op.load 29 (Operand.tmp 3), type := 29, pos := "world.go:118", after := #[], guard := none }) (v := _) rfl (by kernel_rfl) (by kernel_rfl) (by kernel_rfl) (by kernel_rfl) (fun _ _ _ h => h) (Or.inl ⟨by rfl, ?hyA1⟩) (by assumption) ?reA1
  case hyA1 => (intro W hSw; (try dsimp only at hSw); go_simp; try with_reducible rfl)
  try simp only [Act.put, List.setIfInBounds_toArray, List.set_cons_zero, List.set_cons_succ]
  refine' wpAnyJ_takeW (i := 1) (oi := { dst := some 12, op := Op.move (Operand.tmp 0), type := 37, pos := "world.go:118", after := #[], guard := none }) (v := _) rfl (by kernel_rfl) (by kernel_rfl) (by kernel_rfl) (fun _ _ _ h => h) (Or.inl ⟨by rfl, ?hyA2⟩) ?reA2
  case hyA2 => (intro W hSw; (try dsimp only at hSw); go_simp; try with_reducible rfl)
  try simp only [Act.put, List.setIfInBounds_toArray, List.set_cons_zero, List.set_cons_succ]
  refine' wpAnyJ_take (i := 2) (oi := { dst := some 13, op := Op.load 29 (Operand.tmp 3), type := 29, pos := "world.go:118", after := #[], guard := none }) (v := _) rfl (by kernel_rfl) (by kernel_rfl) (by kernel_rfl) (by kernel_rfl) (fun _ _ _ h => h) (Or.inl ⟨by rfl, ?hyA3⟩) (by assumption) ?reA3
  case hyA3 => (intro W hSw; (try dsimp only at hSw); go_simp; try with_reducible rfl)
  try simp only [Act.put, List.setIfInBounds_toArray, List.set_cons_zero, List.set_cons_succ]
  refine wpAnyJ_ready (rs := [3]) (by kernel_rfl) (by simp) ?_
  refine AllReadyJ.cons (o := { dst := some 14, op := Op.call { callee := Callee.value (Operand.func 78), args := #[Operand.tmp 12, Operand.tmp 13], argTypes := #[37, 29] }, type := 33, pos := "world.go:118", after := #[{ on := 1, ground := Ground.data }, { on := 2, ground := Ground.data }], guard := none }) rfl (fun K hK => ?_) AllReadyJ.nil
  go_simp
  go_at_call 78
  refine J2.out.mono ?_
  rintro e w5 ⟨v5, rfl, L, ho5, hv5, hb5⟩
  have b6 := below_on HB3.out (below_on (below_drew w3) hb5)
  obtain ⟨⟨z0, z1, z2⟩, f0, f1, f2⟩ := row_cells X2.out b6
  obtain ⟨y0, y1⟩ := kx_cells X1.out b6
  obtain ⟨a5, c5, rfl⟩ := own_len ho5
  have HE : Hid (∀ W', w5.grownBy W' (some kr) → (W'.ownsRow w.heap.size 32 2 (.slice a5 L.length c5) L.length (pz L) ∧ Pv w.heap.size W' L R) ∧ Below w.heap.size w W') := fun W' hg => row_end hg ho5 hv5 (below_on B2.out b6) (below_on B2.out HB3.out).size HKR.out (lt_of_block X2.out) HB3.out.size
  clear b6 ho5 hv5 hb5
  go_simp
  refine hK.out _ _ (fun _ _ => ⟨y0, y1⟩) ?_
  clear hK K J2
  try simp only [Act.put, List.setIfInBounds_toArray, List.set_cons_zero, List.set_cons_succ]
  refine' wpAnyJ_takeW (i := 4) (oi := { dst := some 15, op := Op.build 87 #[(0, Operand.tmp 11), (1, Operand.tmp 14)], type := 87, pos := "world.go:118", after := #[{ on := 0, ground := Ground.data }, { on := 3, ground := Ground.data }], guard := none }) (v := _) rfl (by kernel_rfl) (by kernel_rfl) (by kernel_rfl) (fun _ _ _ h => h) (Or.inl ⟨by rfl, ?hyA4⟩) ?reA4
  case hyA4 => (intro W hSw; (try dsimp only at hSw); go_simp; try with_reducible rfl)
  try simp only [Act.put, List.setIfInBounds_toArray, List.set_cons_zero, List.set_cons_succ]
  refine wpAnyJ_ready (rs := [5]) (by kernel_rfl) (by simp) ?_
  refine AllReadyJ.cons (o := { dst := none, op := Op.store 87 (Operand.tmp 4) (Operand.tmp 15), type := 0, pos := "world.go:118", after := #[{ on := 4, ground := Ground.data }, { on := 3, ground := Ground.chain }, { on := 0, ground := Ground.phase }, { on := 1, ground := Ground.phase }, { on := 2, ground := Ground.phase }, { on := 3, ground := Ground.phase }, { on := 4, ground := Ground.phase }], guard := none }) rfl (fun K hK => ?_) AllReadyJ.nil
  go_simp
  refine hK.out _ _ (fun h => absurd h (by decide)) ?_
  clear hK K
  try simp only [Act.put, List.setIfInBounds_toArray, List.set_cons_zero, List.set_cons_succ]
  refine' wpAnyJ_takeW (i := 6) (oi := { dst := some 5, op := Op.assign (Operand.const (Value.int IntKind.i64 0)), type := 61, pos := "world.go:118", after := #[{ on := 5, ground := Ground.chain }, { on := 0, ground := Ground.phase }, { on := 1, ground := Ground.phase }, { on := 2, ground := Ground.phase }, { on := 3, ground := Ground.phase }, { on := 4, ground := Ground.phase }, { on := 5, ground := Ground.phase }], guard := none }) (v := _) rfl (by kernel_rfl) (by kernel_rfl) (by kernel_rfl) (fun _ _ _ h => h) (Or.inl ⟨by rfl, ?hyA5⟩) ?reA5
  case hyA5 => (intro W hSw; (try dsimp only at hSw); go_simp; try with_reducible rfl)
  try simp only [Act.put, List.setIfInBounds_toArray, List.set_cons_zero, List.set_cons_succ]
  refine wpAnyJ_done (by kernel_rfl) ?_ _
  refine NoPanic.normal ?_
  have hg9 : w5.grownBy (((w5.setCell ⟨kr, 0, none⟩ (.int .i64 a)).setCell ⟨kr, 1, none⟩ (.int .i64 b)).setCell ⟨kr, 2, none⟩ (.slice a5 L.length c5)) (some kr) := grown_two (grown_two (grown_set _ _ _ _) (grown_set _ _ _ _)) (grown_set _ _ _ _)
  have HF := hide (HE.out _ hg9)
  clear hg9 HE
  go_wp2_with fail
  (try simp only [Exit.inBlock, Exit.then])
  refine bodyPost_ret (v := .tuple #[.agg #[.int .i64 a, .int .i64 b, .slice a5 L.length c5], .int .i64 0]) ?_ rfl ⟨_, rfl, ⟨L, HF.out.1⟩, HF.out.2⟩
  rw [results_cell_tmp rfl]
  go_simp
end
end Go.Proofs.YtafmiolehlagkaaGreat

/-
  World: rows are put in order by their numbers.
-/
namespace Go.Proofs.YtafmiolehlagkaaGreat
open Go.RowKit Go.Shelf Go.Lib Go.Sort
set_option maxRecDepth 100000
/-- A row's three cells: its entity, where its parts lie. -/
abbrev Rt := Int × Int × Option Addr × Nat × Nat
def encR (p : Rt) : List Value := [.int .i64 p.1, .int .i64 p.2.1, .slice p.2.2.1 p.2.2.2.1 p.2.2.2.2]
def cfR (p r : Rt) : Int := Lib.compareInt p.1 r.1
set_option maxHeartbeats 1000000 in
theorem byIndex_any (p r : Rt) (w : World) : Calls Tryz.prog 83 #[.agg (encR p).toArray, .agg (encR r).toArray] w fun e w' => e = .returned (.int .i64 (cfR p r)) ∧ ∃ q os', w' = grow (w.drewN q) os' := by
  obtain ⟨x, x2, ax, nx, cx⟩ := p
  obtain ⟨y, y2, ay, ny, cy⟩ := r
  unfold encR cfR
  dsimp only
  have J := fun W => cmp_any x y W
  have J := hide J
  generalize Lib.compareInt x y = z at *
  go_enter Tryz.func83, Tryz.ntmps83
  go_wp2_with fail
  refine (J.out _).mono ?_
  rintro e w' ⟨rfl, rfl⟩
  go_wp2_with fail
  go_ret
  exact ⟨rfl, 0, _, by rw [alloc_eq_grow, alloc_eq_grow, grow_grow]; rfl⟩
/-! ### Rows of rows -/
def rz : List Rt → List Value
  | [] => []
  | p :: l => .int .i64 p.1 :: .int .i64 p.2.1 :: .slice p.2.2.1 p.2.2.2.1 p.2.2.2.2 :: rz l
theorem rz_len : ∀ l : List Rt, (rz l).length = l.length * 3
  | [] => rfl
  | p :: t => by simp [rz, rz_len t]; omega
theorem rz_append : ∀ a b : List Rt, rz (a ++ b) = rz a ++ rz b
  | [], _ => rfl
  | h :: t, b => by simp [rz, rz_append t b]
theorem rz_at : ∀ (l : List Rt) (i : Nat) (h : i < l.length), (rz l)[i * 3]? = some (.int .i64 l[i].1) ∧ (rz l)[i * 3 + 1]? = some (.int .i64 l[i].2.1) ∧ (rz l)[i * 3 + 2]? = some (.slice l[i].2.2.1 l[i].2.2.2.1 l[i].2.2.2.2)
  | p :: t, 0, _ => ⟨rfl, rfl, rfl⟩
  | p :: t, i + 1, h => by
    have := rz_at t i (by simpa using h)
    rw [show (i + 1) * 3 = i * 3 + 1 + 1 + 1 by omega]
    simpa [rz] using this
theorem rz_flat (l : List Rt) : (flatK encR 3 l.toArray).toList = rz l := by
  apply List.ext_getElem?
  intro j
  rw [Array.getElem?_toList]
  by_cases hj : j < l.length * 3
  · have h1 : j < (flatK encR 3 l.toArray).size := by simpa using hj
    rw [Array.getElem?_eq_getElem h1, ← getElem!_pos (flatK encR 3 l.toArray) j h1, get_flatK _ _ _ j (by simpa using hj)]
    have hi : j / 3 < l.length := by omega
    have e1 : (l.toArray[j / 3]!) = l[j / 3] := by rw [getElem!_pos _ _ (by simpa using hi)]; simp
    rw [e1]
    obtain ⟨a, b, c⟩ := rz_at l (j / 3) hi
    have hm : j % 3 = 0 ∨ j % 3 = 1 ∨ j % 3 = 2 := by omega
    rcases hm with h | h | h
    · rw [show j / 3 * 3 = j by omega] at a
      rw [h, a]
      rfl
    · rw [show j / 3 * 3 + 1 = j by omega] at b
      rw [h, b]
      rfl
    · rw [show j / 3 * 3 + 2 = j by omega] at c
      rw [h, c]
      rfl
  · rw [Array.getElem?_eq_none (by simpa using hj), List.getElem?_eq_none (by rw [rz_len]; omega)]
theorem row_holds {w : World} {g c : Nat} {l : List Rt} (h : w.ownsRow 0 87 3 (.slice (some ⟨g, 0, none⟩) l.length c) l.length (rz l)) : HoldsK encR 3 w g 0 l.toArray := by
  intro j hj
  have hj2 : j < l.length * 3 := by simpa using hj
  refine ⟨?_, ?_⟩
  · rw [Nat.zero_add, h.cellAt j hj2, ← rz_flat l, Array.getElem?_toList, Array.getElem?_eq_getElem hj, getElem!_pos (flatK encR 3 l.toArray) j hj]
    rfl
  · rw [Nat.zero_add]
    exact h.frozenAt j
theorem row_sorted {w : World} {g c n : Nat} {l l' : List Rt} {os : Array Obj} (h : w.ownsRow 0 87 3 (.slice (some ⟨g, 0, none⟩) l.length c) l.length (rz l)) (hl : l'.length = l.length) :
    (sortWorldK encR 3 w g 0 n l'.toArray os).ownsRow 0 87 3 (.slice (some ⟨g, 0, none⟩) l.length c) l.length (rz l') ∧ w.grownBy (sortWorldK encR 3 w g 0 n l'.toArray os) (some g) := by
  rcases h.2 with ⟨e0, _⟩ | ⟨g', cap', cur, e0, hb, hg, hn, hm, hs, ht⟩
  · cases e0
  · injection e0 with e1 _ e3
    injection e1 with e1
    injection e1 with e1
    subst e1; subst e3
    have hlt : g < w.heap.size := lt_of_block hg
    have hsz : (flatK encR 3 l'.toArray).size = l.length * 3 := by simp [hl]
    refine ⟨⟨by rw [rz_len, hl], .inr ⟨g, c, putCells id 0 (flatK encR 3 l'.toArray) cur, rfl, hb, ?_, hn, hm, by simpa [putCells] using hs, ?_⟩⟩, ⟨rfl, rfl, rfl, ?_, fun k hk hne => ?_⟩⟩
    · unfold sortWorldK
      rw [heap_grow_old _ _ (by simpa [putRowK, putRow, mapBlock, Sort.ahead] using hlt)]
      simp [putRowK, putRow, mapBlock, Sort.ahead, Array.getElem?_modify, hg, onCells]
    · rw [← rz_flat l']
      apply List.ext_getElem?
      intro j
      rw [List.getElem?_take, Array.getElem?_toList, Array.getElem?_toList]
      by_cases hj : j < l.length * 3
      · have hjc : j < cur.size := by rw [hs]; omega
        simp only [if_pos hj, putCells, Array.getElem?_mapIdx, Array.getElem?_eq_getElem hjc, Option.map_some]
        have hF : j < (flatK encR 3 l'.toArray).size := by omega
        rw [if_pos ⟨Nat.zero_le _, by omega⟩, Nat.sub_zero, Array.getElem?_eq_getElem hF, getElem!_pos (flatK encR 3 l'.toArray) j hF]
        rfl
      · rw [if_neg hj, Array.getElem?_eq_none (by omega)]
    · simp [sortWorldK, putRowK, putRow, mapBlock, Sort.ahead]
    · have hne2 : ¬ g = k := fun e => hne (by rw [e])
      unfold sortWorldK
      rw [heap_grow_old _ _ (by simpa [putRowK, putRow, mapBlock, Sort.ahead] using hk)]
      simp [putRowK, putRow, mapBlock, Sort.ahead, Array.getElem?_modify, hne2]
theorem ltR (x y : Rt) : ltOf cfR x y = decide (x.1 < y.1) := by
  unfold ltOf cfR Lib.compareInt
  by_cases h1 : x.1 < y.1
  · simp [h1]
  · by_cases h2 : y.1 < x.1 <;> simp [h1, h2]
theorem swoR : SWO (ltOf cfR) where
  irrefl x := by rw [ltR]; simp
  trans x y z h1 h2 := by rw [ltR] at *; simp at *; omega
  ntrans x y z h1 h2 := by rw [ltR] at *; simp at *; omega
/-! ### Nothing is put in order -/
theorem rins_none (ao : Option Addr) (c : Nat) (fv : Value) (w : World) : Calls Tryz.prog 184 #[.slice ao 0 c, .int .i64 0, .int .i64 0, fv] w fun e w' => e = .returned (.tuple #[]) ∧ w' = w := by
  go_enter Tryz.func184, Tryz.ntmps184
  go_wp2_with fail
  refine wp_loop_rounds 1 ?_
  rw [rounds_succ]
  go_wp2_with fail
  go_end0
  exact ⟨rfl, rfl⟩
set_option maxHeartbeats 2000000 in
theorem rpdq_none (ao : Option Addr) (c : Nat) (fv : Value) (w : World) (lim : Int) : Calls Tryz.prog 153 #[.slice ao 0 c, .int .i64 0, .int .i64 0, .int .i64 lim, fv] w fun e w' => e = .returned (.tuple #[]) ∧ w' = w := by
  have J := hide (rins_none ao c fv w)
  go_enter Tryz.func153, Tryz.ntmps153
  go_wp2_with fail
  refine wp_loop_rounds 1 ?_
  rw [rounds_succ]
  go_wp2_with fail
  refine J.out.mono ?_
  rintro e w' ⟨rfl, rfl⟩
  go_wp2_with fail
  (try simp only [Exit.inBlock, Exit.then]); refine bodyPost_ret (results_none rfl _ _ _) rfl ?_
  exact ⟨rfl, rfl⟩
set_option maxHeartbeats 2000000 in
theorem rsort_none (ao : Option Addr) (c : Nat) (fv : Value) (w : World) : Calls Tryz.prog 82 #[.slice ao 0 c, fv] w fun e w' => e = .returned (.tuple #[]) ∧ w' = w := by
  have JL := hide (len_small 0 w (by omega))
  have JP : Hid (∀ lim : Int, Calls Tryz.prog 153 #[.slice ao 0 c, .int .i64 0, .int .i64 0, .int .i64 lim, fv] w fun e w' => e = .returned (.tuple #[]) ∧ w' = w) := fun lim => rpdq_none ao c fv w lim
  go_enter Tryz.func82, Tryz.ntmps82
  go_wp2_with fail
  refine JL.out.mono ?_
  rintro e w' ⟨⟨l, rfl⟩, rfl⟩
  go_wp2_with fail
  refine (JP.out _).mono ?_
  rintro e w' ⟨rfl, rfl⟩
  go_wp2_with fail
  go_end0
  exact ⟨rfl, rfl⟩
/-- slices.SortFunc of rows, by their numbers. -/
theorem rsort_any {w : World} {v : Value} {l : List Rt} (h : w.ownsRow 0 87 3 v l.length (rz l)) (hn : l.length ≤ 1000000) : Calls Tryz.prog 82 #[v, .func (.func 83) #[] #[]] w fun e w' => e = .returned (.tuple #[]) ∧ ∃ l', l'.Perm l ∧ l'.Pairwise (fun x y => x.1 ≤ y.1) ∧ w'.ownsRow 0 87 3 v l.length (rz l') ∧ w.grownBy w' v.ownBlock := by
  by_cases hv : v = .slice none 0 0
  · subst hv
    have hl : l.length = 0 := by
      rcases h.2 with ⟨_, h0⟩ | ⟨g, c, cur, e, _⟩
      · exact h0
      · cases e
    obtain rfl := List.eq_nil_of_length_eq_zero hl
    refine (rsort_none none 0 _ w).mono ?_
    rintro e w' ⟨rfl, rfl⟩
    exact ⟨rfl, [], List.Perm.refl _, List.Pairwise.nil, h, grown_later (Below.refl _ _)⟩
  · obtain ⟨g, c, rfl⟩ : ∃ g c, v = .slice (some ⟨g, 0, none⟩) l.length c := by
      rcases h.2 with ⟨e, _⟩ | ⟨g, c, cur, e, _⟩
      · exact absurd e hv
      · exact ⟨g, c, e⟩
    have hg := (h.lt g rfl).2
    have eg : ∀ args w, (callFunc 83 args).run Tryz.prog w = .ok (.enter 83 args) w := enters_of Tryz.func83 (by kernel_rfl) rfl
    have hcon := AnyQ.slices_SortFunc laidR 3 (fun w => by kernel_rfl) (fun w => by kernel_rfl) encR (fun _ => rfl) (fun x v hv => by simp [encR] at hv; rcases hv with rfl | rfl | rfl <;> rfl) cfR swoR 83 #[] g 0 c l.toArray w eg (fun _ _ _ _ x y => byIndex_any x y _) (row_holds h) hg (by simp; omega)
    change Calls Tryz.prog 82 _ _ _ at hcon
    simp only [List.size_toArray] at hcon
    refine hcon.mono ?_
    rintro e w' ⟨rfl, d', n, os, ⟨hp1, -, hp3⟩, hs, rfl⟩
    have hsz : d'.toList.length = l.length := by simpa using hp1
    have hperm : d'.toList.Perm l := by
      have e1 : d'.extract 0 l.length = d' := by rw [← hsz]; simp
      rw [e1] at hp3
      simpa using hp3
    obtain ⟨k1, k2⟩ := row_sorted (n := n) (os := os) (l' := d'.toList) h hsz
    refine ⟨rfl, d'.toList, hperm, ?_, k1, k2⟩
    rw [List.pairwise_iff_getElem]
    intro i j hi hj hij
    have := hs i j (Nat.zero_le _) hij (by omega)
    rw [ltR, decide_eq_false_iff_not, getElem!_pos d' i (by simpa using hi), getElem!_pos d' j (by simpa using hj)] at this
    simp only [Array.getElem_toList]
    omega
end Go.Proofs.YtafmiolehlagkaaGreat

/-
  World: Rows.
-/
namespace Go.Proofs.YtafmiolehlagkaaGreat
open Go.RowKit
set_option maxRecDepth 100000
theorem infoR : (Tryz.prog.info? 87).map (fun i => (i.zero, i.size, i.bytes)) = some (some (.agg #[.int .i64 0, .int .i64 0, .slice none 0 0]), 3, 40) := by kernel_rfl
def entR (r : Rt) : Int × Int := (r.1, r.2.1)
def rtV (r : Rt) : Value := .slice r.2.2.1 r.2.2.2.1 r.2.2.2.2
/-- A row of one that lives: its parts, in memory of their own, apart from X. -/
def Rw1 (B : Nat) (W : World) (ks : List Kind) (f : Int × Int → Option Nat) (T : Nat → Ts) (X : Nat → Prop) (r : Rt) : Prop :=
  ∃ s j L, f (entR r) = some s ∧ (∃ hj : j < (T s).1.length, (T s).1[j] = entR r) ∧ W.ownsRow B 32 2 (rtV r) L.length (pz L) ∧ Pv B W L (partsL ks s 1 (rowOf (T s).2 j)) ∧ (∀ k, (rtV r).ownBlock = some k → ¬ X k) ∧ ∀ p ∈ L, ∀ k, (ptV p).ownBlock = some k → ¬ X k
section
variable {B : Nat} {W W' : World} {ks : List Kind} {f : Int × Int → Option Nat} {T : Nat → Ts} {X X' : Nat → Prop} {r : Rt}
theorem Pv.lt {L : List Pt} {R : List (Nat × List Int)} (h : Pv B W L R) {p : Pt} (hp : p ∈ L) {k : Nat} (e : (ptV p).ownBlock = some k) : B ≤ k ∧ k < W.heap.size := by
  obtain ⟨m, hm, rfl⟩ := List.getElem_of_mem hp
  exact (h.2 m hm (by rw [← h.1]; exact hm)).2.lt k e
theorem Rw1.grown {row : Option Nat} (h : Rw1 B W ks f T X r) (hg : W.grownBy W' row) (hr : ∀ k, row = some k → X k) : Rw1 B W' ks f T X r := by
  obtain ⟨s, j, L, h1, h2, h3, h4, h5, h6⟩ := h
  exact ⟨s, j, L, h1, h2, own_kept h3 hg (fun k e e2 => h5 k e (hr k e2)), h4.grown hg (fun p hp k e e2 => h6 p hp k e (hr k e2)), h5, h6⟩
theorem Rw1.off (h : Rw1 B W ks f T X r) (hx : ∀ k, B ≤ k → k < W.heap.size → X' k → X k) : Rw1 B W ks f T X' r := by
  obtain ⟨s, j, L, h1, h2, h3, h4, h5, h6⟩ := h
  exact ⟨s, j, L, h1, h2, h3, h4, fun k e e2 => h5 k e (hx k (h3.lt k e).1 (h3.lt k e).2 e2), fun p hp k e e2 => h6 p hp k e (hx k (h4.lt hp e).1 (h4.lt hp e).2 e2)⟩
theorem Pv.low {B' : Nat} {L : List Pt} {R : List (Nat × List Int)} (h : Pv B W L R) (hB : B' ≤ B) : Pv B' W L R := ⟨h.1, fun i h1 h2 => ⟨(h.2 i h1 h2).1, own_lower (h.2 i h1 h2).2 hB⟩⟩
theorem Rw1.low {B' : Nat} (h : Rw1 B W ks f T X r) (hB : B' ≤ B) : Rw1 B' W ks f T X r := by
  obtain ⟨s, j, L, h1, h2, h3, h4, h5⟩ := h
  exact ⟨s, j, L, h1, h2, own_lower h3 hB, h4.low hB, h5⟩
end
/-- Rows that are being gathered. -/
def Ri (w : World) (gm n : Nat) (ks : List Kind) (f : Int × Int → Option Nat) (T : Nat → Ts) (W : World) (v : Value) (R : List Rt) (cnt : Nat) : Prop :=
  Rg W gm w.heap.size n f (R.map entR) cnt ∧ W.ownsRow (w.heap.size + 1) 87 3 v R.length (rz R) ∧ (∀ r ∈ R, Rw1 (w.heap.size + 1) W ks f T (fun k => v.ownBlock = some k) r) ∧ Below w.heap.size w W
/-- Rows, by their numbers. -/
def Rs (B : Nat) (W : World) (ks : List Kind) (f : Int × Int → Option Nat) (T : Nat → Ts) (v : Value) (R : List Rt) : Prop :=
  W.ownsRow B 87 3 v R.length (rz R) ∧ R.Pairwise (fun x y => x.1 ≤ y.1) ∧ (R.map entR).Nodup ∧ (∀ e, InB e → ((f e).isSome = true ↔ e ∈ R.map entR)) ∧ (∀ r ∈ R, Rw1 B W ks f T (fun k => v.ownBlock = some k) r) ∧ ∀ r ∈ R, InB (entR r)
section
variable {w W w1 w5 w6 w9 : World} {gm n cnt cnt1 : Nat} {ks : List Kind} {f : Int × Int → Option Nat} {T : Nat → Ts} {v : Value} {R : List Rt}
theorem Ri.push (h : Ri w gm n ks f T W v R cnt) (hgm : gm < w.heap.size) {a b : Int} (hr : Rg w1 gm w.heap.size n f (R.map entR ++ [(a, b)]) cnt1) (hg1 : W.grownBy w1 (some w.heap.size)) (hs1 : w1.heap.size = W.heap.size) (hb5 : Below w1.heap.size w1 w5)
    {s j B5 : Nat} {a5 : Option Addr} {n5 c5 : Nat} {L : List Pt} (hf : f (a, b) = some s) (hj : ∃ hj : j < (T s).1.length, (T s).1[j] = (a, b)) (ho : w5.ownsRow B5 32 2 (.slice a5 n5 c5) L.length (pz L)) (hv : Pv B5 w5 L (partsL ks s 1 (rowOf (T s).2 j))) (hB5 : w1.heap.size ≤ B5) (hb6 : Below w5.heap.size w5 w6)
    {g9 c9 : Nat} (ho9 : w9.ownsRow (w.heap.size + 1) 87 3 (.slice (some ⟨g9, 0, none⟩) (R.length + 1) c9) (R.length + 1) (rz R ++ [.int .i64 a, .int .i64 b, .slice a5 n5 c5])) (hg9 : w6.grownBy w9 v.ownBlock) (ha9 : v.ownBlock = some g9 ∨ g9 = w6.heap.size) :
    Ri w gm n ks f T w9 (.slice (some ⟨g9, 0, none⟩) (R.length + 1) c9) (R ++ [(a, b, a5, n5, c5)]) cnt1 := by
  obtain ⟨h1, h2, h3, h4⟩ := h
  have hrl : w.heap.size < W.heap.size := by
    obtain ⟨D, left, a1, -⟩ := h1
    exact a1.lt
  have hvl : ∀ k, v.ownBlock = some k → w.heap.size + 1 ≤ k ∧ k < W.heap.size := fun k e => h2.lt k e
  have hsW := h4.size
  have s5 := hb5.size
  have s6 := hb6.size
  refine ⟨?_, ?_, fun r hr' => ?_, ?_⟩
  · rw [List.map_append]
    exact ((hr.later hb5).later hb6).kept hg9 (fun e => by have := hvl gm e.symm; omega) (fun e => by have := hvl _ e.symm; omega)
  · rw [List.length_append, rz_append]
    exact ho9
  · rcases List.mem_append.1 hr' with hr' | hr'
    · have k1 := (h3 r hr').off (X' := fun k => v.ownBlock = some k ∨ k = w.heap.size) (fun k k1 _ e => e.resolve_right (fun e => by omega))
      have k2 := k1.grown hg1 (fun k e => .inr (Option.some.inj e).symm)
      have k3 := (k2.grown (grown_later hb5) (fun k e => by cases e)).grown (grown_later hb6) (fun k e => by cases e)
      have k4 := k3.off (X' := fun k => v.ownBlock = some k ∨ k = g9) (fun k _ k2 e => by
        rcases e with e | e
        · exact .inl e
        · subst e
          rcases ha9 with e | e
          · exact .inl e
          · omega)
      have k5 := k4.grown hg9 (fun k e => .inl e)
      exact k5.off (fun k _ _ e => .inr (Option.some.inj e).symm)
    · rw [List.mem_singleton.1 hr']
      have hob : ∀ k, (Value.slice a5 n5 c5).ownBlock = some k → B5 ≤ k ∧ k < w5.heap.size := fun k e => ho.lt k e
      have hne : ∀ k, B5 ≤ k → k < w5.heap.size → v.ownBlock ≠ some k := fun k k1 k2 e => by have := hvl k e; omega
      have hn9 : ∀ k, B5 ≤ k → k < w5.heap.size → ¬ (some g9 = some k) := fun k k1 k2 e => by
        have := Option.some.inj e
        subst this
        rcases ha9 with e | e
        · exact hne _ k1 k2 e
        · omega
      refine ⟨s, j, L, hf, hj, own_lower (own_kept (own_later ho hb6) hg9 (fun k e => hne k (hob k e).1 (hob k e).2)) (by omega), ((hv.later hb6).grown hg9 (fun p hp k e => hne k (hv.lt hp e).1 (hv.lt hp e).2)).low (by omega), fun k e => hn9 k (hob k e).1 (hob k e).2, fun p hp k e => hn9 k (hv.lt hp e).1 (hv.lt hp e).2⟩
  · refine ((below_on (h4.grown hg1 hsW (fun k e => by cases e; omega)) (below_on hb5 hb6))).grown hg9 (by omega) (fun k e => by have := hvl k e; omega)
theorem own_raise {B e s n : Nat} {v : Value} {xs : List Value} (h : w.ownsRow 0 e s v n xs) (hB : ∀ k, v.ownBlock = some k → B ≤ k) : w.ownsRow B e s v n xs := by
  obtain ⟨a1, a2⟩ := h
  refine ⟨a1, ?_⟩
  rcases a2 with a2 | ⟨g, c, cur, rfl, b1, b2⟩
  · exact .inl a2
  · exact .inr ⟨g, c, cur, rfl, hB g rfl, b2⟩
theorem Ri.fin (h : Ri w gm n ks f T W v R cnt) (h0 : cnt = 0) {R' : List Rt} (hp : R'.Perm R) (hpw : R'.Pairwise (fun x y => x.1 ≤ y.1)) (ho : w9.ownsRow 0 87 3 v R.length (rz R')) (hg : W.grownBy w9 v.ownBlock) : Rs w.heap.size w9 ks f T v R' ∧ Below w.heap.size w w9 := by
  obtain ⟨h1, h2, h3, h4⟩ := h
  have hd := h1.done h0
  obtain ⟨D, left, -, a2, a3, -⟩ := h1
  have hvl : ∀ k, v.ownBlock = some k → w.heap.size + 1 ≤ k ∧ k < W.heap.size := fun k e => h2.lt k e
  have hpm := hp.map entR
  refine ⟨⟨?_, hpw, hpm.nodup_iff.2 a2, fun e he => ⟨fun hf => hpm.mem_iff.2 (hd e he hf), fun hm => (a3 e (hpm.mem_iff.1 hm)).2⟩, fun r hr => ((h3 r (hp.mem_iff.1 hr)).grown hg (fun k e => e)).low (by omega), fun r hr => (a3 _ (List.mem_map.2 ⟨r, hp.mem_iff.1 hr, rfl⟩)).1⟩, h4.grown hg h4.size (fun k e => by have := hvl k e; omega)⟩
  rw [hp.length_eq]
  exact own_raise ho (fun k e => by have := hvl k e; omega)
end
section
variable {w w' : World} {own : Nat → Nat} {gw gp gm gt M M' : Nat} {vk : Value} {ks : List Kind} {gs fr gs' fr' : List Nat} {f f' : Int × Int → Option Nat} {q q' : Nat → Option Nat} {T T' : Nat → Ts}
set_option maxHeartbeats 8000000 in
theorem rows_any (h : Wx 0 w own gw vk gp gm gt M ks gs fr f q T) (hw : Wi ks f q T) (hks : ks.length ≤ 12) (hcnt : ∀ E : List (Int × Int), E.Nodup → (∀ e ∈ E, (f e).isSome = true) → E.length ≤ 200) :
    Calls Tryz.prog 29 #[.pointer (some ⟨gw, 0, none⟩)] w fun e w' => ∃ v, e = .returned v ∧ (∃ R, Rs w.heap.size w' ks f T v R) ∧ Below w.heap.size w w' := by
  obtain ⟨i0, hi0, hz0, hz1, hz2⟩ := info_parts infoR
  obtain ⟨D, hD, hcl⟩ := h.mp
  have hgm := h.2.1.1
  obtain ⟨-, -, c2, -⟩ := h.cells
  have H := hide h
  have HW := hide hw
  have HCL := hide hcl
  have HN := hide hcnt
  clear h hw hcl hcnt
  go_enter Tryz.func29, Tryz.ntmps29
  go_wp2_with (at_range; refine wpList_range_own _ rfl _ 106 rfl 29 3 keyed32 Tryz.underlying106 _ gm M D rfl hD ?_; intro w0 hrg0 hg0 hs0)
  have H0 : Hid (∃ R cnt, Ri w gm M ks f T w0 (.slice none 0 0) R cnt) := ⟨[], _, Rg.start HCL.out hrg0, World.ownsRow_nil _ _ _ _, fun r hr => (by cases hr), (Below.refl _ w).grown hg0 (Nat.le_refl _) (fun k e => by cases e)⟩
  clear hrg0 hg0 hs0 HCL hD c2
  go_frame
  go_loopw [3] (fun v3 W => Hid (∃ R cnt, Ri w gm M ks f T W v3 R cnt)) (fun _ W => W.rangeLeft gm w.heap.size)
  case atStart => exact H0
  case round =>
    have hrel' := hrel
    obtain ⟨R, cnt, hRi⟩ := hrel'
    have HRi := hide hRi
    obtain ⟨a3, c3, rfl⟩ := own_len hRi.2.1
    have hRl : R.length ≤ 200 := by
      obtain ⟨D', left, -, b2, b3, -⟩ := hRi.1
      have := HN.out _ b2 (fun e he => (b3 e he).2)
      rwa [List.length_map] at this
    rcases hRi.1.next 0 with ⟨n1, n2⟩ | ⟨a, b, c, w1, cnt1, n1, n2, n3, n4, n5, n6, n7, n8, n9⟩
    · have JS := hide (rsort_any (own_lower hRi.2.1 (Nat.zero_le _)) (by omega))
      have HF : Hid (∀ (R' : List Rt) (w9 : World), R'.Perm R → R'.Pairwise (fun x y => x.1 ≤ y.1) → w9.ownsRow 0 87 3 (.slice a3 R.length c3) R.length (rz R') → wr.grownBy w9 (Value.slice a3 R.length c3).ownBlock → Rs w.heap.size w9 ks f T (.slice a3 R.length c3) R' ∧ Below w.heap.size w w9) := fun R' w9 k1 k2 k3 k4 => HRi.out.fin n1 k1 k2 k3 k4
      clear hRi HRi n1 hrel
      go_wp2_with fail
      refine JS.out.mono ?_
      rintro e w9 ⟨rfl, R', k1, k2, k3, k4⟩
      have HE := hide (HF.out R' w9 k1 k2 k3 k4)
      clear k1 k2 k3 k4 JS HF
      go_wp2_with fail
      go_ret
      exact ⟨_, rfl, ⟨R', HE.out.1⟩, HE.out.2⟩
    · obtain ⟨s, hs⟩ := Option.isSome_iff_exists.1 n2
      obtain ⟨m1, ⟨g, m2⟩, m3⟩ := HW.out.1 _ _ hs
      obtain ⟨j, hj, hjx⟩ := List.getElem_of_mem m3
      have hcol := (HW.out.2 s g m2).2.1
      obtain ⟨w2, hw2⟩ : ∃ X, X = w1.alloc (.cells #[.int .i64 a, .int .i64 b] 29) := ⟨_, rfl⟩
      have B1 : Hid (Below w.heap.size w w1) := hRi.2.2.2.grown n7 hRi.2.2.2.size (fun k e => by cases e; omega)
      have B2 : Hid (Below w1.heap.size w1 w2) := hw2 ▸ below_alloc w1 _
      have hx2 : w2.heap[w1.heap.size]? = some (.cells #[.int .i64 a, .int .i64 b] 29 (0, 0)) := by rw [hw2]; exact heap_alloc_new w1 _
      have J2 : Hid (Calls Tryz.prog 78 #[.pointer (some ⟨gw, 0, none⟩), .agg #[.int .i64 a, .int .i64 b]] w2.drew fun e w' => ∃ v, e = .returned v ∧ ∃ L, w'.ownsRow w2.drew.heap.size 32 2 v L.length (pz L) ∧ Pv w2.drew.heap.size w' L (partsL ks s 1 (rowOf (T s).2 j)) ∧ Below w2.drew.heap.size w2.drew w') := parts_any (H.out.later (below_on (below_on B1.out B2.out) (below_drew w2))) a b n1 hks s g j hs m2 m1 hj hjx hcol
      have HP : Hid (∀ (w5 w6 w9 : World) (a5 : Option Addr) (c5 g9 c9 : Nat) (L : List Pt), w5.ownsRow w2.drew.heap.size 32 2 (.slice a5 L.length c5) L.length (pz L) → Pv w2.drew.heap.size w5 L (partsL ks s 1 (rowOf (T s).2 j)) → Below w2.drew.heap.size w2.drew w5 → Below w5.heap.size w5 w6 → w9.ownsRow (w.heap.size + 1) 87 3 (.slice (some ⟨g9, 0, none⟩) (R.length + 1) c9) (R.length + 1) (rz R ++ [.int .i64 a, .int .i64 b, .slice a5 L.length c5]) → w6.grownBy w9 (Value.slice a3 R.length c3).ownBlock → ((Value.slice a3 R.length c3).ownBlock = some g9 ∨ g9 = w6.heap.size) → Hid (∃ R' cnt', Ri w gm M ks f T w9 (.slice (some ⟨g9, 0, none⟩) (R.length + 1) c9) R' cnt') ∧ w9.rangeLeft gm w.heap.size < cnt) := fun w5 w6 w9 a5 c5 g9 c9 L k1 k2 k3 k4 k5 k6 k7 => by
        have := HRi.out.push hgm n5 n7 n8 (below_on (below_on B2.out (below_drew w2)) k3) hs ⟨hj, hjx⟩ k1 k2 (below_on B2.out (below_drew w2)).size k4 k5 k6 k7
        exact ⟨⟨_, _, this⟩, by rw [this.1.left_eq]; exact n6⟩
      have hv3 : Hid (wr.ownsRow (w.heap.size + 1) 87 3 (.slice a3 R.length c3) R.length (rz R)) := hRi.2.1
      have HK : Hid (∀ k, (Value.slice a3 R.length c3).ownBlock = some k → k < wr.heap.size ∧ k ≠ w.heap.size) := fun k e => ⟨(hRi.2.1.lt k e).2, by have := (hRi.2.1.lt k e).1; omega⟩
      have hlc : wr.rangeLeft gm w.heap.size = cnt := hRi.1.left_eq
      have hrl : w.heap.size + 1 ≤ wr.heap.size := by
        obtain ⟨D', left, a1, -⟩ := hRi.1
        exact a1.lt
      obtain ⟨kx, hkx⟩ : ∃ k, k = w1.heap.size := ⟨_, rfl⟩
      have HKX : Hid (wr.heap.size ≤ kx) := by unfold Hid; omega
      have HG7 := hide n7
      rw [← hkx] at hx2
      have X2 := hide hx2
      have HLC := hide hlc
      have HRL := hide hrl
      obtain ⟨p0, p1⟩ := kx_cells hx2 (below_drew w2)
      clear hRi HRi n1 n2 n3 n5 n6 n7 n8 hrel m1 m2 m3 hj hjx hcol hs hx2 hlc hrl
      go_upto_region 5 with fail
      rw [← hw2]
      rw [← hkx]
      clear hw2 hkx n4 n9
      have HS2 : Hid (w.heap.size + 1 ≤ w2.heap.size) := by have := HRL.out; have := HKX.out; have := lt_of_block X2.out; unfold Hid; omega
      have HO5 : Hid (∀ W, Below w2.heap.size w2 W → W.ownsRow (w.heap.size + 1) 87 3 (.slice a3 R.length c3) R.length (rz R)) := fun W hW => own_later (own_later (own_kept hv3.out HG7.out (fun k e e2 => (HK.out k e).2 (Option.some.inj e2).symm)) B2.out) hW
      clear hv3 HG7
      obtain ⟨nR, hnR⟩ : ∃ n, n = R.length := ⟨_, rfl⟩
      rw [← hnR] at HP HK hRl HO5 ⊢
      clear hnR
      refine wp_region_noPanic ?_
      refine wp_region_late (J := fun i => i != 99) (S := fun W => W.cell? ⟨kx, 0, none⟩ = some (.int .i64 a) ∧ W.cell? ⟨kx, 1, none⟩ = some (.int .i64 b)) (by kernel_rfl) ⟨p0, p1⟩ (fun hHeld => ?_)
      refine' wpAnyJ_takeW (i := 0) (oi := { dst := some 14, op := Op.move (Operand.tmp 3), type := 78, pos := "world.go:128", after := #[], guard := none }) (v := _) rfl (by kernel_rfl) (by kernel_rfl) (by kernel_rfl) (fun _ _ _ h => h) (Or.inl ⟨by rfl, ?hyA1⟩) ?reA1
      case hyA1 => (intro W hSw; (try dsimp only at hSw); go_simp; try with_reducible rfl)
      try simp only [Act.put, List.setIfInBounds_toArray, List.set_cons_zero, List.set_cons_succ]
      refine' wpAnyJ_take (i := 1) (oi := { dst := some 15, op := Op.load 29 (Operand.tmp 4), type := 29, pos := "world.go:128", after := #[], guard := none }) (v := _) rfl (by kernel_rfl) (by kernel_rfl) (by kernel_rfl) (by kernel_rfl) (fun _ _ _ h => h) (Or.inl ⟨by rfl, ?hyA2⟩) (by assumption) ?reA2
      case hyA2 => (intro W hSw; (try dsimp only at hSw); go_simp; try with_reducible rfl)
      try simp only [Act.put, List.setIfInBounds_toArray, List.set_cons_zero, List.set_cons_succ]
      refine' wpAnyJ_takeW (i := 2) (oi := { dst := some 16, op := Op.move (Operand.tmp 0), type := 37, pos := "world.go:128", after := #[], guard := none }) (v := _) rfl (by kernel_rfl) (by kernel_rfl) (by kernel_rfl) (fun _ _ _ h => h) (Or.inl ⟨by rfl, ?hyA3⟩) ?reA3
      case hyA3 => (intro W hSw; (try dsimp only at hSw); go_simp; try with_reducible rfl)
      try simp only [Act.put, List.setIfInBounds_toArray, List.set_cons_zero, List.set_cons_succ]
      refine' wpAnyJ_take (i := 3) (oi := { dst := some 17, op := Op.load 29 (Operand.tmp 4), type := 29, pos := "world.go:128", after := #[], guard := none }) (v := _) rfl (by kernel_rfl) (by kernel_rfl) (by kernel_rfl) (by kernel_rfl) (fun _ _ _ h => h) (Or.inl ⟨by rfl, ?hyA4⟩) (by assumption) ?reA4
      case hyA4 => (intro W hSw; (try dsimp only at hSw); go_simp; try with_reducible rfl)
      try simp only [Act.put, List.setIfInBounds_toArray, List.set_cons_zero, List.set_cons_succ]
      refine wpAnyJ_ready (rs := [4]) (by kernel_rfl) (by simp) ?_
      refine AllReadyJ.cons (o := { dst := some 18, op := Op.call { callee := Callee.value (Operand.func 78), args := #[Operand.tmp 16, Operand.tmp 17], argTypes := #[37, 29] }, type := 33, pos := "world.go:128", after := #[{ on := 2, ground := Ground.data }, { on := 3, ground := Ground.data }], guard := none }) rfl (fun K hK => ?_) AllReadyJ.nil
      go_simp
      go_at_call 78
      refine J2.out.mono ?_
      rintro e w5 ⟨v5, rfl, L, ho5, hv5, hb5⟩
      obtain ⟨a5, c5, rfl⟩ := own_len ho5
      have HB5 : Hid (Below w2.heap.size w2 w5) := below_on (below_drew w2) hb5
      obtain ⟨y0, y1⟩ := kx_cells X2.out HB5.out
      have HP5 : Hid (∀ (w6 w9 : World) (g9 c9 : Nat), Below w5.heap.size w5 w6 → w9.ownsRow (w.heap.size + 1) 87 3 (.slice (some ⟨g9, 0, none⟩) (nR + 1) c9) (nR + 1) (rz R ++ [.int .i64 a, .int .i64 b, .slice a5 L.length c5]) → w6.grownBy w9 (Value.slice a3 nR c3).ownBlock → ((Value.slice a3 nR c3).ownBlock = some g9 ∨ g9 = w6.heap.size) → Hid (∃ R' cnt', Ri w gm M ks f T w9 (.slice (some ⟨g9, 0, none⟩) (nR + 1) c9) R' cnt') ∧ w9.rangeLeft gm w.heap.size < cnt) := fun w6 w9 g9 c9 k4 k5 k6 k7 => HP.out w5 w6 w9 a5 c5 g9 c9 L ho5 hv5 hb5 k4 k5 k6 k7
      clear ho5 hv5 hb5 HP
      go_simp
      refine hK.out _ _ (fun _ _ => ⟨y0, y1⟩) ?_
      clear hK K J2
      try simp only [Act.put, List.setIfInBounds_toArray, List.set_cons_zero, List.set_cons_succ]
      refine' wpAnyJ_takeW (i := 5) (oi := { dst := some 19, op := Op.build 87 #[(0, Operand.tmp 15), (1, Operand.tmp 18)], type := 87, pos := "world.go:128", after := #[{ on := 1, ground := Ground.data }, { on := 4, ground := Ground.data }], guard := none }) (v := _) rfl (by kernel_rfl) (by kernel_rfl) (by kernel_rfl) (fun _ _ _ h => h) (Or.inl ⟨by rfl, ?hyA5⟩) ?reA5
      case hyA5 => (intro W hSw; (try dsimp only at hSw); go_simp; try with_reducible rfl)
      try simp only [Act.put, List.setIfInBounds_toArray, List.set_cons_zero, List.set_cons_succ]
      refine wpAnyJ_ready (rs := [6]) (by kernel_rfl) (by simp) ?_
      refine AllReadyJ.cons (o := { dst := some 20, op := Op.buildSlice 78 1 #[(0, Operand.tmp 19)], type := 78, pos := "world.go:128", after := #[{ on := 5, ground := Ground.data }], guard := none }) rfl (fun K hK => ?_) AllReadyJ.nil
      go_simp
      refine hK.out _ _ (fun _ _ => kx_cells X2.out (below_on HB5.out (below_alloc _ _))) ?_
      clear hK K
      try simp only [Act.put, List.setIfInBounds_toArray, List.set_cons_zero, List.set_cons_succ]
      refine wpAnyJ_ready (rs := [7]) (by kernel_rfl) (by simp) ?_
      refine AllReadyJ.cons (o := { dst := some 21, op := Op.call { callee := Callee.builtin Builtin.append, args := #[Operand.tmp 14, Operand.tmp 20], argTypes := #[78, 78] }, type := 78, pos := "world.go:128", after := #[{ on := 0, ground := Ground.data }, { on := 6, ground := Ground.data }, { on := 4, ground := Ground.chain }], guard := none }) rfl (fun K hK => ?_) AllReadyJ.nil
      have HO6 : Hid ((w5.alloc (.cells #[.int .i64 a, .int .i64 b, .slice a5 L.length c5] 87)).ownsRow (w.heap.size + 1) 87 3 (.slice a3 nR c3) nR (rz R)) := HO5.out w5 HB5.out |> fun h => own_later h (below_alloc _ _)
      refine step_append_lies _ rfl (.tmp 14) (.tmp 20) 78 rfl (w.heap.size + 1) 87 i0 (.agg #[.int .i64 0, .int .i64 0, .slice none 0 0]) 3 40 Tryz.underlying78 hi0 hz0 hz1 hz2 rfl (by decide) (.slice a3 nR c3) nR (rz R) (by simp [Act.eval]) HO6.out ⟨w5.heap.size, 0, none⟩ 1 1 [.int .i64 a, .int .i64 b, .slice a5 L.length c5] (by simp [Act.eval]) rfl (by intro j u hj; match j, hj with | 0, hj => simp at hj; subst hj; simp [Addr.add] | 1, hj => simp at hj; subst hj; simp [Addr.add] | 2, hj => simp at hj; subst hj; simp [Addr.add]) (by intro u hu; simp at hu; rcases hu with rfl | rfl | rfl <;> rfl) (by omega) (by unfold maxLen; omega) (by omega) (by have := HB5.out.size; have := HS2.out; simp; omega) _ rfl ?_
      intro g9 c9 w9 ho9 hg9 ha9 _
      obtain ⟨HR9, hlt9⟩ := HP5.out _ w9 g9 c9 (below_alloc _ _) ho9 hg9 ha9
      have hc9 : w9.cell? ⟨kx, 0, none⟩ = some (.int .i64 a) ∧ w9.cell? ⟨kx, 1, none⟩ = some (.int .i64 b) := (fun (z : _ ∧ _) => ⟨hg9.cell z.1 (fun e => by have := (HK.out kx e.symm).1; have := HKX.out; omega), hg9.cell z.2 (fun e => by have := (HK.out kx e.symm).1; have := HKX.out; omega)⟩) (kx_cells X2.out (below_on HB5.out (below_alloc _ (.cells #[.int .i64 a, .int .i64 b, .slice a5 L.length c5] 87))))
      have HLT := hide hlt9
      clear ho9 hg9 ha9 hlt9 HO6
      refine hK.out _ _ (fun _ _ => hc9) ?_
      clear hK K hc9
      try simp only [Act.put, List.setIfInBounds_toArray, List.set_cons_zero, List.set_cons_succ]
      refine' wpAnyJ_takeW (i := 8) (oi := { dst := some 3, op := Op.assign (Operand.tmp 21), type := 78, pos := "world.go:128", after := #[{ on := 7, ground := Ground.data }, { on := 7, ground := Ground.chain }, { on := 0, ground := Ground.phase }, { on := 1, ground := Ground.phase }, { on := 2, ground := Ground.phase }, { on := 3, ground := Ground.phase }, { on := 4, ground := Ground.phase }, { on := 5, ground := Ground.phase }, { on := 6, ground := Ground.phase }, { on := 7, ground := Ground.phase }], guard := none }) (v := _) rfl (by kernel_rfl) (by kernel_rfl) (by kernel_rfl) (fun _ _ _ h => h) (Or.inl ⟨by rfl, ?hyA6⟩) ?reA6
      case hyA6 => (intro W hSw; (try dsimp only at hSw); go_simp; try with_reducible rfl)
      try simp only [Act.put, List.setIfInBounds_toArray, List.set_cons_zero, List.set_cons_succ]
      refine wpAnyJ_done (by kernel_rfl) ?_ _
      refine NoPanic.normal ?_
      go_wp2_with fail
      go_roundw
      case rel => exact HR9
      case measure => rw [HLC.out]; exact HLT.out
end
end Go.Proofs.YtafmiolehlagkaaGreat

namespace Go.Proofs.YtafmiolehlagkaaGreat.Pak
open Go.RowKit
set_option maxRecDepth 100000

theorem hide {p : Prop} (h : p) : Hid p := h
theorem ret_int {k : IntKind} {a b : Int} (h : a = b) : Ending.returned (.int k a) = .returned (.int k b) := by rw [h]
theorem val_int {k : IntKind} {a b : Int} (h : a = b) : Value.int k a = .int k b := by rw [h]

/-- A slice of bytes that reads as l (nil, or empty, or a row of cells). -/
def Bs (w : World) (v : Value) (l : List UInt8) : Prop :=
  ∃ ao c, v = .slice ao l.length c ∧ l.length ≤ c ∧ c ≤ maxLen ∧ ∀ j (hj : j < l.length), ∃ g o, ao = some ⟨g, o, none⟩ ∧ w.cell? ⟨g, o + j, none⟩ = some (.int .u8 (l[j]).toNat)

theorem Bs.nil (w : World) : Bs w (.slice none 0 0) [] := ⟨none, 0, rfl, Nat.le_refl _, Nat.zero_le _, fun j hj => absurd hj (by simp)⟩
theorem Bs.row {w : World} {g o c : Nat} {l : List UInt8} (h1 : l.length ≤ c) (h2 : c ≤ maxLen) (h3 : ∀ j (hj : j < l.length), w.cell? ⟨g, o + j, none⟩ = some (.int .u8 (l[j]).toNat)) : Bs w (.slice (some ⟨g, o, none⟩) l.length c) l :=
  ⟨some ⟨g, o, none⟩, c, rfl, h1, h2, fun j hj => ⟨g, o, rfl, h3 j hj⟩⟩
theorem Bs.parts {w : World} {v : Value} {l : List UInt8} (h : Bs w v l) :
    (∃ ao c, v = .slice ao 0 c ∧ l = []) ∨ ∃ g o c, v = .slice (some ⟨g, o, none⟩) l.length c ∧ 0 < l.length ∧ l.length ≤ c ∧ c ≤ maxLen ∧ ∀ j (hj : j < l.length), w.cell? ⟨g, o + j, none⟩ = some (.int .u8 (l[j]).toNat) := by
  obtain ⟨ao, c, rfl, h1, h2, h3⟩ := h
  by_cases h0 : 0 < l.length
  · obtain ⟨g, o, rfl, _⟩ := h3 0 h0
    refine .inr ⟨g, o, c, rfl, h0, h1, h2, fun j hj => ?_⟩
    obtain ⟨g', o', e, hc⟩ := h3 j hj
    simp at e
    obtain ⟨rfl, rfl⟩ := e
    exact hc
  · obtain rfl : l = [] := List.eq_nil_of_length_eq_zero (by omega)
    exact .inl ⟨ao, c, rfl, rfl⟩
/-- What is below the first new block reads on. -/
theorem Bs.below {B : Nat} {w w' : World} {v : Value} {l : List UInt8} (h : Bs w v l) (hb : Below B w w') (hB : w.heap.size ≤ B) : Bs w' v l := by
  obtain ⟨ao, c, rfl, h1, h2, h3⟩ := h
  refine ⟨ao, c, rfl, h1, h2, fun j hj => ?_⟩
  obtain ⟨g, o, e, hc⟩ := h3 j hj
  have hlt := World.block_lt_of_cell? w _ hc
  exact ⟨g, o, e, (hb.cell (p := ⟨g, o + j, none⟩) (by exact Nat.lt_of_lt_of_le hlt hB)).trans hc⟩
/-- A block of the call's own, whole. -/
abbrev Row (w : World) (g : Nat) (l : List UInt8) : Prop := w.heap[g]? = some (.cells (Lib.byteCells l).toArray 5 (0, 0))
theorem Row.cell {w : World} {g : Nat} {l : List UInt8} (h : Row w g l) (j : Nat) (hj : j < l.length) : w.cell? ⟨g, j, none⟩ = some (.int .u8 (l[j]).toNat) := by
  rw [cell_of_row w g j _ 5 (0, 0) h]
  simp [Lib.byteCells, hj]
theorem Row.frozen {w : World} {g : Nat} {l : List UInt8} (h : Row w g l) (j : Nat) : w.frozen? ⟨g, j, none⟩ = false := frozen_of_row w g j _ 5 h
theorem Row.bs {w : World} {g n c : Nat} {l : List UInt8} (h : Row w g l) (hn : n ≤ l.length) (hc : n ≤ c) (hm : c ≤ maxLen) : Bs w (.slice (some ⟨g, 0, none⟩) n c) (l.take n) := by
  have e : (l.take n).length = n := by simp; omega
  have := Bs.row (w := w) (g := g) (o := 0) (c := c) (l := l.take n) (by omega) hm (fun j hj => by
    rw [e] at hj
    have := h.cell j (by omega)
    simpa using this)
  rwa [e] at this
theorem Row.set {w : World} {g : Nat} {l : List UInt8} (h : Row w g l) (j : Nat) (b : UInt8) : Row (w.setCell ⟨g, j, none⟩ (.int .u8 b.toNat)) g (l.set j b) := by
  have := heap_setCell_same w g j _ 5 (.int .u8 b.toNat) h
  unfold Row
  rw [this]
  simp [Lib.byteCells, List.map_set]
theorem Row.below {B : Nat} {w w' : World} {g : Nat} {l : List UInt8} (h : Row w g l) (hb : Below B w w') (hB : g < B) : Row w' g l := (hb.block g hB).trans h
theorem Row.lt {w : World} {g : Nat} {l : List UInt8} (h : Row w g l) : g < w.heap.size := (Array.getElem?_eq_some_iff.1 h).1

/-! ### Sum -/
end Go.Proofs.YtafmiolehlagkaaGreat.Pak

namespace Go.Proofs.YtafmiolehlagkaaGreat.Pak
open Go.RowKit
set_option maxRecDepth 100000
theorem info5 : (Tryz.prog.info? 5).map (fun i => (i.zero, i.size, i.bytes)) = some (some (.int .u8 0), 1, 1) := by kernel_rfl
theorem size5 : (Tryz.prog.info? 5).map (·.size) = some 1 := by kernel_rfl

/-- A full row that is owned is its block. -/
theorem own_block {w : World} {base e g n : Nat} {xs : List Value} (h : w.ownsRow base e 1 (.slice (some ⟨g, 0, none⟩) n n) n xs) : w.heap[g]? = some (.cells xs.toArray e (0, 0)) ∧ base ≤ g := by
  rcases h.2 with ⟨h', _⟩ | ⟨g', cap', cur, h', hb, hg, _, _, hs, htake⟩
  · simp at h'
  · simp only [Value.slice.injEq, Option.some.injEq, Addr.mk.injEq, and_true, true_and] at h'
    obtain ⟨rfl, rfl⟩ := h'
    have : cur = xs.toArray := by
      rw [← htake, List.take_of_length_le (by simp; omega)]
    exact ⟨this ▸ hg, hb⟩
theorem made_bytes (n : Nat) : (madeCells #[Value.int IntKind.u8 0] n).toList = Lib.byteCells (List.replicate n 0) := by
  rw [toList_madeCells_one]
  simp [Lib.byteCells]
theorem byteCells_one (l : List UInt8) : ∀ u ∈ Lib.byteCells l, u.oneCell' = true := by
  intro u hu
  simp only [Lib.byteCells, List.mem_map] at hu
  obtain ⟨b, _, rfl⟩ := hu
  rfl
theorem byteCells_at {l : List UInt8} {j : Nat} {u : Value} (h : (Lib.byteCells l)[j]? = some u) : ∃ hj : j < l.length, u = .int .u8 (l[j]).toNat := by
  simp only [Lib.byteCells, List.getElem?_map, Option.map_eq_some_iff] at h
  obtain ⟨b, hb, rfl⟩ := h
  obtain ⟨hj, e⟩ := List.getElem?_eq_some_iff.1 hb
  exact ⟨hj, by rw [e]⟩
/-- What a copy out of a slice of bytes asks. -/
theorem Bs.src {w w' : World} {ao : Option Addr} {l : List UInt8} (h3 : ∀ j (hj : j < l.length), ∃ g o, ao = some ⟨g, o, none⟩ ∧ w.cell? ⟨g, o + j, none⟩ = some (.int .u8 (l[j]).toNat)) (hb : Below w.heap.size w w') (m : Nat) (hm : m ≤ l.length) :
    0 < m → ∃ ad, ao = some ad ∧ ∀ j v, (Lib.byteCells (l.take m))[j]? = some v → w'.cell? (ad.add j) = some v := by
  intro h0
  obtain ⟨g, o, rfl, _⟩ := h3 0 (by omega)
  refine ⟨_, rfl, fun j v hv => ?_⟩
  obtain ⟨hj, rfl⟩ := byteCells_at hv
  simp at hj
  obtain ⟨g', o', e, hc⟩ := h3 j (by omega)
  simp at e
  obtain ⟨rfl, rfl⟩ := e
  have hlt := World.block_lt_of_cell? w _ hc
  rw [show (⟨g, o, none⟩ : Addr).add j = ⟨g, o + j, none⟩ by simp [Addr.add], hb.cell (p := ⟨g, o + j, none⟩) hlt, hc]
  simp

end Go.Proofs.YtafmiolehlagkaaGreat.Pak

/-
  DERIVED: THE SHELF's CONTRACTS AT THIS DUMP, IN PLAIN WORDS (tools/lay-plain.mjs out of 'the shelf's own text', which tools/lay-shelf.mjs wrote): THE SAME DECLARATIONS UNDER THE SAME NAMES: 'import', 'namespace', 'open', 'def', 'theorem' AND NOTHING ELSE: no command of the shelf's: FOR A HAND-IN. Each laying: the table of numbers ('.._ren') and one theorem, a field a fact of the dump's own or the kernel's comparison; each contract: ONE APPLICATION.
-/
namespace Go.Proofs
open Go.Shelf
def Tryz.lays129_ren : Go.Shelf.Ren := ⟨fun | 129 => 165 | n => n, fun | 53 => 165 | 3 => 3 | 4 => 4 | 46 => 211 | 5 => 5 | 9 => 9 | n => n, fun | n => n⟩
theorem Tryz.lays129 : Go.Proofs.Lays.n129 Tryz.prog Tryz.lays129_ren := {
  mixed := by kernel_rfl
  f129 := Tryz.func165.trans (congrArg some (by kernel_rfl))
  t3 := Tryz.underlying3
  a3 := Tryz.isAgg3
  z3 := Tryz.sizeOf3
  v3 := Tryz.zeroValue3
  t4 := Tryz.underlying4
  a4 := Tryz.isAgg4
  z4 := Tryz.sizeOf4
  v4 := Tryz.zeroValue4
  t5 := Tryz.underlying5
  a5 := Tryz.isAgg5
  z5 := Tryz.sizeOf5
  v5 := Tryz.zeroValue5
  t9 := Tryz.underlying9
  a9 := Tryz.isAgg9
  z9 := Tryz.sizeOf9
  v9 := Tryz.zeroValue9
  t46 := Tryz.underlying211
  a46 := Tryz.isAgg211
  z46 := Tryz.sizeOf211
  v46 := Tryz.zeroValue211
  t53 := Tryz.underlying165
  a53 := Tryz.isAgg165
  z53 := Tryz.sizeOf165
  v53 := Tryz.zeroValue165 }
/-- bits.Len64: "Len64 returns the minimum number of bits required to represent x; the result is 0 for x == 0.": IT RETURNS 'Lib.bitLen x'; the world is as it was. ('h0', 'h1': x is a uint64.) (LAID: no walk: one application.) -/
theorem Tryz.bits_Len64 (x : Int) (w : World) (h0 : 0 ≤ x) (h1 : x ≤ 18446744073709551615) :
    Calls Tryz.prog 165 #[.int .u64 x] w fun e w' => e = .returned (.int .i64 (Lib.bitLen x.toNat)) ∧ w' = w := Any.bits_Len64 Tryz.lays129 x w h0 h1
end Go.Proofs

namespace Go.Proofs.YtafmiolehlagkaaGreat.Pak
open Go.RowKit
set_option maxRecDepth 100000

theorem or1_half (n : Nat) : (n ||| 1) / 2 = n / 2 := by
  apply Nat.eq_of_testBit_eq
  intro i
  rw [← Nat.testBit_succ, Nat.testBit_or, ← Nat.testBit_succ]
  have : Nat.testBit 1 (i + 1) = false := by rw [Nat.testBit_succ]; simp
  rw [this, Bool.or_false]
theorem or1_div (n : Nat) : (n ||| 1) / 128 = n / 128 := by
  have h : ∀ x : Nat, (x ||| 1) / 2 = x / 2 := fun x => by
    exact or1_half x
  have h7 : ∀ x : Nat, x / 128 = x / 2 / 64 := fun x => by omega
  rw [h7, h, ← h7]
theorem or1_lt {n : Nat} (h : n < 18446744073709551616) : n ||| 1 < 18446744073709551616 := Nat.or_lt_two_pow (n := 64) h (by decide)
theorem or1_le (n : Nat) : n ≤ n ||| 1 := Nat.left_le_or
theorem or1_pos (n : Nat) : 1 ≤ n ||| 1 := Nat.right_le_or
theorem bitLen_or1 {m : Nat} (h1 : 1 ≤ m) (h : m < 18446744073709551616) : Lib.bitLen (m ||| 1) = Lib.bitLen m := by
  rw [Lib.bitLen_half m (by omega) h, Lib.bitLen_half (m ||| 1) (by have := or1_pos m; omega) (or1_lt h), or1_half]
theorem small_len : ∀ n : Fin 128, (Lib.bitLen (n.val ||| 1) + 6) / 7 = 1 := by decide +kernel
/-- How many bytes a number has. -/
theorem size_eq : ∀ (k n : Nat), n < 128 ^ (k + 1) → n < 18446744073709551616 → (Lib.bitLen (n ||| 1) + 6) / 7 = (Lib.uvarint n).length
  | 0, n, h, _ => by
    rw [Lib.uvarint_small (by simpa using h)]
    exact small_len ⟨n, by simpa using h⟩
  | k + 1, n, h, hn => by
    by_cases hx : n < 128
    · rw [Lib.uvarint_small hx]
      exact small_len ⟨n, hx⟩
    · rw [Lib.uvarint_big (by omega), List.length_cons, ← size_eq k (n / 128) (by rw [Nat.pow_succ] at h; exact Nat.div_lt_of_lt_mul (by rw [Nat.mul_comm]; exact h)) (by omega)]
      have h1 := Lib.bitLen_shift 7 (n ||| 1) (by have := or1_le n; omega) (or1_lt hn)
      rw [show (2 : Nat) ^ 7 = 128 from rfl, or1_div, ← bitLen_or1 (m := n / 128) (by omega) (by omega)] at h1
      rw [h1]
      omega
theorem size_any {n : Nat} (h : n < 18446744073709551616) : (Lib.bitLen (n ||| 1) + 6) / 7 = (Lib.uvarint n).length := size_eq 9 n (Nat.lt_of_lt_of_le h (by decide)) h

set_option maxHeartbeats 1000000 in
set_option maxRecDepth 100000 in
theorem numberSize_any (n : Nat) (w : World) (h : n < 18446744073709551616) :
    Calls Tryz.prog 115 #[.int .u64 n] w fun e w' => e = .returned (.int .i64 (Lib.uvarint n).length) ∧ w' = w := by
  have hor : bits .or .u64 (n : Int) 1 = ((n ||| 1 : Nat) : Int) := u64_or_nat n 1 h (by omega)
  have hlt := or1_lt h
  have HE := hide (size_any h)
  have hc := Tryz.bits_Len64 ((n ||| 1 : Nat) : Int) w (by omega) (by omega)
  rw [Int.toNat_natCast] at hc
  have hb : Lib.bitLen (n ||| 1) ≤ 64 := Lib.bitLen_le _ 64 (by omega) hlt
  generalize n ||| 1 = x at *
  generalize Lib.bitLen x = y at *
  go_enter Tryz.func115, Tryz.ntmps115
  go_wp2_with (go_at_call 165; refine hc.mono ?_; rintro e w' ⟨rfl, rfl⟩)
  go_ret
  exact ⟨ret_int (by rw [← HE.out]; omega), rfl⟩

/-! ### appendNumber -/
theorem uv_split {y : Nat} (h : 1 < (Lib.uvarint y).length) : 128 ≤ y := by
  by_cases h1 : y < 128
  · rw [Lib.uvarint_small h1] at h
    simp at h
  · omega

set_option maxHeartbeats 8000000 in
set_option maxRecDepth 100000 in
theorem appendNumber_any (B n x : Nat) (hx : x < 18446744073709551616) (sv : Value) (xs : List Value) (w : World) (hown : w.ownsRow B 5 1 sv n xs) (hBw : B ≤ w.heap.size) (hlim : n + 10 ≤ 140737488355328) :
    Calls Tryz.prog 113 #[sv, .int .u64 x] w fun e w' => ∃ v', e = .returned v' ∧ w'.ownsRow B 5 1 v' (n + (Lib.uvarint x).length) (xs ++ Lib.byteCells (Lib.uvarint x)) ∧ Below B w w' := by
  obtain ⟨i0, hi, hz0, hz1, hz2⟩ := info_parts info5
  have hlen := Lib.uvarint_length64 hx
  have hpos := Lib.uvarint_pos x
  have hc := numberSize_any x w hx
  go_enter Tryz.func113, Tryz.ntmps113
  go_wp2_with (go_at_call 115; refine hc.mono ?_; rintro e w' ⟨rfl, rfl⟩)
  clear hc
  go_loopw [0, 1, 8] (fun vb vx vi wr => ∃ (y : Nat) (pre : List UInt8), vx = .int .u64 y ∧ y ≤ x ∧ vi = .int .i64 pre.length ∧ Lib.uvarint x = pre ++ Lib.uvarint y ∧ wr.ownsRow B 5 1 vb (n + pre.length) (xs ++ Lib.byteCells pre) ∧ Below B w' wr)
    (fun _ vx _ _ => (intOf vx).toNat)
  case atStart => exact ⟨x, [], rfl, Nat.le_refl _, rfl, rfl, by simpa [Lib.byteCells] using hown, Below.refl _ _⟩
  case round =>
    obtain ⟨y, pre, rfl, hy, rfl, hsplit, hown1, hnx⟩ := hrel
    have hsum : pre.length + (Lib.uvarint y).length = (Lib.uvarint x).length := by
      have h2 := congrArg List.length hsplit
      rw [List.length_append] at h2
      omega
    have hyp := Lib.uvarint_pos y
    have hpl : pre.length ≤ 9 := by omega
    have HS := hide hsplit
    have HU := hide hsum
    clear hsplit hsum
    by_cases h128 : 128 ≤ y
    · have hlt : (pre.length : Int) < (Lib.uvarint x).length - 1 := by
        have h1 := HU.out
        have h2 := Lib.uvarint_pos (y / 128)
        rw [Lib.uvarint_big h128, List.length_cons] at h1
        omega
      have hor : bits .or .u8 ((y : Int) % 256) 128 = ((y % 128 + 128 : Nat) : Int) := by
        rw [Lib.u8_or128_any _ (by omega) (by omega)]
        omega
      go_wp2_with (at_builtin; refine wpList_append_own _ rfl _ _ 51 rfl B 5 i0 (.int .u8 0) 1 1 Tryz.underlying51 hi hz0 hz1 hz2 rfl (by decide) _ _ _ rfl (hown1.alloc _) ⟨wr.heap.size, 0, none⟩ 1 1 [Value.int .u8 ((y % 128 + 128 : Nat) : Int)] rfl rfl ?c1 ?c2 ?c3 ?c4 ?c5 ?_)
      case c1 =>
        intro j u hj
        match j, hj with
        | 0, hj => simp at hj; subst hj; simp [Addr.add]
      case c2 => intro u hu; simp at hu; subst hu; rfl
      case c3 => unfold maxLen; omega
      case c4 => omega
      case c5 => have := hnx.size; simp; omega
      intro v' w1 hown' hgrow _
      have hnx1 : Below B w' w1 := (hnx.alloc (by have := hnx.size; omega) _).grown hgrow (by have := hnx.size; simp; omega) (fun k hk => (hown1.lt k hk).1)
      go_wp2
      go_roundw
      case rel =>
        refine ⟨y / 128, pre ++ [(y % 128 + 128).toUInt8], by go_num, by omega, by simp, by rw [HS.out, Lib.uvarint_big h128]; simp, ?_, hnx1⟩
        have ec : ((y % 128 + 128 : Nat) : Int) = (y : Int) % 128 + 128 := by omega
        rw [Lib.byteCells_snoc pre (by omega), List.length_append, List.length_singleton, ← Nat.add_assoc, ec]
        simpa using hown'
      case measure => simp [intOf]; omega
    · have hlt : ¬ (pre.length : Int) < (Lib.uvarint x).length - 1 := by
        have h1 := HU.out
        rw [Lib.uvarint_small (by omega), List.length_singleton] at h1
        omega
      have hsm : Lib.uvarint y = [y.toUInt8] := Lib.uvarint_small (by omega)
      have HM := hide hsm
      clear hsm
      go_wp2_with (at_builtin; refine wpList_append_own _ rfl _ _ 51 rfl B 5 i0 (.int .u8 0) 1 1 Tryz.underlying51 hi hz0 hz1 hz2 rfl (by decide) _ _ _ rfl (hown1.alloc _) ⟨wr.heap.size, 0, none⟩ 1 1 [Value.int .u8 (y : Int)] rfl rfl ?c1 ?c2 ?c3 ?c4 ?c5 ?_)
      case c2 => first | rfl | (intro u hu; simp at hu; subst hu; rfl) | simp [Value.oneCell']
      case c3 => unfold maxLen; omega
      case c4 => omega
      case c5 => have := hnx.size; simp; omega
      intro v' w1 hown' hgrow _
      have hnx1 : Below B w' w1 := (hnx.alloc (by have := hnx.size; omega) _).grown hgrow (by have := hnx.size; simp; omega) (fun k hk => (hown1.lt k hk).1)
      go_wp2
      go_ret
      refine ⟨v', rfl, ?_, hnx1⟩
      rw [HS.out, HM.out, Lib.byteCells_snoc pre (by omega), List.length_append, List.length_singleton, ← Nat.add_assoc]
      simpa using hown'

/-! ### withRoom -/
/-- 'make([]T, n, m)': the new row written out. -/
theorem wpList_make_cap {P : Program} (w : World) {ops : Array Oper} {rest : List Oper} {o : Oper} {a : Act} {Q : Exit → Act → World → Prop}
    (hg : o.guard = none) (l c : Operand) (t : TypeId) (hop : o.op = Op.makeSlice t l c)
    (e : TypeId) (i : TypeInfo) (z : Value) (h1 : P.underlying t = some (.slice e)) (h2 : P.info? e = some i) (h3 : i.zero = some z)
    (kl kc : IntKind) (L C : Int) (n m : Nat) (hl : a.eval l = .int kl L) (hc : a.eval c = .int kc C) (hL : L = (n : Int)) (hC : C = (m : Int)) (hnm : n ≤ m) (b2 : i.bytes * m ≤ 281474976710656) (b3 : m ≤ maxLen)
    (hK : ∀ w', Hid (w'.heap[w.heap.size]? = some (.cells (madeCells z.cells (m * i.size)) e (0, 0))) → w.grownBy w' none → wpList P ops Q rest (a.put o.dst (.slice (some ⟨w.heap.size, 0, none⟩) n m)) w') :
    wpList P ops Q (o :: rest) a w := by
  refine wpList_plain hg fun K hK' => ?_
  have h63' : (m : Int) ≤ 9223372036854775807 := by
    have h := b3
    simp [maxLen] at h
    omega
  have hb' : (i.bytes : Int) * (m : Int) ≤ 281474976710656 := by
    have h : ((i.bytes * m : Nat) : Int) ≤ 281474976710656 := by omega
    rwa [Int.natCast_mul] at h
  have hrun := run_make (P := P) w t e i z h1 h2 h3 kl kc n m (by omega) (by omega) hb' h63'
  simp only [Int.toNat_natCast] at hrun
  subst hL
  subst hC
  unfold Oper.wp
  simp [execOp, hop, hl, hc, hrun, Result.andThen]
  exact hK' _ _ (hK _ (heap_alloc_new w _) (World.grownBy_alloc w _ none))

theorem splice_room (l : List UInt8) (s : Nat) : splice (Lib.byteCells (List.replicate (l.length + s) 0)) 0 (Lib.byteCells l) = Lib.byteCells (l ++ List.replicate s 0) := by
  unfold splice
  rw [Lib.byteCells_append]
  simp [Lib.byteCells]
theorem made_array (n : Nat) : madeCells #[Value.int IntKind.u8 0] n = (Lib.byteCells (List.replicate n 0)).toArray := by
  rw [← made_bytes]
/-- A row with spare room, owned. -/
theorem Row.owns {w : World} {B g n : Nat} {l : List UInt8} (h : Row w g l) (hB : B ≤ g) (hn : n ≤ l.length) (hm : l.length ≤ maxLen) : w.ownsRow B 5 1 (.slice (some ⟨g, 0, none⟩) n l.length) n (Lib.byteCells (l.take n)) := by
  refine ⟨by simp [Lib.byteCells]; omega, .inr ⟨g, l.length, _, rfl, hB, h, hn, hm, by simp [Lib.byteCells], by simp [Lib.byteCells, List.map_take]⟩⟩

set_option maxHeartbeats 1000000 in
set_option maxRecDepth 100000 in
theorem withRoom_any (v : Value) (l : List UInt8) (s : Nat) (w : World) (h : Bs w v l) (hl : l.length + s ≤ 281474976710656) :
    Calls Tryz.prog 114 #[v, .int .i64 s] w fun e w' => e = .returned (.slice (some ⟨w.heap.size, 0, none⟩) l.length (l.length + s)) ∧ Row w' w.heap.size (l ++ List.replicate s 0) ∧ Below w.heap.size w w' := by
  obtain ⟨i0, hi, hz0, hz1, hz2⟩ := info_parts info5
  obtain ⟨ao, c, rfl, h1, h2, h3⟩ := h
  have H3 := hide h3
  clear h3
  unfold maxLen at h2
  go_enter Tryz.func114, Tryz.ntmps114
  go_wp2_with (at_make; refine wpList_make_cap _ rfl _ _ 51 rfl 5 i0 (.int .u8 0) Tryz.underlying51 hi hz0 .i64 .i64 _ _ l.length (l.length + s) rfl rfl ?c1 ?c2 ?c3 ?c4 ?c5 ?_)
  case c1 => omega
  case c2 => omega
  case c3 => omega
  case c4 => rw [hz2]; omega
  case c5 => unfold maxLen; omega
  intro w1 hr1 hgrow
  rw [made_array] at hr1
  have hb1 : Below w.heap.size w w1 := (Below.refl _ _).grown hgrow (Nat.le_refl _) (by intro k hk; cases hk)
  have hsrc := Bs.src H3.out hb1 l.length (Nat.le_refl _)
  rw [List.take_length] at hsrc
  have HS := hide hsrc
  clear hsrc
  go_wp2_with (refine wpList_copy_splice rfl _ _ 51 51 rfl 5 Tryz.underlying51 size5 _ _ _ _ _ _ rfl rfl w.heap.size 0 (Lib.byteCells (List.replicate (l.length + s) 0)) 5 hr1.out (Lib.byteCells l) ?d1 ?d2 ?d3 (byteCells_one l) w.heap.size w hb1 (Nat.le_refl _) ?_)
  case d1 => rw [Lib.byteCells_length]; simp
  case d2 => intro h0; rw [Lib.byteCells_length] at h0; first | exact ⟨rfl, HS.out h0⟩ | exact HS.out h0
  case d3 => simp [Lib.byteCells_length]
  intro w2 hr2 hb2
  rw [splice_room] at hr2
  clear hr1 hb1 HS H3
  go_wp2
  go_ret
  exact ⟨rfl, hr2.out, hb2⟩

/-! ### fold -/
theorem fold_eq {n : Int} (h0 : -9223372036854775808 ≤ n) (h1 : n ≤ 9223372036854775807) :
    bits .xor .u64 (IntKind.u64.wrap (IntKind.u64.wrap n * 2)) (IntKind.u64.wrap (n / 9223372036854775808)) = ((Lib.zigzag n : Nat) : Int) := by
  by_cases h : 0 ≤ n
  · rw [show n / 9223372036854775808 = 0 by omega, show IntKind.u64.wrap 0 = ((0 : Nat) : Int) by decide]
    have e : IntKind.u64.wrap (IntKind.u64.wrap n * 2) = ((Lib.zigzag n : Nat) : Int) := by
      rw [Lib.zigzag_nonneg h, IntKind.wrap_u64, IntKind.wrap_u64]
      omega
    rw [e, u64_xor_nat _ _ (Lib.zigzag_lt h0 h1) (by omega), Nat.xor_zero]
  · rw [show n / 9223372036854775808 = -1 by omega, ← Lib.zigzag_neg h0 (by omega), show IntKind.u64.wrap (-1) = IntKind.u64.max by decide]
    have e : IntKind.u64.wrap (IntKind.u64.wrap n * 2) = (((2 * n + 18446744073709551616).toNat : Nat) : Int) := by
      rw [IntKind.wrap_u64, IntKind.wrap_u64]
      omega
    have e2 : IntKind.u64.max = ((18446744073709551615 : Nat) : Int) := by decide
    rw [e, e2, u64_xor_nat _ _ (by omega) (by omega), u64_xor_nat _ _ (by omega) (by omega), Nat.xor_comm]
set_option maxHeartbeats 1000000 in
set_option maxRecDepth 100000 in
theorem fold_any (n : Int) (w : World) (h0 : -9223372036854775808 ≤ n) (h1 : n ≤ 9223372036854775807) :
    Calls Tryz.prog 117 #[.int .i64 n] w fun e w' => e = .returned (.int .u64 (Lib.zigzag n)) ∧ w' = w := by
  go_enter Tryz.func117, Tryz.ntmps117
  go_wp2
  go_ret
  exact ⟨ret_int (fold_eq h0 h1), rfl⟩

/-! ### Put -/
set_option maxHeartbeats 1000000 in
set_option maxRecDepth 100000 in
theorem put_any (v : Value) (l : List UInt8) (n : Nat) (w : World) (h : Bs w v l) (hn : n < 18446744073709551616) (hl : l.length + 20 ≤ 140737488355328) :
    Calls Tryz.prog 111 #[v, .int .u64 n] w fun e w' => ∃ v', e = .returned v' ∧ w'.ownsRow w.heap.size 5 1 v' (l.length + (Lib.uvarint n).length) (Lib.byteCells (l ++ Lib.uvarint n)) ∧ Below w.heap.size w w' := by
  have hlen := Lib.uvarint_length64 hn
  have hc := numberSize_any n w hn
  have hr := withRoom_any v l (Lib.uvarint n).length w h (by omega)
  go_enter Tryz.func111, Tryz.ntmps111
  go_wp2_with (first | (go_at_call 115; refine hc.mono ?_; rintro e w' ⟨rfl, rfl⟩) | (go_at_call 114; refine hr.mono ?_; rintro e w1 ⟨rfl, hrow, hb1⟩))
  have hown := hrow.owns (B := w'.heap.size) (n := l.length) (Nat.le_refl _) (by simp) (by simp [maxLen]; omega)
  rw [List.take_left, List.length_append, List.length_replicate] at hown
  refine (appendNumber_any w'.heap.size l.length n hn _ _ w1 hown hb1.size (by omega)).mono ?_
  rintro e w2 ⟨v2, rfl, hown2, hb2⟩
  rw [← Lib.byteCells_append] at hown2
  clear hown hrow hc hr
  go_wp2
  go_ret
  exact ⟨v2, rfl, hown2, hb1.trans hb2⟩

set_option maxHeartbeats 1000000 in
set_option maxRecDepth 100000 in
theorem putInt_any (v : Value) (l : List UInt8) (n : Int) (w : World) (h : Bs w v l) (h0 : -9223372036854775808 ≤ n) (h1 : n ≤ 9223372036854775807) (hl : l.length + 20 ≤ 140737488355328) :
    Calls Tryz.prog 119 #[v, .int .i64 n] w fun e w' => ∃ v', e = .returned v' ∧ w'.ownsRow w.heap.size 5 1 v' (l.length + (Lib.uvarint (Lib.zigzag n)).length) (Lib.byteCells (l ++ Lib.uvarint (Lib.zigzag n))) ∧ Below w.heap.size w w' := by
  have hc := fold_any n w h0 h1
  have hp := put_any v l (Lib.zigzag n) w h (Lib.zigzag_lt h0 h1) hl
  have H := hide hp
  clear hp
  go_enter Tryz.func119, Tryz.ntmps119
  go_wp2_with (first | (go_at_call 117; refine hc.mono ?_; rintro e w' ⟨rfl, rfl⟩) | (go_at_call 111; refine H.out.mono ?_; rintro e w1 ⟨v2, rfl, hown, hb1⟩))
  go_ret
  exact ⟨v2, rfl, hown, hb1⟩

end Go.Proofs.YtafmiolehlagkaaGreat.Pak

/-
  A4, AS PLAIN MATHEMATICS: the three forms of a row of numbers, and the one that is taken. No program in this text.
-/
namespace Go.Proofs.YtafmiolehlagkaaGreat.Pak.Rw
open Go.RowKit
set_option maxRecDepth 100000

def ivar (z : Int) : List UInt8 := Lib.uvarint (Lib.zigzag z)
/-- What the forms 0 and 1 write for the number at place i. -/
def entry (l : List Int) (i form : Nat) : Int := if form = 1 ∧ 0 < i then wrap64 (l.getD i 0 - l.getD (i - 1) 0) else l.getD i 0
def bodyTo (l : List Int) (form : Nat) : Nat → List UInt8
  | 0 => []
  | k + 1 => bodyTo l form k ++ ivar (entry l k form)
/-- Is the number at place i the last of its run? -/
def ends (l : List Int) (i : Nat) : Bool := i + 1 == l.length || l.getD i 0 != l.getD (i + 1) 0
structure RunsAt where
  bytes : List UInt8
  count : Nat
  len : Nat
def runsTo (l : List Int) : Nat → RunsAt
  | 0 => ⟨[], 0, 0⟩
  | k + 1 => if ends l k then ⟨(runsTo l k).bytes ++ (Lib.uvarint ((runsTo l k).len + 1) ++ ivar (l.getD k 0)), (runsTo l k).count + 1, 0⟩ else ⟨(runsTo l k).bytes, (runsTo l k).count, (runsTo l k).len + 1⟩
def runsB (l : List Int) : List UInt8 := Lib.uvarint (runsTo l l.length).count ++ (runsTo l l.length).bytes
def formB (l : List Int) (form : Nat) : List UInt8 := if form = 2 then runsB l else bodyTo l form l.length
def best (l : List Int) : Nat :=
  if (formB l 1).length < (formB l 0).length then (if (formB l 2).length < (formB l 1).length then 2 else 1)
  else (if (formB l 2).length < (formB l 0).length then 2 else 0)
/-- The row, as PutRow writes it. -/
def rowB (l : List Int) : List UInt8 := if l.length = 0 then [0] else Lib.uvarint l.length ++ (UInt8.ofNat (best l) :: formB l (best l))

/-- It fits an int64. -/
def Fits (z : Int) : Prop := -9223372036854775808 ≤ z ∧ z ≤ 9223372036854775807
theorem wrap64_fits (n : Int) : Fits (wrap64 n) := by unfold Fits wrap64; omega
def AllFit (l : List Int) : Prop := ∀ z ∈ l, Fits z
theorem getD_fits {l : List Int} (h : AllFit l) (i : Nat) : Fits (l.getD i 0) := by
  by_cases hi : i < l.length
  · rw [List.getD_eq_getElem?_getD, List.getElem?_eq_getElem hi]; exact h _ (List.getElem_mem hi)
  · rw [List.getD_eq_getElem?_getD, List.getElem?_eq_none (by omega)]; unfold Fits; simp
theorem entry_fits {l : List Int} (h : AllFit l) (i form : Nat) : Fits (entry l i form) := by
  unfold entry
  split
  · exact wrap64_fits _
  · exact getD_fits h i
theorem ivar_length {z : Int} (h : Fits z) : (ivar z).length ≤ 10 := Lib.uvarint_length64 (Lib.zigzag_lt h.1 h.2)
theorem bodyTo_length {l : List Int} (h : AllFit l) (form : Nat) : ∀ k, (bodyTo l form k).length ≤ 10 * k
  | 0 => by simp [bodyTo]
  | k + 1 => by
    have h1 := bodyTo_length h form k
    have h2 := ivar_length (entry_fits h k form)
    simp only [bodyTo, List.length_append]
    omega
theorem runsTo_count (l : List Int) : ∀ k, (runsTo l k).count ≤ k ∧ (runsTo l k).len ≤ k
  | 0 => by simp [runsTo]
  | k + 1 => by
    have h := runsTo_count l k
    unfold runsTo
    split <;> simp <;> omega
theorem runsTo_length {l : List Int} (h : AllFit l) : ∀ k, k < 18446744073709551616 → (runsTo l k).bytes.length ≤ 20 * k
  | 0, _ => by simp [runsTo]
  | k + 1, hk => by
    have h1 := runsTo_length h k (by omega)
    have h2 := ivar_length (getD_fits h k)
    have h3 := Lib.uvarint_length64 (x := (runsTo l k).len + 1) (by have := (runsTo_count l k).2; omega)
    unfold runsTo
    split
    · simp only [List.length_append]; omega
    · simp only; omega
theorem formB_length {l : List Int} (h : AllFit l) (hl : l.length ≤ 1048576) (form : Nat) : (formB l form).length ≤ 20 * l.length + 10 := by
  unfold formB runsB
  split
  · have h1 := runsTo_length h l.length (by omega)
    have h2 := Lib.uvarint_length64 (x := (runsTo l l.length).count) (by have := (runsTo_count l l.length).1; omega)
    simp only [List.length_append]
    omega
  · have := bodyTo_length h form l.length
    omega
theorem best_le (l : List Int) : best l ≤ 2 := by unfold best; split <;> split <;> omega

end Go.Proofs.YtafmiolehlagkaaGreat.Pak.Rw
