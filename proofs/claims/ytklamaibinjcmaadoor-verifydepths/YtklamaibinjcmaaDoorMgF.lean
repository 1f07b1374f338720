import Derived.Test.YtklamaibinjcmaaDoorMgE
import Derived.Deep.LoopGhost
import Derived.Test.YtklamaibinjcmaaDoorShelf
/-
  Verify: numbers and lists of numbers that are read; rows that are owned.
-/
namespace Go.Proofs.YtklamaibinjcmaaDoor
open Go.RowKit
set_option maxRecDepth 100000
def nz (l : List Nat) : List Value := l.map fun y : Nat => Value.int .i64 (y : Int)
theorem nz_len (l : List Nat) : (nz l).length = l.length := by simp [nz]
theorem nz_at (l : List Nat) (i : Nat) (h : i < l.length) : (nz l)[i]? = some (.int .i64 (l[i] : Int)) := by simp [nz, h]
/-- Numbers that are read. -/
def Rn (W : World) (v : Value) (l : List Nat) : Prop := ∃ ao c, v = .slice ao l.length c ∧ l.length ≤ c ∧ c ≤ 9223372036854775807 ∧ (0 < l.length → ∃ g o, ao = some ⟨g, o, none⟩ ∧ ∀ i (h : i < l.length), W.cell? ⟨g, o + i, none⟩ = some (.int .i64 (l[i] : Int)))
theorem Rn.later {W W' : World} {v : Value} {l : List Nat} (h : Rn W v l) (hb : Below W.heap.size W W') : Rn W' v l := by
  obtain ⟨ao, c, h1, h2, h3, h4⟩ := h
  refine ⟨ao, c, h1, h2, h3, fun h0 => ?_⟩
  obtain ⟨g, o, rfl, h5⟩ := h4 h0
  exact ⟨g, o, rfl, fun i hi => (World.cell?_of_block (hb.block g (World.block_lt_of_cell? W _ (h5 i hi)))).trans (h5 i hi)⟩
/-- Lists that are read. -/
def Rr (W : World) (v : Value) (ls : List (List Nat)) : Prop := ∃ ao c, ∃ rs : List Value, v = .slice ao ls.length c ∧ ls.length ≤ c ∧ c ≤ 9223372036854775807 ∧ rs.length = ls.length ∧ (0 < ls.length → ∃ g o, ao = some ⟨g, o, none⟩ ∧ ∀ i (h : i < rs.length), W.cell? ⟨g, o + i, none⟩ = some rs[i]) ∧ ∀ i (h1 : i < rs.length) (h2 : i < ls.length), Rn W rs[i] ls[i]
theorem Rr.later {W W' : World} {v : Value} {ls : List (List Nat)} (h : Rr W v ls) (hb : Below W.heap.size W W') : Rr W' v ls := by
  obtain ⟨ao, c, rs, h1, h2, h3, h4, h5, h6⟩ := h
  refine ⟨ao, c, rs, h1, h2, h3, h4, fun h0 => ?_, fun i a b => (h6 i a b).later hb⟩
  obtain ⟨g, o, rfl, h7⟩ := h5 h0
  exact ⟨g, o, rfl, fun i hi => (World.cell?_of_block (hb.block g (World.block_lt_of_cell? W _ (h7 i hi)))).trans (h7 i hi)⟩
theorem Rr.nth {W : World} {ao : Option Addr} {n c : Nat} {ls : List (List Nat)} (h : Rr W (.slice ao n c) ls) {i : Nat} (hi : i < ls.length) : ∃ g o r, ao = some ⟨g, o, none⟩ ∧ W.cell? ⟨g, o + i, none⟩ = some r ∧ Rn W r ls[i] := by
  obtain ⟨ao', c', rs, e, h2, h3, h4, h5, h6⟩ := h
  simp only [Value.slice.injEq] at e
  obtain ⟨rfl, -, -⟩ := e
  obtain ⟨g, o, rfl, h7⟩ := h5 (by omega)
  exact ⟨g, o, rs[i]'(by omega), rfl, h7 i (by omega), h6 i (by omega) hi⟩
theorem infoBool : (Tryd.prog.info? 4).map (fun i => (i.zero, i.size, i.bytes)) = some (some (.bool false), 1, 1) := by kernel_rfl
theorem infoI2 : (Tryd.prog.info? 3).map (fun i => (i.zero, i.size, i.bytes)) = some (some (.int .i64 0), 1, 8) := by kernel_rfl
/-- Numbers that are read are put behind numbers. -/
theorem own_blk2 {w : World} {B e s n : Nat} {v : Value} {xs : List Value} (h : w.ownsRow B e s v n xs) {g : Nat} (hg : v.ownBlock = some g) : ∃ cur, w.heap[g]? = some (.cells cur e (0, 0)) := by
  rcases h.2 with ⟨rfl, _⟩ | ⟨g', cap, cur, rfl, hb, hg', -⟩
  · simp [Value.ownBlock] at hg
  · simp only [Value.ownBlock, Option.some.injEq] at hg
    subst hg
    exact ⟨cur, hg'⟩
theorem own_ap2 {w : World} {B e s n B' e' s' n' : Nat} {v v' : Value} {xs xs' : List Value} (h : w.ownsRow B e s v n xs) (h' : w.ownsRow B' e' s' v' n' xs') (hne : e ≠ e') : Ap v v' := fun g h1 h2 => by
  obtain ⟨c1, k1⟩ := own_blk2 h h1
  obtain ⟨c2, k2⟩ := own_blk2 h' h2
  rw [k1] at k2
  simp only [Option.some.injEq, Obj.cells.injEq] at k2
  exact hne k2.2.1
theorem own_cut2 {w : World} {B g c m k e : Nat} {xs : List Value} (h : w.ownsRow B e 1 (.slice (some ⟨g, 0, none⟩) m c) m xs) (hk : k ≤ m) : w.ownsRow B e 1 (.slice (some ⟨g, 0, none⟩) k c) k (xs.take k) := by
  have hlen := h.1
  rcases h.2 with ⟨h', _⟩ | ⟨gv', c', cur, h', hb, hg, h1, h2, h3, h4⟩
  · simp at h'
  · simp only [Value.slice.injEq, Option.some.injEq, Addr.mk.injEq, and_true, true_and] at h'
    obtain ⟨rfl, rfl⟩ := h'
    refine ⟨by rw [List.length_take]; omega, .inr ⟨g, c, cur, rfl, hb, hg, by omega, h2, h3, ?_⟩⟩
    rw [← h4, List.take_take]
    congr 1
    omega
theorem own_ge {w : World} {B e s n g c : Nat} {xs : List Value} (h : w.ownsRow B e s (.slice (some ⟨g, 0, none⟩) n c) n xs) : B ≤ g := by
  rcases h.2 with ⟨h', _⟩ | ⟨g', c', cur, h', hb, _⟩
  · simp at h'
  · simp only [Value.slice.injEq, Option.some.injEq, Addr.mk.injEq, and_true, true_and] at h'
    obtain ⟨rfl, rfl⟩ := h'
    exact hb
end Go.Proofs.YtklamaibinjcmaaDoor

/-
  Verify: comesBack.
-/
namespace Go.Proofs.YtklamaibinjcmaaDoor
open Go.RowKit
set_option maxRecDepth 100000
/-- The ways that lists tell. -/
def Eg (ls : List (List Nat)) : Nat → List Nat := fun x => ls.getD x []
theorem Eg_at {ls : List (List Nat)} {x : Nat} (h : x < ls.length) : Eg ls x = ls[x] := by
  unfold Eg
  rw [List.getD_eq_getElem?_getD, List.getElem?_eq_getElem h]
  rfl
theorem clone_n {W : World} {v : Value} {l : List Nat} (h : Rn W v l) (hl : l.length ≤ 10000000) : Calls Tryd.prog 81 #[v] W fun e w' => ∃ v', e = .returned v' ∧ w'.ownsRow W.heap.size 3 1 v' l.length (nz l) ∧ Below W.heap.size W w' := by
  obtain ⟨ao, c, rfl, h2, h3, h4⟩ := h
  by_cases h0 : 0 < l.length
  · obtain ⟨g, o, rfl, hc⟩ := h4 h0
    refine (Tryd.slices_Clone_int g o l.length c (l.map fun y : Nat => (y : Int)) W (by simp) (by omega) (fun j hj => ?_)).mono ?_
    · have hj' : j < l.length := by simpa using hj
      rw [hc j hj', List.getD_eq_getElem?_getD]
      simp [hj']
    · rintro e w' ⟨v', rfl, h1, _, h2⟩
      refine ⟨v', rfl, ?_, h2⟩
      have : ((l.map fun y : Nat => (y : Int)).take l.length).map (Value.int .i64) = nz l := by
        rw [List.take_of_length_le (by simp), List.map_map]
        rfl
      rw [this] at h1
      exact h1
  · have hl0 : l.length = 0 := by omega
    obtain rfl := List.eq_nil_of_length_eq_zero hl0
    cases ao with
    | none =>
      refine (Tryd.slices_Clone_int_nil 0 c W).mono ?_
      rintro e w' ⟨rfl, rfl⟩
      exact ⟨_, rfl, World.ownsRow_nil _ _ _ _, Below.refl _ _⟩
    | some ad =>
      refine (Tryd.slices_Clone_int_zero ad c W).mono ?_
      rintro e w' ⟨v', rfl, h1, _, h2⟩
      exact ⟨v', rfl, h1, h2⟩
theorem appendR {w : World} {ops : Array Oper} {rest : List Oper} {o : Oper} {a : Act} {Q : Exit → Act → World → Prop} (hgd : o.guard = none) (s x : Operand)
    (ho : o.op = .call { callee := .builtin .append, args := #[s, x], argTypes := #[32, 32] })
    (base : Nat) (v : Value) (n : Nat) (xs : List Value) (hs : a.eval s = v) (hown : w.ownsRow base 3 1 v n xs) (vx : Value) (l : List Nat) (hx : a.eval x = vx) (hl : Rn w vx l) (hb : n + l.length ≤ 10000000000) (hbase : base ≤ w.heap.size)
    (h : ∀ v' w', w'.ownsRow base 3 1 v' (n + l.length) (xs ++ nz l) → w.grownBy w' v.ownBlock → wpList Tryd.prog ops Q rest (a.put o.dst v') w') :
    wpList Tryd.prog ops Q (o :: rest) a w := by
  refine wpList_plain hgd fun K hK => ?_
  obtain ⟨i0, hi, hz0, hz1, hz2⟩ := info_parts infoI2
  obtain ⟨ao, c, rfl, h1, h2, h3⟩ := hl
  have main : ∃ v' w', (Builtin.append_ #[32, 32] o.type #[v, .slice ao l.length c]).run Tryd.prog w = .ok v' w' ∧ w'.ownsRow base 3 1 v' (n + l.length) (xs ++ nz l) ∧ w.grownBy w' v.ownBlock := by
    cases ao with
    | none =>
      obtain rfl : l = [] := by
        cases l with
        | nil => rfl
        | cons y t =>
          obtain ⟨g, o, e, -⟩ := h3 (by simp)
          cases e
      refine ⟨v, w, ?_, by simpa [nz] using hown, World.grownBy.refl _ _⟩
      rcases hown.2 with ⟨rfl, rfl⟩ | ⟨g, cap, cur, rfl, _, _, hnc, _⟩
      · simp [Builtin.append_, run_underlying Tryd.underlying32, typeInfo, hi, Builtin.lenOf, Builtin.firstCells]
      · simp [Builtin.append_, run_underlying Tryd.underlying32, typeInfo, hi, Builtin.lenOf, Builtin.firstCells, hnc, storeCells]
    | some ad =>
      obtain ⟨v', w', hr, a2, a3, -, -⟩ := run_append_own_at (P := Tryd.prog) w base 32 o.type 3 i0 (.int .i64 0) 1 8 Tryd.underlying32 hi hz0 hz1 hz2 rfl (by decide) v n xs hown ad l.length c (nz l) (by rw [nz_len]; omega) (fun j u hj => by
        have hj2 : j < l.length := by
          have := (List.getElem?_eq_some_iff.1 hj).1
          rwa [nz_len] at this
        rw [nz_at l j hj2] at hj
        obtain ⟨g', o', e3, z4⟩ := h3 (by omega)
        obtain rfl := Option.some.inj e3
        rw [show (⟨g', o', none⟩ : Addr).add j = ⟨g', o' + j, none⟩ by simp [Addr.add], ← Option.some.inj hj]
        exact z4 j hj2) (fun u hu => by
        obtain ⟨y, _, rfl⟩ := List.mem_map.1 hu
        rfl) (by unfold maxLen; omega) (by omega) hbase
      exact ⟨v', w', hr, a2, a3⟩
  obtain ⟨v', w', hr, h2', h3'⟩ := main
  unfold Oper.wp execOp
  simp only [ho, resolve, invoke, builtin, Sem.run_bind, Sem.run_pure, Result.andThen_ok, List.map_toArray, List.map_cons, List.map_nil, hs, hx, hr]
  exact hK _ _ (h v' w' h2' h3')
end Go.Proofs.YtklamaibinjcmaaDoor
