import Derived.Test.YtpolajoephjdhaaGreatDoorShD
import Derived.Test.YtpolajoephjdhaaGreatDoorRows
import Derived.ProofKit
import Derived.OpenShut
import Derived.ShutString
import Derived.ChangeOld
import Derived.SizedLaws
import Derived.JoinedCond
import Derived.Deep.CondSized
import Derived.Lib.SmallJoins
/-
  A list of routines: its cells, a copy of it.
-/
namespace Go.Proofs.YtpolajoephjdhaaGreatDoor
open Go.RowKit
set_option maxRecDepth 100000
theorem rtsC_len : ∀ lf : List (Rt × Value), (rtsC lf).length = lf.length * 4
  | [] => rfl
  | p :: lf => by
    have := rtsC_len lf
    simp only [rtsC, List.flatMap_cons, List.length_append, List.length_cons] at *
    simp only [rvC, List.length_cons, List.length_nil]
    omega
theorem rtsC_at : ∀ (lf : List (Rt × Value)) (k : Nat) (h : k < lf.length), (rtsC lf)[k * 4]? = some (.string lf[k].1.name) ∧ (rtsC lf)[k * 4 + 1]? = some (.int .i64 lf[k].1.pa) ∧ (rtsC lf)[k * 4 + 2]? = some (.int .i64 lf[k].1.lo) ∧ (rtsC lf)[k * 4 + 3]? = some lf[k].2
  | p :: lf, 0, _ => ⟨rfl, rfl, rfl, rfl⟩
  | p :: lf, k + 1, h => by
    have e : rtsC (p :: lf) = rvC p ++ rtsC lf := rfl
    have l : (rvC p).length = 4 := rfl
    have := rtsC_at lf k (by simpa using h)
    rw [e]
    have g : ∀ j, (rvC p ++ rtsC lf)[(k + 1) * 4 + j]? = (rtsC lf)[k * 4 + j]? := fun j => by
      rw [List.getElem?_append_right (by omega), l]
      congr 1
      omega
    exact ⟨(g 0).trans this.1, (g 1).trans this.2.1, (g 2).trans this.2.2.1, (g 3).trans this.2.2.2⟩
def setPa (p : Rt × Value) (x : Int) : Rt × Value := (⟨p.1.name, x, p.1.lo, p.1.code⟩, p.2)
theorem rtsC_set : ∀ (lf : List (Rt × Value)) (k : Nat) (q : Rt × Value) (_ : lf[k]? = some q) (x : Int), rtsC (lf.set k (setPa q x)) = (rtsC lf).set (k * 4 + 1) (.int .i64 x)
  | p :: lf, 0, q, h, x => by
    obtain rfl : p = q := by simpa using h
    rfl
  | p :: lf, k + 1, q, h, x => by
    have e : rtsC (p :: lf) = rvC p ++ rtsC lf := rfl
    have l : (rvC p).length = 4 := rfl
    have := rtsC_set lf k q (by simpa using h) x
    rw [List.set_cons_succ, e, show rtsC (p :: lf.set k (setPa q x)) = rvC p ++ rtsC (lf.set k (setPa q x)) from rfl, this, List.set_append_right _ _ (by omega), l]
    congr 2
    omega
def RtsV (Q : Nat → Prop) (W : World) (lf : List (Rt × Value)) : Prop := ∀ p ∈ lf, I6 p.1.pa ∧ I6 p.1.lo ∧ Il Q W p.2 p.1.code
theorem RtsV.mv {Q S : Nat → Prop} {W W' : World} {lf : List (Rt × Value)} (h : RtsV Q W lf) (hm : Mv W W' S) (hs : ∀ j, Q j → ¬ S j) : RtsV Q W' lf := fun p hp => ⟨(h p hp).1, (h p hp).2.1, (h p hp).2.2.mv hm hs⟩
theorem RtsV.later {Q : Nat → Prop} {W W' : World} {lf : List (Rt × Value)} (h : RtsV Q W lf) (hb : Below W.heap.size W W') : RtsV Q W' lf := h.mv (Mv.of_below hb (fun _ => False)) (fun _ _ e => e)
theorem rtsC_one (lf : List (Rt × Value)) {Q : Nat → Prop} {W : World} (h : RtsV Q W lf) : ∀ u ∈ rtsC lf, u.oneCell' = true := by
  intro u hu
  obtain ⟨p, hp, hu⟩ := List.mem_flatMap.1 hu
  obtain ⟨-, -, ao, c, e, -⟩ := h p hp
  simp only [rvC, List.mem_cons, List.not_mem_nil, or_false] at hu
  rcases hu with rfl | rfl | rfl | rfl
  · rfl
  · rfl
  · rfl
  · rw [e]; rfl
/-- A list of routines, cell by cell. -/
theorem Rts.rows {Q : Nat → Prop} {W : World} {v : Value} {fs : List Rt} (h : Rts Q W v fs) : ∃ lf : List (Rt × Value), lf.map Prod.fst = fs ∧ RtsV Q W lf ∧ ∃ ao c, v = .slice ao fs.length c ∧ fs.length ≤ c ∧ c ≤ maxLen ∧ (0 < fs.length → ∃ g o, ao = some ⟨g, o, none⟩ ∧ Q g ∧ ∀ j u, (rtsC lf)[j]? = some u → W.cell? ⟨g, o + j, none⟩ = some u) := by
  obtain ⟨ao, c, rfl, h1, h2, h3⟩ := h
  by_cases h0 : 0 < fs.length
  · obtain ⟨g, o, rfl, hq, h4⟩ := h3 h0
    have key : ∀ n, n ≤ fs.length → ∃ lf : List (Rt × Value), lf.map Prod.fst = fs.take n ∧ RtsV Q W lf ∧ ∀ j u, (rtsC lf)[j]? = some u → W.cell? ⟨g, o + j, none⟩ = some u := by
      intro n
      induction n with
      | zero => exact fun _ => ⟨[], rfl, fun p hp => absurd hp (by simp), fun j u e => by simp [rtsC] at e⟩
      | succ n ih =>
        intro hn
        obtain ⟨lf, e1, e2, e3⟩ := ih (by omega)
        obtain ⟨i1, i2, vc, d0, d1, d2, d3, hil⟩ := h4 n (by omega)
        have hl : lf.length = n := by have := congrArg List.length e1; simp at this; omega
        refine ⟨lf ++ [(fs[n], vc)], ?_, ?_, ?_⟩
        · rw [List.map_append, e1, List.take_add_one, List.getElem?_eq_getElem (by omega)]; rfl
        · intro p hp
          rcases List.mem_append.1 hp with hp | hp
          · exact e2 p hp
          · obtain rfl : p = (fs[n], vc) := by simpa using hp
            exact ⟨i1, i2, hil⟩
        · intro j u hj
          have hc : rtsC (lf ++ [(fs[n], vc)]) = rtsC lf ++ rvC (fs[n], vc) := by simp [rtsC]
          rw [hc] at hj
          by_cases hlt : j < (rtsC lf).length
          · rw [List.getElem?_append_left hlt] at hj
            exact e3 j u hj
          · rw [List.getElem?_append_right (by omega)] at hj
            have hle := rtsC_len lf
            have hj4 : j - (rtsC lf).length < 4 := (List.getElem?_eq_some_iff.1 hj).1
            obtain ⟨t, ht⟩ : ∃ t, j = n * 4 + t := ⟨j - n * 4, by omega⟩
            have ht4 : j - (rtsC lf).length = t := by omega
            rw [ht4] at hj hj4
            subst ht
            match t, hj4 with
            | 0, _ => obtain rfl := Option.some.inj hj; exact d0
            | 1, _ => obtain rfl := Option.some.inj hj; exact d1
            | 2, _ => obtain rfl := Option.some.inj hj; exact d2
            | 3, _ => obtain rfl := Option.some.inj hj; exact d3
    obtain ⟨lf, e1, e2, e3⟩ := key fs.length (Nat.le_refl _)
    exact ⟨lf, by rw [e1, List.take_length], e2, _, _, rfl, h1, h2, fun _ => ⟨g, o, rfl, hq, e3⟩⟩
  · have : fs = [] := List.length_eq_zero_iff.1 (by omega)
    subst this
    exact ⟨[], rfl, fun p hp => absurd hp (by simp), _, _, rfl, h1, h2, fun h => absurd h h0⟩
theorem own_rts {Q : Nat → Prop} {W : World} {B : Nat} {v : Value} {lf : List (Rt × Value)} (h : W.ownsRow B 45 4 v lf.length (rtsC lf)) (hv : RtsV Q W lf) (hm : lf.length ≤ maxLen) : Rts (fun j => Q j ∨ (B ≤ j ∧ j < W.heap.size)) W v (lf.map Prod.fst) := by
  by_cases h0 : 0 < lf.length
  · have h' := h
    obtain ⟨-, ⟨rfl, e⟩ | ⟨g, cap, cur, rfl, hB, hg, h1, h2, -⟩⟩ := h
    · omega
    · refine ⟨_, _, by rw [List.length_map], by rw [List.length_map]; exact h1, h2, fun _ => ⟨g, 0, rfl, .inr ⟨hB, lt_of_block hg⟩, fun i hi => ?_⟩⟩
      rw [List.length_map] at hi
      have hc := fun j (hj : j < lf.length * 4) => h'.cellAt j hj
      obtain ⟨d0, d1, d2, d3⟩ := rtsC_at lf i hi
      obtain ⟨i1, i2, hil⟩ := hv lf[i] (List.getElem_mem hi)
      simp only [List.getElem_map, Nat.zero_add]
      exact ⟨i1, i2, lf[i].2, (hc _ (by omega)).trans d0, (hc _ (by omega)).trans d1, (hc _ (by omega)).trans d2, (hc _ (by omega)).trans d3, hil.mono (fun j e => .inl e)⟩
  · have : lf = [] := List.length_eq_zero_iff.1 (by omega)
    subst this
    obtain ⟨-, ⟨rfl, e⟩ | ⟨g, cap, cur, rfl, hB, hg, h1, h2, -⟩⟩ := h
    · exact ⟨_, _, rfl, Nat.le_refl _, Nat.zero_le _, fun h => absurd h (by simp)⟩
    · exact ⟨_, _, rfl, h1, h2, fun h => absurd h (by simp)⟩
end Go.Proofs.YtpolajoephjdhaaGreatDoor

/-
  A copy of a list of routines.
-/
namespace Go.Proofs.YtpolajoephjdhaaGreatDoor
open Go.RowKit
set_option maxRecDepth 100000
/-- nil, or at a place. -/
def NilOr (v : Value) : Prop := ∀ n c, v = .slice none n c → n = 0 ∧ c = 0
theorem add_all (g o j : Nat) : (⟨g, o, none⟩ : Addr).add j = ⟨g, o + j, none⟩ := by simp [Addr.add]
theorem run_append_rts {Q : Nat → Prop} {w : World} (base : Nat) (ty : TypeId) (v : Value) (hown : w.ownsRow base 45 4 v 0 []) (vx : Value) (fs : List Rt) (hr : Rts Q w vx fs) (hnil : NilOr vx) (hb : fs.length * 56 ≤ 140737488355328) (hbase : base ≤ w.heap.size) :
    ∃ v' w' lf, (Builtin.append_ #[25, 25] ty #[v, vx]).run Tryz.prog w = .ok v' w' ∧ lf.map Prod.fst = fs ∧ RtsV Q w lf ∧ w'.ownsRow base 45 4 v' lf.length (rtsC lf) ∧ w.grownBy w' v.ownBlock := by
  obtain ⟨ic, hi, hz0, hz1, hz2⟩ := info_parts infoR
  obtain ⟨lf, e1, e2, ao, c, rfl, h1, h2, h3⟩ := hr.rows
  have hl : fs.length = lf.length := by rw [← e1, List.length_map]
  cases ao with
  | none =>
    obtain ⟨h4, rfl⟩ := hnil _ _ rfl
    rw [h4]
    have : lf = [] := List.length_eq_zero_iff.1 (by omega)
    subst this
    exact ⟨v, w, [], run_append_owned_none (P := Tryz.prog) (w := w) base 25 ty 45 ic 4 Tryz.underlying25 hi v 0 [] hown, e1, e2, hown, World.grownBy.refl _ _⟩
  | some ad =>
    have cells : ∀ j u, (rtsC lf)[j]? = some u → w.cell? (ad.add j) = some u := by
      intro j u hj
      have hj2 := (List.getElem?_eq_some_iff.1 hj).1
      rw [rtsC_len] at hj2
      obtain ⟨g, o, e, -, h4⟩ := h3 (by omega)
      obtain rfl := Option.some.inj e
      rw [add_all]
      exact h4 j u hj
    obtain ⟨v', w', hr, a2, a3, -⟩ := run_append_own (P := Tryz.prog) w base 25 ty 45 ic (.agg #[.string ByteArray.empty, .int .i64 0, .int .i64 0, .slice none 0 0]) 4 56 Tryz.underlying25 hi hz0 hz1 hz2 rfl (by decide) v 0 [] hown ad fs.length c (rtsC lf) (by rw [rtsC_len]; omega) cells (rtsC_one lf e2) (by unfold maxLen; omega) (by omega) hbase
    rw [Nat.zero_add, List.nil_append, hl] at a2
    exact ⟨v', w', lf, hr, e1, e2, a2, a3⟩
theorem wp_append_rts {Q : Nat → Prop} {w : World} {o : Oper} {a : Act} {K : Act → World → Prop} {R : Exit → Act → World → Prop} (s x : Operand) (ho : o.op = .call { callee := .builtin .append, args := #[s, x], argTypes := #[25, 25] })
    (base : Nat) (v : Value) (hs : a.eval s = v) (hown : w.ownsRow base 45 4 v 0 []) (vx : Value) (hx : a.eval x = vx) (fs : List Rt) (hr : Rts Q w vx fs) (hnil : NilOr vx) (hb : fs.length * 56 ≤ 140737488355328) (hbase : base ≤ w.heap.size)
    (h : ∀ v' w' lf, lf.map Prod.fst = fs → RtsV Q w lf → w'.ownsRow base 45 4 v' lf.length (rtsC lf) → w.grownBy w' v.ownBlock → K (a.put o.dst v') w') : o.wp Tryz.prog a w K R := by
  obtain ⟨v', w', lf, hrun, h2, h3, h4, h5⟩ := run_append_rts (w := w) base o.type v hown vx fs hr hnil hb hbase
  unfold Oper.wp execOp
  simp only [ho, resolve, invoke, builtin, Sem.run_bind, Sem.run_pure, Result.andThen_ok, List.map_toArray, List.map_cons, List.map_nil, hs, hx, hrun]
  exact h v' w' lf h2 h3 h4 h5
theorem wpList_append_rts {Q : Nat → Prop} {w : World} {ops : Array Oper} {rest : List Oper} {o : Oper} {a : Act} {R : Exit → Act → World → Prop} (hgd : o.guard = none) (s x : Operand) (ho : o.op = .call { callee := .builtin .append, args := #[s, x], argTypes := #[25, 25] })
    (base : Nat) (v : Value) (hs : a.eval s = v) (hown : w.ownsRow base 45 4 v 0 []) (vx : Value) (hx : a.eval x = vx) (fs : List Rt) (hr : Rts Q w vx fs) (hnil : NilOr vx) (hb : fs.length * 56 ≤ 140737488355328) (hbase : base ≤ w.heap.size)
    (h : ∀ v' w' lf, lf.map Prod.fst = fs → RtsV Q w lf → w'.ownsRow base 45 4 v' lf.length (rtsC lf) → w.grownBy w' v.ownBlock → wpList Tryz.prog ops R rest (a.put o.dst v') w') : wpList Tryz.prog ops R (o :: rest) a w :=
  wpList_plain hgd fun _ hK => wp_append_rts s x ho base v hs hown vx hx fs hr hnil hb hbase fun v' w' lf h2 h3 h4 h5 => hK _ _ (h v' w' lf h2 h3 h4 h5)
theorem step_append_rts {Q : Nat → Prop} {w : World} {ops : Array Oper} {o : Oper} {a : Act} {K : Act → World → Prop} {R : Exit → Act → World → Prop} {E : Prop} (hgd : o.guard = none) (s x : Operand) (ho : o.op = .call { callee := .builtin .append, args := #[s, x], argTypes := #[25, 25] })
    (base : Nat) (v : Value) (hs : a.eval s = v) (hown : w.ownsRow base 45 4 v 0 []) (vx : Value) (hx : a.eval x = vx) (fs : List Rt) (hr : Rts Q w vx fs) (hnil : NilOr vx) (hb : fs.length * 56 ≤ 140737488355328) (hbase : base ≤ w.heap.size)
    (h : ∀ v' w' lf, lf.map Prod.fst = fs → RtsV Q w lf → w'.ownsRow base 45 4 v' lf.length (rtsC lf) → w.grownBy w' v.ownBlock → K (a.put o.dst v') w') :
    if Region.wanted o (yielded ops a.tmps) = true then Oper.wp Tryz.prog o a w K R else E := by
  have hw : Region.wanted o (yielded ops a.tmps) = true := by simp [Region.wanted, hgd]
  rw [if_pos hw]
  exact wp_append_rts s x ho base v hs hown vx hx fs hr hnil hb hbase h
theorem own_lit (w : World) : (w.alloc (.cells #[] 45)).ownsRow w.heap.size 45 4 (.slice (some ⟨w.heap.size, 0, none⟩) 0 0) 0 [] :=
  ⟨rfl, .inr ⟨w.heap.size, 0, #[], rfl, Nat.le_refl _, heap_alloc_new w _, Nat.le_refl _, Nat.zero_le _, rfl, rfl⟩⟩
end Go.Proofs.YtpolajoephjdhaaGreatDoor

/-
  Lists of routines that come in, opened.
-/
namespace Go.Proofs.YtpolajoephjdhaaGreatDoor
open Go.ChangeShapes Go.WideShapes Go.ChangeAt Go.RowKit
set_option maxRecDepth 100000
section
variable {H : Type} {enc : TypeId × Value → H} {W : World}
theorem i6_wf {n : Int} (h : (Lit.int .i64 n).wf = true) : I6 n := by
  have m1 : IntKind.i64.min = -9223372036854775808 := by rfl
  have m2 : IntKind.i64.max = 9223372036854775807 := by rfl
  have : -9223372036854775808 ≤ n ∧ n ≤ 9223372036854775807 := by
    simp [Lit.wf, m1, m2] at h
    omega
  exact this
theorem ins_cells {m : Nat} {cs : List Value} {y : DataW H × List MemPlace} (h : DataW.trod enc Tryz.prog W 0 (fun _ => true) true m 56 cs = some y) : ∃ i : Ins, I6 i.op ∧ I6 i.a ∧ cs[0]? = some (.int .i64 i.op) ∧ cs[1]? = some (.int .i64 i.a) := by
  have cI : Tryz.prog.cellsOf 3 = 1 := by kernel_rfl
  have cJ : Tryz.prog.cellsOf 2 = 1 := by kernel_rfl
  obtain ⟨y0, y1, n, -, -, f0, f1⟩ := trod_struct2 Tryz.underlying56 h
  obtain ⟨u, u1, -, u3⟩ := DataW.trod_int Tryz.underlying3 f0
  obtain ⟨v, v1, -, v3⟩ := DataW.trod_int Tryz.underlying2 f1
  refine ⟨⟨u, v⟩, i6_wf u3, i6_wf v3, ?_, ?_⟩
  · have hd : (cs.drop 0).take (Tryz.prog.cellsOf 3) = [.int .i64 u] := u1
    rw [cI] at hd
    have h2 := congrArg (fun l => l[0]?) hd
    simpa [List.getElem?_take, List.getElem?_drop] using h2
  · have hd : (cs.drop 1).take (Tryz.prog.cellsOf 2) = [.int .i64 v] := v1
    rw [cJ] at hd
    have h2 := congrArg (fun l => l[0]?) hd
    simpa [List.getElem?_take, List.getElem?_drop] using h2
def Qw (W : World) (j : Nat) : Prop := j < W.heap.size
theorem code_cells {m : Nat} {cs : List Value} {y : DataW H × List MemPlace} (h : DataW.trod enc Tryz.prog W 0 (fun _ => true) true m 43 cs = some y) : ∃ v l, cs = [v] ∧ Il (Qw W) W v l ∧ NilOr v := by
  rcases DataW.trod_slice Tryz.underlying43 h with ⟨rfl, _⟩ | ⟨a, len, cap, elems, rest, n, _, rfl, hx, _, hl, hm, hlen, hel, _, _⟩
  · exact ⟨_, [], rfl, ⟨none, 0, rfl, Nat.le_refl _, Nat.zero_le _, fun h => absurd h (by simp)⟩, fun n c e => by injection e with _ e1 e2; exact ⟨e1.symm, e2.symm⟩⟩
  · have hc2 : Tryz.prog.cellsOf 56 = 2 := by kernel_rfl
    have spot0 : 0 < len → ∃ b off, a = ⟨b, off, none⟩ := fun hp => by
      have h1 := hel 0 hp
      rw [List.getElem?_eq_getElem (by omega), hc2, Option.bind_eq_some_iff] at h1
      obtain ⟨cs', hcs', ht'⟩ := h1
      obtain ⟨i, -, -, k0, -⟩ := ins_cells ht'
      obtain ⟨_, _, hcell⟩ := World.cells?_some hcs'
      have q0 := (hcell 0 (by omega)).trans k0
      obtain ⟨b, off, spot⟩ := a
      have hspot : spot = none := by simpa [Addr.add] using World.cell?_spot q0
      subst hspot
      exact ⟨b, off, rfl⟩
    have one : ∀ i, i < len → ∃ (k : Ins) (b off : Nat), a = ⟨b, off, none⟩ ∧ I6 k.op ∧ I6 k.a ∧ W.cell? ⟨b, off + i * 2, none⟩ = some (.int .i64 k.op) ∧ W.cell? ⟨b, off + i * 2 + 1, none⟩ = some (.int .i64 k.a) := fun i hi => by
      have h1 := hel i hi
      rw [List.getElem?_eq_getElem (by omega), hc2, Option.bind_eq_some_iff] at h1
      obtain ⟨cs', hcs', ht'⟩ := h1
      obtain ⟨x, i1, i2, k0, k1⟩ := ins_cells ht'
      obtain ⟨_, _, hcell⟩ := World.cells?_some hcs'
      have q0 := (hcell 0 (by omega)).trans k0
      have q1 := (hcell 1 (by omega)).trans k1
      obtain ⟨b, off, rfl⟩ := spot0 (by omega)
      rw [Go.WideShapes.add_plain, Go.WideShapes.add_plain] at q0 q1
      exact ⟨x, b, off, rfl, i1, i2, q0, q1⟩
    have all : ∀ k, k ≤ len → ∃ ks : List Ins, ks.length = k ∧ ∀ i (hi : i < ks.length), ∃ g o, a = ⟨g, o, none⟩ ∧ I6 ks[i].op ∧ I6 ks[i].a ∧ W.cell? ⟨g, o + i * 2, none⟩ = some (.int .i64 ks[i].op) ∧ W.cell? ⟨g, o + i * 2 + 1, none⟩ = some (.int .i64 ks[i].a) := by
      intro k
      induction k with
      | zero => exact fun _ => ⟨[], rfl, fun j hj => absurd hj (by simp)⟩
      | succ k ih =>
        intro hk
        obtain ⟨l, e1, e3⟩ := ih (by omega)
        obtain ⟨x, b, off, ha, i1, i2, c0, c1⟩ := one k (by omega)
        refine ⟨l ++ [x], by simp [e1], fun j hj => ?_⟩
        by_cases c : j < l.length
        · rw [List.getElem_append_left c]
          exact e3 j c
        · have hje : j = l.length := by simp at hj; omega
          subst hje
          rw [List.getElem_append_right (Nat.le_refl _)]
          simp only [Nat.sub_self, List.getElem_cons_zero]
          exact ⟨b, off, ha, i1, i2, by rw [e1]; exact c0, by rw [e1]; exact c1⟩
    obtain ⟨l, e1, e3⟩ := all len (Nat.le_refl _)
    subst e1
    refine ⟨_, l, rfl, ⟨some a, cap, rfl, hl, hm, fun h0 => ?_⟩, fun n c e => by injection e with e0; cases e0⟩
    obtain ⟨b, off, rfl⟩ := spot0 h0
    refine ⟨b, off, rfl, ?_, fun i hi => ?_⟩
    · obtain ⟨g, o, e, -, -, c0, -⟩ := e3 0 h0
      injection e with e4
      subst e4
      exact World.block_lt_of_cell? W _ c0
    · obtain ⟨g, o, e, i1, i2, c0, c1⟩ := e3 i hi
      injection e with e4 e5
      subst e4 e5
      exact ⟨i1, i2, c0, c1⟩
theorem rt_cells {m : Nat} {cs : List Value} {y : DataW H × List MemPlace} (h : DataW.trod enc Tryz.prog W 0 (fun _ => true) true m 45 cs = some y) : ∃ (r : Rt) (vc : Value), I6 r.pa ∧ I6 r.lo ∧ cs[0]? = some (.string r.name) ∧ cs[1]? = some (.int .i64 r.pa) ∧ cs[2]? = some (.int .i64 r.lo) ∧ cs[3]? = some vc ∧ Il (Qw W) W vc r.code ∧ NilOr vc ∧ r.name.size ≤ maxLen := by
  have cS : Tryz.prog.cellsOf 9 = 1 := by kernel_rfl
  have cI : Tryz.prog.cellsOf 3 = 1 := by kernel_rfl
  have cC : Tryz.prog.cellsOf 43 = 1 := by kernel_rfl
  obtain ⟨y0, y1, y2, y3, n, -, -, f0, f1, f2, f3⟩ := Joins.trod_struct4 Tryz.underlying45 h
  obtain ⟨s, s1, -, s3⟩ := DataW.trod_string Tryz.underlying9 f0
  obtain ⟨u, u1, -, u3⟩ := DataW.trod_int Tryz.underlying3 f1
  obtain ⟨v, v1, -, v3⟩ := DataW.trod_int Tryz.underlying3 f2
  obtain ⟨vc, l, c1, c2, c3⟩ := code_cells f3
  refine ⟨⟨s, u, v, l⟩, vc, i6_wf u3, i6_wf v3, ?_, ?_, ?_, ?_, c2, c3, s3⟩
  · have hd : (cs.drop 0).take (Tryz.prog.cellsOf 9) = [.string s] := s1
    rw [cS] at hd
    have h2 := congrArg (fun l => l[0]?) hd
    simpa [List.getElem?_take, List.getElem?_drop] using h2
  · have hd : (cs.drop 1).take (Tryz.prog.cellsOf 3) = [.int .i64 u] := u1
    rw [cI] at hd
    have h2 := congrArg (fun l => l[0]?) hd
    simpa [List.getElem?_take, List.getElem?_drop] using h2
  · have hd : (cs.drop 2).take (Tryz.prog.cellsOf 3) = [.int .i64 v] := v1
    rw [cI] at hd
    have h2 := congrArg (fun l => l[0]?) hd
    simpa [List.getElem?_take, List.getElem?_drop] using h2
  · have hd : (cs.drop 3).take (Tryz.prog.cellsOf 43) = [vc] := c1
    rw [cC] at hd
    have h2 := congrArg (fun l => l[0]?) hd
    simpa [List.getElem?_take, List.getElem?_drop] using h2
theorem rts_cells {m : Nat} {cs : List Value} {y : DataW H × List MemPlace} (h : DataW.trod enc Tryz.prog W 0 (fun _ => true) true m 25 cs = some y) (hw : ∀ n ∈ y.1.weights Tryz.prog 25, n ≤ reachBytes) : ∃ v l, cs = [v] ∧ Rts (Qw W) W v l ∧ NilOr v ∧ l.length * 56 ≤ 140737488351232 := by
  rcases DataW.trod_slice Tryz.underlying25 h with ⟨rfl, _⟩ | ⟨a, len, cap, elems, rest, n, _, rfl, hx, _, hl, hm, hlen, hel, _, _⟩
  · exact ⟨_, [], rfl, ⟨none, 0, rfl, Nat.le_refl _, Nat.zero_le _, fun h => absurd h (by simp)⟩, fun n c e => by injection e with _ e1 e2; exact ⟨e1.symm, e2.symm⟩, by simp⟩
  · have hc2 : Tryz.prog.cellsOf 45 = 4 := by kernel_rfl
    have hsz : len * 56 ≤ 140737488351232 := by
      have hb : Tryz.prog.bytesOf 45 = 56 := by kernel_rfl
      have := hw ((elems.length + rest.length) * 56) (by
        rw [hx]
        unfold DataW.weights
        rw [Tryz.underlying25]
        dsimp only
        rw [hb, List.length_map, List.length_map]
        exact List.mem_cons_self)
      unfold reachBytes at this
      omega
    have spot0 : 0 < len → ∃ b off, a = ⟨b, off, none⟩ := fun hp => by
      have h1 := hel 0 hp
      rw [List.getElem?_eq_getElem (by omega), hc2, Option.bind_eq_some_iff] at h1
      obtain ⟨cs', hcs', ht'⟩ := h1
      obtain ⟨i, vc, -, -, k0, -⟩ := rt_cells ht'
      obtain ⟨_, _, hcell⟩ := World.cells?_some hcs'
      have q0 := (hcell 0 (by omega)).trans k0
      obtain ⟨b, off, spot⟩ := a
      have hspot : spot = none := by simpa [Addr.add] using World.cell?_spot q0
      subst hspot
      exact ⟨b, off, rfl⟩
    have one : ∀ i, i < len → ∃ (k : Rt) (b off : Nat), a = ⟨b, off, none⟩ ∧ I6 k.pa ∧ I6 k.lo ∧ ∃ vc, W.cell? ⟨b, off + i * 4, none⟩ = some (.string k.name) ∧ W.cell? ⟨b, off + i * 4 + 1, none⟩ = some (.int .i64 k.pa) ∧ W.cell? ⟨b, off + i * 4 + 2, none⟩ = some (.int .i64 k.lo) ∧ W.cell? ⟨b, off + i * 4 + 3, none⟩ = some vc ∧ Il (Qw W) W vc k.code := fun i hi => by
      have h1 := hel i hi
      rw [List.getElem?_eq_getElem (by omega), hc2, Option.bind_eq_some_iff] at h1
      obtain ⟨cs', hcs', ht'⟩ := h1
      obtain ⟨x, vc, i1, i2, k0, k1, k2, k3, hil, -⟩ := rt_cells ht'
      obtain ⟨_, _, hcell⟩ := World.cells?_some hcs'
      have q0 := (hcell 0 (by omega)).trans k0
      have q1 := (hcell 1 (by omega)).trans k1
      have q2 := (hcell 2 (by omega)).trans k2
      have q3 := (hcell 3 (by omega)).trans k3
      obtain ⟨b, off, rfl⟩ := spot0 (by omega)
      rw [Go.WideShapes.add_plain, Go.WideShapes.add_plain] at q0 q1 q2 q3
      exact ⟨x, b, off, rfl, i1, i2, vc, q0, q1, q2, q3, hil⟩
    have all : ∀ k, k ≤ len → ∃ ks : List Rt, ks.length = k ∧ ∀ i (hi : i < ks.length), ∃ g o, a = ⟨g, o, none⟩ ∧ I6 ks[i].pa ∧ I6 ks[i].lo ∧ ∃ vc, W.cell? ⟨g, o + i * 4, none⟩ = some (.string ks[i].name) ∧ W.cell? ⟨g, o + i * 4 + 1, none⟩ = some (.int .i64 ks[i].pa) ∧ W.cell? ⟨g, o + i * 4 + 2, none⟩ = some (.int .i64 ks[i].lo) ∧ W.cell? ⟨g, o + i * 4 + 3, none⟩ = some vc ∧ Il (Qw W) W vc ks[i].code := by
      intro k
      induction k with
      | zero => exact fun _ => ⟨[], rfl, fun j hj => absurd hj (by simp)⟩
      | succ k ih =>
        intro hk
        obtain ⟨l, e1, e3⟩ := ih (by omega)
        obtain ⟨x, b, off, ha, i1, i2, vc, c0, c1, c2, c3, hil⟩ := one k (by omega)
        refine ⟨l ++ [x], by simp [e1], fun j hj => ?_⟩
        by_cases c : j < l.length
        · rw [List.getElem_append_left c]
          exact e3 j c
        · have hje : j = l.length := by simp at hj; omega
          subst hje
          rw [List.getElem_append_right (Nat.le_refl _)]
          simp only [Nat.sub_self, List.getElem_cons_zero]
          exact ⟨b, off, ha, i1, i2, vc, by rw [e1]; exact c0, by rw [e1]; exact c1, by rw [e1]; exact c2, by rw [e1]; exact c3, hil⟩
    obtain ⟨l, e1, e3⟩ := all len (Nat.le_refl _)
    subst e1
    refine ⟨_, l, rfl, ⟨some a, cap, rfl, hl, hm, fun h0 => ?_⟩, (fun n c e => by injection e with e0; cases e0), hsz⟩
    obtain ⟨b, off, rfl⟩ := spot0 h0
    refine ⟨b, off, rfl, ?_, fun i hi => ?_⟩
    · obtain ⟨g, o, e, -, -, vc, c0, -⟩ := e3 0 h0
      injection e with e4
      subst e4
      exact World.block_lt_of_cell? W _ c0
    · obtain ⟨g, o, e, i1, i2, vc, c0⟩ := e3 i hi
      injection e with e4 e5
      subst e4 e5
      exact ⟨i1, i2, vc, c0⟩
end
end Go.Proofs.YtpolajoephjdhaaGreatDoor
