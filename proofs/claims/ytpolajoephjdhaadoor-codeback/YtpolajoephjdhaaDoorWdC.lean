/-
  A copy of a list of routines.
-/
import Derived.Test.YtpolajoephjdhaaDoorWdA
namespace Go.Proofs.YtpolajoephjdhaaDoor
open Go.RowKit
set_option maxRecDepth 100000
/-- nil, or at a place. -/
def NilOr (v : Value) : Prop := ∀ n c, v = .slice none n c → n = 0 ∧ c = 0
theorem add_all (g o j : Nat) : (⟨g, o, none⟩ : Addr).add j = ⟨g, o + j, none⟩ := by simp [Addr.add]
theorem run_append_rts {Q : Nat → Prop} {w : World} (base : Nat) (ty : TypeId) (v : Value) (hown : w.ownsRow base 30 4 v 0 []) (vx : Value) (fs : List Rt) (hr : Rts Q w vx fs) (hnil : NilOr vx) (hb : fs.length * 56 ≤ 140737488355328) (hbase : base ≤ w.heap.size) :
    ∃ v' w' lf, (Builtin.append_ #[24, 24] ty #[v, vx]).run Tryd.prog w = .ok v' w' ∧ lf.map Prod.fst = fs ∧ RtsV Q w lf ∧ w'.ownsRow base 30 4 v' lf.length (rtsC lf) ∧ w.grownBy w' v.ownBlock := by
  obtain ⟨ic, hi, hz0, hz1, hz2⟩ := info_parts infoR
  obtain ⟨lf, e1, e2, ao, c, rfl, h1, h2, h3⟩ := hr.rows
  have hl : fs.length = lf.length := by rw [← e1, List.length_map]
  cases ao with
  | none =>
    obtain ⟨h4, rfl⟩ := hnil _ _ rfl
    rw [h4]
    have : lf = [] := List.length_eq_zero_iff.1 (by omega)
    subst this
    exact ⟨v, w, [], run_append_owned_none (P := Tryd.prog) (w := w) base 24 ty 30 ic 4 Tryd.underlying24 hi v 0 [] hown, e1, e2, hown, World.grownBy.refl _ _⟩
  | some ad =>
    have cells : ∀ j u, (rtsC lf)[j]? = some u → w.cell? (ad.add j) = some u := by
      intro j u hj
      have hj2 := (List.getElem?_eq_some_iff.1 hj).1
      rw [rtsC_len] at hj2
      obtain ⟨g, o, e, -, h4⟩ := h3 (by omega)
      obtain rfl := Option.some.inj e
      rw [add_all]
      exact h4 j u hj
    obtain ⟨v', w', hr, a2, a3, -⟩ := run_append_own (P := Tryd.prog) w base 24 ty 30 ic (.agg #[.string ByteArray.empty, .int .i64 0, .int .i64 0, .slice none 0 0]) 4 56 Tryd.underlying24 hi hz0 hz1 hz2 rfl (by decide) v 0 [] hown ad fs.length c (rtsC lf) (by rw [rtsC_len]; omega) cells (rtsC_one lf e2) (by unfold maxLen; omega) (by omega) hbase
    rw [Nat.zero_add, List.nil_append, hl] at a2
    exact ⟨v', w', lf, hr, e1, e2, a2, a3⟩
theorem wp_append_rts {Q : Nat → Prop} {w : World} {o : Oper} {a : Act} {K : Act → World → Prop} {R : Exit → Act → World → Prop} (s x : Operand) (ho : o.op = .call { callee := .builtin .append, args := #[s, x], argTypes := #[24, 24] })
    (base : Nat) (v : Value) (hs : a.eval s = v) (hown : w.ownsRow base 30 4 v 0 []) (vx : Value) (hx : a.eval x = vx) (fs : List Rt) (hr : Rts Q w vx fs) (hnil : NilOr vx) (hb : fs.length * 56 ≤ 140737488355328) (hbase : base ≤ w.heap.size)
    (h : ∀ v' w' lf, lf.map Prod.fst = fs → RtsV Q w lf → w'.ownsRow base 30 4 v' lf.length (rtsC lf) → w.grownBy w' v.ownBlock → K (a.put o.dst v') w') : o.wp Tryd.prog a w K R := by
  obtain ⟨v', w', lf, hrun, h2, h3, h4, h5⟩ := run_append_rts (w := w) base o.type v hown vx fs hr hnil hb hbase
  unfold Oper.wp execOp
  simp only [ho, resolve, invoke, builtin, Sem.run_bind, Sem.run_pure, Result.andThen_ok, List.map_toArray, List.map_cons, List.map_nil, hs, hx, hrun]
  exact h v' w' lf h2 h3 h4 h5
theorem wpList_append_rts {Q : Nat → Prop} {w : World} {ops : Array Oper} {rest : List Oper} {o : Oper} {a : Act} {R : Exit → Act → World → Prop} (hgd : o.guard = none) (s x : Operand) (ho : o.op = .call { callee := .builtin .append, args := #[s, x], argTypes := #[24, 24] })
    (base : Nat) (v : Value) (hs : a.eval s = v) (hown : w.ownsRow base 30 4 v 0 []) (vx : Value) (hx : a.eval x = vx) (fs : List Rt) (hr : Rts Q w vx fs) (hnil : NilOr vx) (hb : fs.length * 56 ≤ 140737488355328) (hbase : base ≤ w.heap.size)
    (h : ∀ v' w' lf, lf.map Prod.fst = fs → RtsV Q w lf → w'.ownsRow base 30 4 v' lf.length (rtsC lf) → w.grownBy w' v.ownBlock → wpList Tryd.prog ops R rest (a.put o.dst v') w') : wpList Tryd.prog ops R (o :: rest) a w :=
  wpList_plain hgd fun _ hK => wp_append_rts s x ho base v hs hown vx hx fs hr hnil hb hbase fun v' w' lf h2 h3 h4 h5 => hK _ _ (h v' w' lf h2 h3 h4 h5)
theorem step_append_rts {Q : Nat → Prop} {w : World} {ops : Array Oper} {o : Oper} {a : Act} {K : Act → World → Prop} {R : Exit → Act → World → Prop} {E : Prop} (hgd : o.guard = none) (s x : Operand) (ho : o.op = .call { callee := .builtin .append, args := #[s, x], argTypes := #[24, 24] })
    (base : Nat) (v : Value) (hs : a.eval s = v) (hown : w.ownsRow base 30 4 v 0 []) (vx : Value) (hx : a.eval x = vx) (fs : List Rt) (hr : Rts Q w vx fs) (hnil : NilOr vx) (hb : fs.length * 56 ≤ 140737488355328) (hbase : base ≤ w.heap.size)
    (h : ∀ v' w' lf, lf.map Prod.fst = fs → RtsV Q w lf → w'.ownsRow base 30 4 v' lf.length (rtsC lf) → w.grownBy w' v.ownBlock → K (a.put o.dst v') w') :
    if Region.wanted o (yielded ops a.tmps) = true then Oper.wp Tryd.prog o a w K R else E := by
  have hw : Region.wanted o (yielded ops a.tmps) = true := by simp [Region.wanted, hgd]
  rw [if_pos hw]
  exact wp_append_rts s x ho base v hs hown vx hx fs hr hnil hb hbase h
theorem own_lit (w : World) : (w.alloc (.cells #[] 30)).ownsRow w.heap.size 30 4 (.slice (some ⟨w.heap.size, 0, none⟩) 0 0) 0 [] :=
  ⟨rfl, .inr ⟨w.heap.size, 0, #[], rfl, Nat.le_refl _, heap_alloc_new w _, Nat.le_refl _, Nat.zero_le _, rfl, rfl⟩⟩
end Go.Proofs.YtpolajoephjdhaaDoor
