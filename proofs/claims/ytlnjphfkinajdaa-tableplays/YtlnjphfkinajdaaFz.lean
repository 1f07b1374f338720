/-
  Numbers that are read and appended; the law's same.
-/
import Derived.Test.YtlnjphfkinajdaaDt
namespace Go.Proofs.Ytlnjphfkinajdaa
open Go.RowKit
/-- Numbers that are read, wherever in a block they begin. -/
def Fz (w : World) (v : Value) (l : List Int) : Prop :=
  (v = .slice none 0 0 ∧ l = []) ∨ (l = [] ∧ ∃ a c, v = .slice (some a) 0 c ∧ c ≤ maxLen) ∨ ∃ g o c, v = .slice (some ⟨g, o, none⟩) l.length c ∧ l.length ≤ c ∧ c ≤ maxLen ∧ g < w.heap.size ∧ ∀ j (hj : j < l.length), w.cell? ⟨g, o + j, none⟩ = some (.int .i64 l[j])
section
variable {w w' : World} {v : Value} {l : List Int}
theorem Fz.nil (w : World) : Fz w (.slice none 0 0) [] := .inl ⟨rfl, rfl⟩
theorem Fz.lt (h : Fz w v l) (h0 : 0 < l.length) : ∀ k, v.ownBlock = some k → k < w.heap.size := fun k e => by
  rcases h with ⟨rfl, rfl⟩ | ⟨rfl, _⟩ | ⟨g, o, c, rfl, -, -, hg, -⟩
  · simp at h0
  · simp at h0
  · simp only [Value.ownBlock, Option.some.injEq] at e
    omega
theorem Fz.same (h : Fz w v l) (hsz : w.heap.size ≤ w'.heap.size) (hs : 0 < l.length → ∀ k, v.ownBlock = some k → w'.heap[k]? = w.heap[k]?) : Fz w' v l := by
  rcases h with ⟨rfl, rfl⟩ | h2 | ⟨g, o, c, rfl, h1, h2, hg, h3⟩
  · exact .inl ⟨rfl, rfl⟩
  · exact .inr (.inl h2)
  · exact .inr (.inr ⟨g, o, c, rfl, h1, h2, by omega, fun j hj => (World.cell?_of_block (hs (by omega) g rfl)).trans (h3 j hj)⟩)
theorem Fz.later (h : Fz w v l) (hb : Below w.heap.size w w') : Fz w' v l := h.same hb.size (fun h0 k e => hb.block k (h.lt h0 k e))
theorem Fz.frame {S : Nat → Prop} (h : Fz w v l) (hm : Mv w w' S) (hs : 0 < l.length → ∀ k, v.ownBlock = some k → ¬ S k) : Fz w' v l := h.same hm.size (fun h0 k e => hm.2.2.2.2 k (h.lt h0 k e) (hs h0 k e))
theorem Fz.iz (h : Fz w v l) : Iz w v l := by
  rcases h with ⟨rfl, rfl⟩ | ⟨rfl, a, c, rfl, h2⟩ | ⟨g, o, c, rfl, h1, h2, hg, h3⟩
  · exact ⟨none, 0, rfl, Nat.le_refl _, Nat.zero_le _, fun j hj => by simp at hj⟩
  · exact ⟨some a, c, rfl, Nat.zero_le _, h2, fun j hj => by simp at hj⟩
  · exact ⟨_, c, rfl, h1, h2, fun j hj => ⟨g, o, rfl, h3 j hj⟩⟩
theorem own_fz {B n : Nat} (h : w.ownsRow B 2 1 v n (zc l)) : Fz w v l := by
  have hl := h.1
  rw [zc_len] at hl
  obtain rfl : l.length = n := by omega
  rcases h.2 with ⟨rfl, h0⟩ | ⟨g, c, cur, rfl, -, hg, h1, h2, -⟩
  · exact .inl ⟨rfl, List.eq_nil_of_length_eq_zero h0⟩
  · exact .inr (.inr ⟨g, 0, c, rfl, h1, h2, lt_of_block hg, fun j hj => by rw [Nat.zero_add]; exact own_num h j hj⟩)
theorem Iz.on {w w' : World} {v : Value} {l : List Int} (h : Iz w v l) (hb : Below w.heap.size w w') : Iz w' v l := by
  obtain ⟨ao, c, rfl, h1, h2, h3⟩ := h
  refine ⟨ao, c, rfl, h1, h2, fun j hj => ?_⟩
  obtain ⟨g, o, rfl, hc⟩ := h3 j hj
  exact ⟨g, o, rfl, (hb.cell (p := ⟨g, o + j, none⟩) (World.block_lt_of_cell? w _ hc)).trans hc⟩
end
/-- append of such numbers onto a row of one's own. -/
theorem run_append_fz {w : World} (base : Nat) (ty : TypeId) {v vb : Value} {xs l : List Int} (h : w.ownsRow base 2 1 v xs.length (zc xs)) (hb : Fz w vb l) (hl : xs.length + l.length ≤ 2000000) (hbase : base ≤ w.heap.size) :
    ∃ v' w', (Builtin.append_ #[27, 27] ty #[v, vb]).run Try.prog w = .ok v' w' ∧ w'.ownsRow base 2 1 v' (xs ++ l).length (zc (xs ++ l)) ∧ w.grownBy w' v.ownBlock ∧ (v'.ownBlock = v.ownBlock ∨ v'.ownBlock = some w.heap.size) := by
  obtain ⟨i, hi, hz0, hz1, hz2⟩ := info_parts info2
  rcases hb with ⟨rfl, rfl⟩ | ⟨rfl, a, c, rfl, h2⟩ | ⟨g, o, c, rfl, h1, h2, hg, h3⟩
  · refine ⟨v, w, run_append_owned_none w base 27 ty 2 i 1 Try.underlying27 hi v xs.length _ h, ?_, ⟨rfl, rfl, rfl, Nat.le_refl _, fun _ _ _ => rfl⟩, .inl rfl⟩
    simpa using h
  · obtain ⟨v', w', hr, q2, q3, _, q5⟩ := run_append_own_at (P := Try.prog) w base 27 ty 2 i (.int .i64 0) 1 8 Try.underlying27 hi hz0 hz1 hz2 rfl (by decide) v xs.length _ h a 0 c [] rfl (fun j u hj => by simp at hj) (fun u hu => by cases hu) (by unfold maxLen; omega) (by omega) hbase
    refine ⟨v', w', hr, ?_, q3, q5⟩
    simpa using q2
  · obtain ⟨v', w', hr, q2, q3, _, q5⟩ := run_append_own_at (P := Try.prog) w base 27 ty 2 i (.int .i64 0) 1 8 Try.underlying27 hi hz0 hz1 hz2 rfl (by decide) v xs.length _ h ⟨g, o, none⟩ l.length c (zc l) (by rw [zc_len]; omega) (fun j u hj => by
      have hjl : j < l.length := by rw [← zc_len]; exact (List.getElem?_eq_some_iff.1 hj).1
      rw [zc_at l j hjl] at hj
      rw [WideShapes.add_plain, h3 j hjl, hj]) (zc_one l) (by unfold maxLen; omega) (by omega) hbase
    refine ⟨v', w', hr, ?_, q3, q5⟩
    rw [List.length_append, zc_append]
    exact q2
theorem wpList_append_fz (w : World) {ops : Array Oper} {rest : List Oper} {o : Oper} {a : Act} {Q : Exit → Act → World → Prop} (hgd : o.guard = none) (s x : Operand)
    (ho : o.op = .call { callee := .builtin .append, args := #[s, x], argTypes := #[27, 27] })
    (base : Nat) (v vb : Value) (xs l : List Int) (hs : a.eval s = v) (hown : w.ownsRow base 2 1 v xs.length (zc xs)) (hx : a.eval x = vb) (hb : Fz w vb l) (hl : xs.length + l.length ≤ 2000000) (hbase : base ≤ w.heap.size)
    (h : ∀ v' w', w'.ownsRow base 2 1 v' (xs ++ l).length (zc (xs ++ l)) → w.grownBy w' v.ownBlock → (v'.ownBlock = v.ownBlock ∨ v'.ownBlock = some w.heap.size) → wpList Try.prog ops Q rest (a.put o.dst v') w') : wpList Try.prog ops Q (o :: rest) a w :=
  wpList_plain hgd fun _ hK => by
    obtain ⟨v', w', hr, h2, h3, h4⟩ := run_append_fz base o.type hown hb hl hbase
    unfold Oper.wp execOp
    simp only [ho, resolve, invoke, builtin, Sem.run_bind, Sem.run_pure, Result.andThen_ok, List.map_toArray, List.map_cons, List.map_nil, hs, hx, hr]
    exact hK _ _ (h v' w' h2 h3 h4)
theorem step_append_fz (w : World) {ops : Array Oper} {o : Oper} {a : Act} {K : Act → World → Prop} {Q : Exit → Act → World → Prop} {E : Prop} (hgd : o.guard = none) (s x : Operand)
    (ho : o.op = .call { callee := .builtin .append, args := #[s, x], argTypes := #[27, 27] })
    (base : Nat) (v vb : Value) (xs l : List Int) (hs : a.eval s = v) (hown : w.ownsRow base 2 1 v xs.length (zc xs)) (hx : a.eval x = vb) (hb : Fz w vb l) (hl : xs.length + l.length ≤ 2000000) (hbase : base ≤ w.heap.size)
    (h : ∀ v' w', w'.ownsRow base 2 1 v' (xs ++ l).length (zc (xs ++ l)) → w.grownBy w' v.ownBlock → (v'.ownBlock = v.ownBlock ∨ v'.ownBlock = some w.heap.size) → K (a.put o.dst v') w') :
    if Region.wanted o (yielded ops a.tmps) = true then Oper.wp Try.prog o a w K Q else E := by
  have hw : Region.wanted o (yielded ops a.tmps) = true := by simp [Region.wanted, hgd]
  rw [if_pos hw]
  obtain ⟨v', w', hr, h2, h3, h4⟩ := run_append_fz base o.type hown hb hl hbase
  unfold Oper.wp execOp
  simp only [ho, resolve, invoke, builtin, Sem.run_bind, Sem.run_pure, Result.andThen_ok, List.map_toArray, List.map_cons, List.map_nil, hs, hx, hr]
  exact h v' w' h2 h3 h4
set_option maxHeartbeats 1000000 in
theorem same_is (va vb : Value) (l : List Int) (w : World) (ha : Iz w va l) (hb : Iz w vb l) :
    Calls Try.prog 41 #[va, vb] w fun e w' => e = .returned (.bool true) ∧ Below w.heap.size w w' := by
  have HA := hide ha
  have HB := hide hb
  obtain ⟨ao, c, rfl, h1, h2, -⟩ := ha
  obtain ⟨ao', c', rfl, h1', h2', -⟩ := hb
  have hm : l.length ≤ maxLen := by omega
  unfold maxLen at hm
  go_enter Try.func41, Try.ntmps41
  go_wp2_with fail
  go_loopw [5] (fun v5 wr => ∃ i : Nat, i ≤ l.length ∧ v5 = .int .i64 (i : Int) ∧ Hid (Below w.heap.size w wr)) (fun v5 _ => l.length - (intOf v5).toNat)
  case atStart => exact ⟨0, Nat.zero_le _, rfl, Below.refl _ _⟩
  case round =>
    obtain ⟨i, hil, rfl, HW⟩ := hrel
    by_cases hlt : i < l.length
    · have t1 : (i : Int) < (l.length : Int) := by omega
      obtain ⟨_, _, e, -, -, h3⟩ := HA.out.on HW.out
      simp only [Value.slice.injEq] at e
      obtain ⟨rfl, -, rfl⟩ := e
      obtain ⟨g, o, rfl, c1⟩ := h3 i hlt
      obtain ⟨_, _, e, -, -, h4⟩ := HB.out.on HW.out
      simp only [Value.slice.injEq] at e
      obtain ⟨rfl, -, rfl⟩ := e
      obtain ⟨g', o', rfl, c2⟩ := h4 i hlt
      generalize l[i] = x at *
      clear h3 h4
      go_upto_region 6 with fail
      go_region_held3 (fun W => W.cell? ⟨g, o + i, none⟩ = some (.int .i64 x) ∧ W.cell? ⟨g', o' + i, none⟩ = some (.int .i64 x)) (go_keep) (fail)
      go_wp2_with fail
      go_roundw
      case rel => exact ⟨i + 1, by omega, by go_num, below_on HW.out (below_drew _)⟩
      case measure => simp [intOf]; omega
    · have t1 : ¬ (i : Int) < (l.length : Int) := by omega
      go_wp2_with fail
      go_ret
      exact ⟨rfl, HW.out⟩
end Go.Proofs.Ytlnjphfkinajdaa
