/-
  A row of entities that an owner grows and cuts.
-/
import Derived.Test.YtejbdhbphbgckaaBase
namespace Go.Proofs.Ytejbdhbphbgckaa
open Go.RowKit
/-- Entities from a block's first cell on; the block may be longer than the row's capacity. -/
def Ew (w : World) (v : Value) (l : List (Nat × Nat)) : Prop :=
  (v = .slice none 0 0 ∧ l = []) ∨ ∃ g cap cur, v = .slice (some ⟨g, 0, none⟩) l.length cap ∧ w.heap[g]? = some (.cells cur 41 (0, 0)) ∧ l.length ≤ cap ∧ cap ≤ maxLen ∧ cap * 2 ≤ cur.size ∧ cur.toList.take (l.length * 2) = ec l
theorem Ew.nil (w : World) : Ew w (.slice none 0 0) [] := .inl ⟨rfl, rfl⟩
theorem own_ew {w : World} {B : Nat} {v : Value} {l : List (Nat × Nat)} (h : w.ownsRow B 41 2 v l.length (ec l)) : Ew w v l := by
  rcases h.2 with ⟨rfl, h0⟩ | ⟨g, cap, cur, rfl, -, hg, h1, h2, h3, h4⟩
  · exact .inl ⟨rfl, List.eq_nil_of_length_eq_zero h0⟩
  · exact .inr ⟨g, cap, cur, rfl, hg, h1, h2, by omega, h4⟩
section
variable {w w' : World} {v : Value} {l : List (Nat × Nat)}
theorem Ew.len (h : Ew w v l) : ∃ ao c, v = .slice ao l.length c ∧ l.length ≤ c ∧ c ≤ 9223372036854775807 := by
  rcases h with ⟨rfl, rfl⟩ | ⟨g, cap, cur, rfl, -, h1, h2, -⟩
  · exact ⟨none, 0, rfl, Nat.zero_le _, by omega⟩
  · exact ⟨_, cap, rfl, h1, by unfold maxLen at h2; omega⟩
theorem Ew.lt (h : Ew w v l) : ∀ k, v.ownBlock = some k → k < w.heap.size := fun k e => by
  rcases h with ⟨rfl, rfl⟩ | ⟨g, cap, cur, rfl, hg, -⟩
  · simp [Value.ownBlock] at e
  · simp only [Value.ownBlock, Option.some.injEq] at e
    subst e
    exact lt_of_block hg
theorem Ew.same (h : Ew w v l) (hs : ∀ k, v.ownBlock = some k → w'.heap[k]? = w.heap[k]?) : Ew w' v l := by
  rcases h with ⟨rfl, rfl⟩ | ⟨g, cap, cur, rfl, hg, hr⟩
  · exact .inl ⟨rfl, rfl⟩
  · exact .inr ⟨g, cap, cur, rfl, (hs g rfl).trans hg, hr⟩
theorem Ew.later (h : Ew w v l) (hb : Below w.heap.size w w') : Ew w' v l := h.same (fun k e => hb.block k (h.lt k e))
theorem Ew.form (h : Ew w v l) (h0 : 0 < l.length) : ∃ g c, v = .slice (some ⟨g, 0, none⟩) l.length c ∧ l.length ≤ c ∧ c ≤ 9223372036854775807 := by
  rcases h with ⟨rfl, rfl⟩ | ⟨g, cap, cur, rfl, -, h1, h2, -⟩
  · simp at h0
  · exact ⟨g, cap, rfl, h1, by unfold maxLen at h2; omega⟩
theorem Ew.cells {g n c : Nat} (h : Ew w (.slice (some ⟨g, 0, none⟩) n c) l) (j : Nat) (u : Value) (hj : (ec l)[j]? = some u) : w.cell? ⟨g, j, none⟩ = some u := by
  rcases h with ⟨h', -⟩ | ⟨g', cap, cur, h', hg, h1, h2, h3, h4⟩
  · simp at h'
  · simp only [Value.slice.injEq, Option.some.injEq, Addr.mk.injEq, and_true] at h'
    obtain ⟨rfl, -, rfl⟩ := h'
    rw [cell_of_row w g j cur 41 (0, 0) hg]
    rw [← h4, List.getElem?_take] at hj
    split at hj
    · simpa using hj
    · cases hj
theorem Ew.at {g n c : Nat} (h : Ew w (.slice (some ⟨g, 0, none⟩) n c) l) (i : Nat) (hi : i < l.length) : w.cell? ⟨g, i * 2, none⟩ = some (.int .i64 (l[i].1 : Int)) ∧ w.cell? ⟨g, i * 2 + 1, none⟩ = some (.int .i64 (l[i].2 : Int)) :=
  ⟨h.cells _ _ (ec_at l i hi).1, h.cells _ _ (ec_at l i hi).2⟩
theorem Ew.cut {g n c k : Nat} (h : Ew w (.slice (some ⟨g, 0, none⟩) n c) l) (hk : k ≤ l.length) : Ew w (.slice (some ⟨g, 0, none⟩) k k) (l.take k) := by
  rcases h with ⟨h', -⟩ | ⟨g', cap, cur, h', hg, h1, h2, h3, h4⟩
  · simp at h'
  · simp only [Value.slice.injEq, Option.some.injEq, Addr.mk.injEq, and_true] at h'
    obtain ⟨rfl, -, rfl⟩ := h'
    have e : (l.take k).length = k := by simp; omega
    refine .inr ⟨g, k, cur, by rw [e], hg, by omega, by omega, by omega, ?_⟩
    have hk2 : k * 2 ≤ l.length * 2 := by omega
    rw [e, show cur.toList.take (k * 2) = (cur.toList.take (l.length * 2)).take (k * 2) by rw [List.take_take, Nat.min_eq_left hk2], h4]
    conv => lhs; rw [← List.take_append_drop k l, ec_append]
    rw [List.take_append_of_le_length (by rw [ec_len, e]; omega), List.take_of_length_le (by rw [ec_len, e]; omega)]
end
/-- append of entities. -/
theorem run_append_ew {w : World} (ty : TypeId) {v : Value} {l q : List (Nat × Nat)} (h : Ew w v l) (a : Addr) (m c : Nat) (hq : q.length = m) (hnews : ∀ j u, (ec q)[j]? = some u → w.cell? (a.add j) = some u) (hl : l.length + m ≤ 1000000) :
    ∃ v' w', (Builtin.append_ #[47, 47] ty #[v, .slice (some a) m c]).run Try.prog w = .ok v' w' ∧ Ew w' v' (l ++ q) ∧ w.grownBy w' v.ownBlock ∧ (v'.ownBlock = v.ownBlock ∨ v'.ownBlock = some w.heap.size) := by
  obtain ⟨i, hi, hz0, hz1, hz2⟩ := info_parts info41
  have hnl : (ec q).length = m * i.size := by rw [ec_len, hq, hz1]
  have hel : ∀ j u, (ec l)[j]? = some u → ∀ g n' c', v = .slice (some ⟨g, 0, none⟩) n' c' → w.cell? ((⟨g, 0, none⟩ : Addr).add j) = some u := fun j u hj g n' c' e => by
    subst e
    rw [WideShapes.add_plain, Nat.zero_add]
    exact h.cells j u hj
  have grown : ∀ (old : Nat), ∀ (row : Option Nat),
      Ew (w.drew.alloc (.cells ((ec l).toArray ++ (ec q).toArray ++ Builtin.zeroCells (Value.agg #[.int .i64 0, .int .i64 0]).cells (grownCap w (l.length + m) old 41 - (l.length + m))) 41))
        (.slice (some ⟨w.heap.size, 0, none⟩) (l.length + m) (grownCap w (l.length + m) old 41)) (l ++ q) ∧
      w.grownBy (w.drew.alloc (.cells ((ec l).toArray ++ (ec q).toArray ++ Builtin.zeroCells (Value.agg #[.int .i64 0, .int .i64 0]).cells (grownCap w (l.length + m) old 41 - (l.length + m))) 41)) row := by
    intro old row
    have hge := grownCap_ge w (l.length + m) old 41
    have hcm : grownCap w (l.length + m) old 41 ≤ maxLen := grownCap_le_maxLen w (l.length + m) old 41 (by unfold maxLen; omega)
    have e : (l ++ q).length = l.length + m := by rw [List.length_append, hq]
    refine ⟨.inr ⟨w.heap.size, _, _, by rw [e], heap_alloc_new w.drew _, by rw [e]; exact hge, hcm, ?_, ?_⟩, ⟨rfl, rfl, rfl, by simp, fun k hk _ => heap_alloc_old w.drew _ hk⟩⟩
    · simp only [Array.size_append, List.size_toArray, size_zeroCells, ec_len, hq, Value.cells, List.length_cons, List.length_nil]
      omega
    · simp only [Array.toList_append]
      rw [← ec_append, List.take_append_of_le_length (by rw [ec_len]; omega), List.take_of_length_le (by rw [ec_len]; omega)]
  rcases h with ⟨rfl, rfl⟩ | ⟨g, cap, cur, rfl, hg, h1, h2, h3, h4⟩
  · by_cases hm : m = 0
    · subst hm
      obtain rfl : q = [] := List.eq_nil_of_length_eq_zero hq
      refine ⟨.slice none 0 0, w, ?_, Ew.nil w, ⟨rfl, rfl, rfl, Nat.le_refl _, fun _ _ _ => rfl⟩, .inl rfl⟩
      simp [Builtin.append_, run_underlying Try.underlying47, sizeOf, typeInfo, hi, Builtin.lenOf, Builtin.firstCells, loadCells, loadCellsFrom]
    · have hr := run_append_nil (P := Try.prog) w 47 ty 41 i _ Try.underlying47 hi hz0 a m c (ec q) hnl hnews (by omega) (by simp at hl; omega) (by rw [hz2]; simp at hl; omega)
      have hgr := grown 0 (Value.ownBlock (.slice none 0 0))
      simp only [List.length_nil, Nat.zero_add, List.nil_append, ec, Array.empty_append] at hgr ⊢
      exact ⟨_, _, hr, hgr.1, hgr.2, .inr rfl⟩
  · by_cases hroom : l.length + m ≤ cap
    · have hfit : l.length * i.size + (ec q).length ≤ cur.size := by rw [hz1, ec_len]; omega
      have hr := run_append_room (P := Try.prog) w 47 ty 41 i Try.underlying47 hi g l.length cap cur hg a m c (ec q) hnl hnews (ec_one q) hroom hfit
      have e : (l ++ q).length = l.length + m := by rw [List.length_append, hq]
      refine ⟨_, _, hr, .inr ⟨g, cap, _, by rw [e], setRow_heap w g cur _ 41 _ hg, by omega, h2, ?_, ?_⟩, ⟨rfl, rfl, rfl, by simp, fun k _ hk => setRow_other w g k _ (fun e => hk (by simp [Value.ownBlock, e]))⟩, .inl rfl⟩
      · simp only [List.size_toArray, List.length_append, List.length_take, List.length_drop, Array.length_toList, hz1, ec_len]
        omega
      · rw [hz1, h4, e, ← ec_append, List.toList_toArray, List.take_append_of_le_length (by rw [ec_len]; omega), List.take_of_length_le (by rw [ec_len]; omega)]
    · have hr := run_append_grow (P := Try.prog) w 47 ty 41 i _ Try.underlying47 hi hz0 ⟨g, 0, none⟩ l.length cap (ec l) (by rw [ec_len, hz1]) (fun j u hj => hel j u hj g _ _ rfl) a m c (ec q) hnl hnews (by omega) (by omega) (growslice_fits (by omega) (by rw [hz2]; omega))
      have hgr := grown cap (Value.ownBlock (.slice (some ⟨g, 0, none⟩) l.length cap))
      exact ⟨_, _, hr, hgr.1, hgr.2, .inr rfl⟩
theorem wpList_append_ew (w : World) {ops : Array Oper} {rest : List Oper} {o : Oper} {a : Act} {Q : Exit → Act → World → Prop} (hgd : o.guard = none) (s x : Operand)
    (ho : o.op = .call { callee := .builtin .append, args := #[s, x], argTypes := #[47, 47] })
    (v : Value) (l : List (Nat × Nat)) (hs : a.eval s = v) (hv : Ew w v l) (ad : Addr) (m c : Nat) (q : List (Nat × Nat)) (hx : a.eval x = .slice (some ad) m c) (hq : q.length = m) (hnews : ∀ j u, (ec q)[j]? = some u → w.cell? (ad.add j) = some u) (hl : l.length + m ≤ 1000000)
    (h : ∀ v' w', Ew w' v' (l ++ q) → w.grownBy w' v.ownBlock → (v'.ownBlock = v.ownBlock ∨ v'.ownBlock = some w.heap.size) → wpList Try.prog ops Q rest (a.put o.dst v') w') : wpList Try.prog ops Q (o :: rest) a w :=
  wpList_plain hgd fun _ hK => by
    obtain ⟨v', w', hr, h2, h3, h4⟩ := run_append_ew o.type hv ad m c hq hnews hl
    unfold Oper.wp execOp
    simp only [ho, resolve, invoke, builtin, Sem.run_bind, Sem.run_pure, Result.andThen_ok, List.map_toArray, List.map_cons, List.map_nil, hs, hx, hr]
    exact hK _ _ (h v' w' h2 h3 h4)
theorem step_append_ew (w : World) {ops : Array Oper} {o : Oper} {a : Act} {K : Act → World → Prop} {Q : Exit → Act → World → Prop} {E : Prop} (hgd : o.guard = none) (s x : Operand)
    (ho : o.op = .call { callee := .builtin .append, args := #[s, x], argTypes := #[47, 47] })
    (v : Value) (l : List (Nat × Nat)) (hs : a.eval s = v) (hv : Ew w v l) (ad : Addr) (m c : Nat) (q : List (Nat × Nat)) (hx : a.eval x = .slice (some ad) m c) (hq : q.length = m) (hnews : ∀ j u, (ec q)[j]? = some u → w.cell? (ad.add j) = some u) (hl : l.length + m ≤ 1000000)
    (h : ∀ v' w', Ew w' v' (l ++ q) → w.grownBy w' v.ownBlock → (v'.ownBlock = v.ownBlock ∨ v'.ownBlock = some w.heap.size) → K (a.put o.dst v') w') :
    if Region.wanted o (yielded ops a.tmps) = true then Oper.wp Try.prog o a w K Q else E := by
  have hw : Region.wanted o (yielded ops a.tmps) = true := by simp [Region.wanted, hgd]
  rw [if_pos hw]
  obtain ⟨v', w', hr, h2, h3, h4⟩ := run_append_ew o.type hv ad m c hq hnews hl
  unfold Oper.wp execOp
  simp only [ho, resolve, invoke, builtin, Sem.run_bind, Sem.run_pure, Result.andThen_ok, List.map_toArray, List.map_cons, List.map_nil, hs, hx, hr]
  exact h v' w' h2 h3 h4
end Go.Proofs.Ytejbdhbphbgckaa
