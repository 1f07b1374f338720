import Derived.Test.YtafmiolehlagkaaGreatSt01
import Derived.Laws.BitsAllLaws
import Derived.Test.YtafmiolehlagkaaGreatProg
import Derived.WalkKit
import Derived.WalkSpells
import Derived.WalkLawsBesides
import Derived.Laws.CopyOwn
import Derived.Laws.AppendOwnNone
import Derived.Maps.AppendAt
import Derived.Laws.OwnMore
import Derived.Below
import Derived.RowKit
import Derived.Deep.DeepCutAuto
import Derived.Deep.RegionWith
import Derived.Deep.RegionLaw
import Derived.Deep.RegionHeld3
import Derived.Deep.QuietTactic
import Derived.Deep.CutBlock
import Derived.Deep.AppendLies
import Derived.BigQuiet
import Derived.BigRegion
import Derived.OrdersHeld
import Derived.Laws.ResultCell
import Derived.Lib.SliceRun
/-
  pick, Get, and the document's example.
-/
namespace Go.Proofs.YtafmiolehlagkaaGreat
open Go.RowKit
set_option maxRecDepth 100000
def pk (c : Int) (n : Nat) : Nat := ((if c < 0 then -(c + 1) else c).tmod n).toNat
theorem pk_of {c : Int} {n : Nat} (hn : 0 < n) : pk c n < n ∧ (if c < 0 then -(c + 1) else c).tmod n = (pk c n : Int) := by
  have key : ∀ x : Int, 0 ≤ x → (x.tmod n).toNat < n ∧ x.tmod n = ((x.tmod n).toNat : Int) := fun x hx => by
    have e1 := Int.tmod_eq_emod_of_nonneg (a := x) (b := n) hx
    have e2 := Int.emod_nonneg x (show (n : Int) ≠ 0 by omega)
    have e3 := Int.emod_lt_of_pos x (show (0 : Int) < n by omega)
    exact ⟨by omega, by omega⟩
  unfold pk
  split
  · exact key _ (by omega)
  · exact key _ (by omega)
theorem pk_lt (c : Int) {n : Nat} (hn : 0 < n) : pk c n < n := (pk_of hn).1
set_option maxHeartbeats 1000000 in
theorem pick_any (c : Int) (n : Nat) (w : World) (h0 : -9223372036854775808 ≤ c) (h1 : c ≤ 9223372036854775807) (hn : 0 < n) (hm : n ≤ 9223372036854775807) :
    Calls Tryz.prog 16 #[.int .i64 c, .int .i64 n] w fun e w' => e = .returned (.int .i64 (pk c n)) ∧ w' = w := by
  have hz : ((n : Int) == 0) = false := by rw [beq_eq_false_iff_ne]; omega
  obtain ⟨_, e⟩ := pk_of (c := c) hn
  by_cases hc : c < 0
  · rw [if_pos hc] at e
    have E := hide e
    clear e
    go_enter Tryz.func16, Tryz.ntmps16
    go_wp2
    go_ret
    exact ⟨ret_int (by rw [← E.out, Int.neg_tmod]), rfl⟩
  · rw [if_neg hc] at e
    have E := hide e
    clear e
    go_enter Tryz.func16, Tryz.ntmps16
    go_wp2
    go_ret
    exact ⟨ret_int (by rw [← E.out, Int.tmod_eq_emod_of_nonneg (by omega)]), rfl⟩

section
variable {w : World} {S : Nat → Prop} {g n : Nat} {rows : List (Int × Int)} {cols : List (List Int)}
theorem has_ok (h : Tb w S g n rows cols) (row col : Nat) (hr : row < rows.length) (hc : col < cols.length) : Calls Tryz.prog 156 #[.pointer (some ⟨g, 0, none⟩), .int .i64 (row : Int), .int .i64 (col : Int)] w fun e w' => e = .returned (.int .i64 0) ∧ w' = w := by
  have J1 := hide (hasrow_any h (row : Int))
  rw [decide_eq_true ⟨by omega, by omega⟩] at J1
  have J2 := hide (hascol_any h (col : Int))
  rw [decide_eq_true ⟨by omega, by omega⟩] at J2
  go_enter Tryz.func156, Tryz.ntmps156
  go_wp2_with fail
  refine J1.out.mono ?_
  rintro e w1 ⟨rfl, rfl⟩
  go_wp2_with fail
  refine J2.out.mono ?_
  rintro e w2 ⟨rfl, rfl⟩
  go_wp2_with fail
  go_ret
  exact ⟨rfl, rfl⟩
set_option maxHeartbeats 1000000 in
theorem get_any (h : Tb w S g n rows cols) (row col : Nat) (hr : row < rows.length) (hc : col < cols.length) : Calls Tryz.prog 90 #[.pointer (some ⟨g, 0, none⟩), .int .i64 (row : Int), .int .i64 (col : Int)] w fun e w' => e = .returned (.tuple #[.int .i64 (cols[col].getD row 0), .int .i64 0]) ∧ w' = w := by
  have J := hide (has_ok h row col hr hc)
  obtain ⟨lab, vr, gm, vc, cs, f, hm, hix, hcl, -⟩ := h
  obtain ⟨-, -, c2⟩ := hm.cell
  have hcs := hm.2.2.2.2.1
  obtain ⟨gc, cc, rfl, -, -⟩ := own_form hm.2.2.2.1 (by omega)
  have e1 := own_slices hm.2.2.2.1 col (by omega)
  have hrow := hm.2.2.2.2.2.1 col (by omega) hc
  have hlen : cols[col].length = rows.length := hcl _ (List.getElem_mem hc)
  obtain ⟨gj, cj, hv, -, -⟩ := own_form hrow (by omega)
  rw [hv] at e1 hrow
  have e2 := own_num hrow row (by omega)
  have hg : cols[col].getD row 0 = cols[col][row]'(by omega) := by rw [List.getD_eq_getElem?_getD, List.getElem?_eq_getElem (by omega)]; rfl
  rw [hg]
  rw [hlen] at e1
  generalize cols[col][row]'(by omega) = x at *
  have t1 : (col : Int) < (cs.length : Int) := by omega
  have t2 : (row : Int) < (rows.length : Int) := by omega
  clear hm hix hcl hrow hv hg hlen
  generalize cs.length = nc at *
  clear hcs
  go_enter Tryz.func90, Tryz.ntmps90
  go_wp2_with fail
  refine J.out.mono ?_
  rintro e w1 ⟨rfl, rfl⟩
  go_wp2_with fail
  go_ret2
  exact ⟨rfl, rfl⟩
end
theorem iz_two (w : World) (x y : Int) {W : World} (hb : Below (w.alloc (.cells #[.int .i64 x, .int .i64 y] 2)).heap.size (w.alloc (.cells #[.int .i64 x, .int .i64 y] 2)) W) : Iz W (.slice (some ⟨w.heap.size, 0, none⟩) 2 2) [x, y] := by
  have hr : W.heap[w.heap.size]? = some (.cells #[.int .i64 x, .int .i64 y] 2 (0, 0)) := (hb.block _ (by simp)).trans (heap_alloc_new w _)
  refine ⟨_, 2, rfl, Nat.le_refl _, by unfold maxLen; omega, fun j hj => ⟨w.heap.size, 0, rfl, ?_⟩⟩
  rw [cell_of_row W w.heap.size _ _ 2 (0, 0) hr]
  match j, hj with
  | 0, _ => rfl
  | 1, _ => rfl
theorem Tb.tight {w : World} {S : Nat → Prop} {g n : Nat} {rows : List (Int × Int)} {cols : List (List Int)} (h : Tb w S g n rows cols) : Tb w (fun k => S k ∧ k < w.heap.size) g n rows cols := by
  obtain ⟨lab, vr, gm, vc, cs, f, h1, h2, h3, ⟨s1, s2, s3, s4, s5⟩, h5⟩ := h
  refine ⟨lab, vr, gm, vc, cs, f, h1, h2, h3, ⟨⟨s1, h1.lt⟩, fun k e => ⟨s2 k e, (h1.2.1.lt k e).2⟩, ⟨s3, h1.2.2.1.lt⟩, fun k e => ⟨s4 k e, (h1.2.2.2.1.lt k e).2⟩, fun v hv k e => ⟨s5 v hv k e, ?_⟩⟩, h5⟩
  obtain ⟨i, hi, rfl⟩ := List.getElem_of_mem hv
  exact ((h1.2.2.2.2.2.1 i hi (by have := h1.2.2.2.2.1; omega)).lt k e).2
/-- A table beside other things: it lies above B, and nothing of N is its own. -/
def Tf (B : Nat) (N : Nat → Prop) (W : World) (g n : Nat) (rows : List (Int × Int)) (cols : List (List Int)) : Prop :=
  ∃ S, Tb W S g n rows cols ∧ (∀ k, S k → B ≤ k ∧ k < W.heap.size ∧ ¬ N k) ∧ (∀ k, N k → k < W.heap.size) ∧ B ≤ W.heap.size
def KeptN (N : Nat → Prop) (w w' : World) : Prop := ∀ k, N k → w'.heap[k]? = w.heap[k]?
section
variable {B : Nat} {N N' : Nat → Prop} {W W' : World} {g n n' : Nat} {rows rows' : List (Int × Int)} {cols cols' : List (List Int)}
theorem Tf.tb (h : Tf B N W g n rows cols) : ∃ S, Tb W S g n rows cols := by
  obtain ⟨S, h, -⟩ := h
  exact ⟨S, h⟩
theorem Tf.fence (h : Tf B N W g n rows cols) (hb : Below W.heap.size W W') (hN : ∀ k, N' k → (N k ∨ W.heap.size ≤ k) ∧ k < W'.heap.size) : Tf B N' W' g n rows cols := by
  obtain ⟨S, h1, h2, h3, h4⟩ := h
  have := hb.size
  refine ⟨S, h1.later hb, fun k e => ⟨(h2 k e).1, by have := (h2 k e).2.1; omega, fun e' => ?_⟩, fun k e => (hN k e).2, by omega⟩
  rcases (hN k e').1 with h | h
  · exact (h2 k e).2.2 h
  · have := (h2 k e).2.1; omega
theorem Tf.later (h : Tf B N W g n rows cols) (hb : Below W.heap.size W W') : Tf B N W' g n rows cols :=
  h.fence hb (fun k e => by obtain ⟨S, h1, h2, h3, h4⟩ := h; exact ⟨.inl e, Nat.lt_of_lt_of_le (h3 k e) hb.size⟩)
theorem Tf.write (h : Tf B N W g n rows cols) {k0 : Nat} (hk : N k0) (hg : W.grownBy W' (some k0)) : Tf B N W' g n rows cols := by
  obtain ⟨S, h1, h2, h3, h4⟩ := h
  have hm : Mv W W' (fun k => k = k0) := (Mv.refl _ _).grown hg (fun k _ e => (Option.some.inj e).symm)
  have := hm.size
  exact ⟨S, h1.frame hm (fun k e e' => (h2 k e).2.2 (e' ▸ hk)), fun k e => ⟨(h2 k e).1, by have := (h2 k e).2.1; omega, (h2 k e).2.2⟩, fun k e => Nat.lt_of_lt_of_le (h3 k e) this, by omega⟩
theorem Tf.turned {S : Nat → Prop} (h2 : ∀ k, S k → B ≤ k ∧ k < W.heap.size ∧ ¬ N k) (h3 : ∀ k, N k → k < W.heap.size) (h4 : B ≤ W.heap.size) (ht : Tb W' (Nw W S) g n rows cols) (hm : Mv W W' S) : Tf B N W' g n rows cols ∧ KeptN N W W' ∧ Below B W W' := by
  have hsz := hm.size
  refine ⟨⟨_, ht.tight, fun k e => ?_, fun k e => Nat.lt_of_lt_of_le (h3 k e) hsz, by omega⟩, fun k e => hm.2.2.2.2 k (h3 k e) (fun e' => (h2 k e').2.2 e), hm.below h4 (fun k e => (h2 k e).1)⟩
  rcases e.1 with h | h
  · exact ⟨(h2 k h).1, e.2, (h2 k h).2.2⟩
  · exact ⟨by omega, e.2, fun e' => by have := h3 k e'; omega⟩
theorem tf_add (h : Tf B N W g n rows cols) (a b : Int) (v : Value) (vals : List Int) (hv : Iz W v vals) (hvN : ∀ k, v.ownBlock = some k → N k) (hl : vals.length = cols.length) (hb : InB (a, b)) (he : (a, b) ∉ rows) (hr : rows.length < 200) (hn : n ≤ 1000000) :
    Calls Tryz.prog 139 #[.pointer (some ⟨g, 0, none⟩), .agg #[.int .i64 a, .int .i64 b], v] W fun e w' => e = .returned (.tuple #[.int .i64 (rows.length : Int), .int .i64 0]) ∧ Tf B N w' g (n + 1) (rows ++ [(a, b)]) (addRow cols vals) ∧ KeptN N W w' ∧ Below B W w' := by
  obtain ⟨S, h1, h2, h3, h4⟩ := h
  refine (add_any h1 a b v vals hv (fun k e => ⟨fun e' => (h2 k e').2.2 (hvN k e), h3 k (hvN k e)⟩) hl hb he hr hn).mono ?_
  rintro e w' ⟨rfl, t1, t2⟩
  exact ⟨rfl, Tf.turned h2 h3 h4 t1 t2⟩
theorem tf_remove (h : Tf B N W g n rows cols) (row : Nat) (hr : row < rows.length) (hn : n ≤ 1000000) :
    Calls Tryz.prog 151 #[.pointer (some ⟨g, 0, none⟩), .int .i64 (row : Int)] W fun e w' => e = .returned (.tuple #[if row = rows.length - 1 then .agg #[.int .i64 0, .int .i64 0] else .agg #[.int .i64 (rows[rows.length - 1]'(by omega)).1, .int .i64 (rows[rows.length - 1]'(by omega)).2], .bool (decide (row ≠ rows.length - 1)), .int .i64 0]) ∧ Tf B N w' g (n + 1) (rem rows row) (remCols cols row) ∧ KeptN N W w' ∧ Below B W w' := by
  obtain ⟨S, h1, h2, h3, h4⟩ := h
  refine (remove_any h1 row hr hn).mono ?_
  rintro e w' ⟨rfl, t1, t2⟩
  exact ⟨rfl, Tf.turned h2 h3 h4 (t1.mono (fun k e => .inl e)) t2⟩
end
theorem tf_new (k : Nat) (w : World) (h : k ≤ 48) : Calls Tryz.prog 138 #[.int .i64 (k : Int)] w fun e w' => ∃ g, e = .returned (.tuple #[.pointer (some ⟨g, 0, none⟩), .int .i64 0]) ∧ Tf w.heap.size (fun _ => False) w' g 0 [] (List.replicate k []) ∧ Below w.heap.size w w' := (new_any k w h).mono (fun _e _w' ⟨g, h1, h2, h3⟩ => ⟨g, h1, ⟨_, h2.tight, fun _k e => ⟨e.1, e.2, fun e => e⟩, fun _k e => e.elim, h3.size⟩, h3⟩)
end Go.Proofs.YtafmiolehlagkaaGreat

/-
  Set.
-/
namespace Go.Proofs.YtafmiolehlagkaaGreat
open Go.RowKit
set_option maxRecDepth 100000
section
variable {w W1 W' : World} {lab : Nat → Nat} {gt gm n : Nat} {vr vc v' : Value} {cs : List Value} {f f' : Int × Int → Option Nat} {rows rows' : List (Int × Int)} {cols : List (List Int)}
theorem Tm.num_put {gj m c j row : Nat} {x : Int} (h : Tm w lab gt vr gm n vc cs f rows cols) (hj : j < cs.length) (hj2 : j < cols.length) (hv : cs[j] = .slice (some ⟨gj, 0, none⟩) m c) :
    Tm (w.setCell ⟨gj, row, none⟩ (.int .i64 x)) lab gt vr gm n vc cs f rows (cols.set j (cols[j].set row x)) ∧ Mv w (w.setCell ⟨gj, row, none⟩ (.int .i64 x)) (fun k => k = gj) := by
  have hm : Mv w (w.setCell ⟨gj, row, none⟩ (.int .i64 x)) (fun k => k = gj) := Mv.set (S := fun k => k = gj) (Mv.refl _ _) rfl _ _
  obtain ⟨b1, b2, b3, b4, b5, b6, b7, b8, b9, b10, b11⟩ := h
  have lj : lab gj = 4 + j := b11 j hj gj (by rw [hv]; rfl)
  refine ⟨⟨hm.at b1 (fun e => ?_), hm.own b2 (fun k e e' => ?_), b3.same (hm.2.2.2.2 gm b3.lt (fun e => ?_)), hm.own b4 (fun k e e' => ?_), by simp [b5], fun i hi hi2 => ?_, b7, b8, b9, b10, b11⟩, hm⟩
  · subst e; omega
  · subst e'; have := b8 _ e; omega
  · subst e; omega
  · subst e'; have := b10 _ e; omega
  · have hi2' : i < cols.length := by simpa using hi2
    by_cases e : j = i
    · subst e
      simp only [List.getElem_set_self, List.length_set]
      have h6 := b6 j hj hj2
      rw [hv] at h6 ⊢
      obtain ⟨_, _, hh⟩ := own_len h6
      simp only [Value.slice.injEq] at hh
      obtain ⟨-, rfl, -⟩ := hh
      have := (h6.stored row (.int .i64 x)).1
      rw [zc_set] at this
      exact this
    · simp only [List.getElem_set_ne e]
      refine hm.own (b6 i hi hi2') (fun k e1 e2 => ?_)
      have := b11 i hi k e1
      subst e2; omega
end
section
variable {w : World} {S : Nat → Prop} {g n : Nat} {rows : List (Int × Int)} {cols : List (List Int)}
set_option maxHeartbeats 1000000 in
theorem set_any (h : Tb w S g n rows cols) (row col : Nat) (x : Int) (hr : row < rows.length) (hc : col < cols.length) : Calls Tryz.prog 91 #[.pointer (some ⟨g, 0, none⟩), .int .i64 (row : Int), .int .i64 (col : Int), .int .i64 x] w fun e w' => e = .returned (.int .i64 0) ∧ Tb w' S g n rows (cols.set col (cols[col].set row x)) ∧ Mv w w' S := by
  have J := hide (has_ok h row col hr hc)
  obtain ⟨lab, vr, gm, vc, cs, f, hm, hix, hcl, ⟨s1, s2, s3, s4, s5⟩, hib, hr2, hc48⟩ := h
  obtain ⟨-, -, c2⟩ := hm.cell
  have hcs := hm.2.2.2.2.1
  obtain ⟨gc, cc, rfl, -, -⟩ := own_form hm.2.2.2.1 (by omega)
  have e1 := own_slices hm.2.2.2.1 col (by omega)
  have hrow := hm.2.2.2.2.2.1 col (by omega) hc
  have hlen : cols[col].length = rows.length := hcl _ (List.getElem_mem hc)
  obtain ⟨gj, cj, hv, -, -⟩ := own_form hrow (by omega)
  have hput := hm.num_put (row := row) (x := x) (by omega) hc hv
  have hsj : S gj := s5 _ (List.getElem_mem (by omega : col < cs.length)) gj (by rw [hv]; rfl)
  have hfin : Hid (Tb (w.setCell ⟨gj, row, none⟩ (.int .i64 x)) S g n rows (cols.set col (cols[col].set row x)) ∧ Mv w (w.setCell ⟨gj, row, none⟩ (.int .i64 x)) S) := by
    refine ⟨⟨lab, vr, gm, _, cs, f, hput.1, hix, fun c hcm => ?_, ⟨s1, s2, s3, s4, s5⟩, hib, hr2, by simpa using hc48⟩, hput.2.mono (fun k _ e => e ▸ hsj)⟩
    rcases List.mem_or_eq_of_mem_set hcm with h1 | h1
    · exact hcl c h1
    · rw [h1, List.length_set]; exact hlen
  rw [hv] at e1 hrow
  have e2 := own_num hrow row (by omega)
  have ef := hrow.frozenAt row
  rw [hlen] at e1
  generalize cols[col][row]'(by omega) = y at *
  have t1 : (col : Int) < (cs.length : Int) := by omega
  have t2 : (row : Int) < (rows.length : Int) := by omega
  clear hm hix hcl hrow hv hlen hput s1 s2 s3 s4 s5 hib hsj
  generalize cs.length = nc at *
  clear hcs
  go_enter Tryz.func91, Tryz.ntmps91
  go_wp2_with fail
  refine J.out.mono ?_
  rintro e w1 ⟨rfl, rfl⟩
  go_wp2_with fail
  go_ret
  exact ⟨rfl, hfin.out⟩
end
section
variable {B : Nat} {N N' : Nat → Prop} {W W' : World} {g n n' : Nat} {rows rows' : List (Int × Int)} {cols cols' : List (List Int)}
theorem tf_set (h : Tf B N W g n rows cols) (row col : Nat) (x : Int) (hr : row < rows.length) (hc : col < cols.length) :
    Calls Tryz.prog 91 #[.pointer (some ⟨g, 0, none⟩), .int .i64 (row : Int), .int .i64 (col : Int), .int .i64 x] W fun e w' => e = .returned (.int .i64 0) ∧ Tf B N w' g n rows (cols.set col (cols[col].set row x)) ∧ KeptN N W w' ∧ Below B W w' := by
  obtain ⟨S, h1, h2, h3, h4⟩ := h
  refine (set_any h1 row col x hr hc).mono ?_
  rintro e w' ⟨rfl, t1, t2⟩
  exact ⟨rfl, Tf.turned h2 h3 h4 (t1.mono (fun k e => .inl e)) t2⟩
end
end Go.Proofs.YtafmiolehlagkaaGreat

/-
  World: a map from sets to tables; a set's bits; kinds in memory.
-/
namespace Go.Proofs.YtafmiolehlagkaaGreat
open Go.RowKit
set_option maxRecDepth 100000
/-! ### A map from sets to tables -/
theorem keyed3 : Maps.Keyed Tryz.prog 3 := Maps.int_keyed Tryz.underlying3
def ptrElem (v : Value) : Option (DataW Nat × List MemPlace) :=
  match v with
  | .pointer none => some (.nil, [])
  | .pointer (some ⟨g, 0, none⟩) => some (.held g, [])
  | _ => none
theorem ptrElem_inv {v : Value} {g : Nat} {ps : List MemPlace} (h : ptrElem v = some (.held g, ps)) : v = .pointer (some ⟨g, 0, none⟩) := by
  unfold ptrElem at h
  split at h
  · simp at h
  · rename_i g'
    simp only [Option.some.injEq, Prod.mk.injEq, DataW.held.injEq] at h
    rw [h.1]
  · cases h
theorem key3 (s : Nat) (h : s < 9007199254740992) : keyOf Tryz.prog 3 (.int .i64 (s : Int)) = some (.int .i64 (s : Int)) := by
  have hw : (Lit.int .i64 (s : Int)).wf = true := by simp [Lit.wf, IntKind.min, IntKind.max, IntKind.signed, IntKind.bits]; omega
  simp [keyOf, mapKey, Tryz.underlying3, hw]
/-- A map from sets to tables: where each lies. -/
def Mq (w : World) (gm n : Nat) (q : Nat → Option Nat) : Prop :=
  ∃ D : DataW Nat, w.ownsMap Tryz.prog 3 ptrElem gm n D ∧ ∀ s : Nat, s < 9007199254740992 → Maps.has D (.int .i64 (s : Int)) = (q s).isSome ∧ ∀ g, q s = some g → D.atKey (.int .i64 (s : Int)) .nil = .held g
section
variable {w w' : World} {gm n : Nat} {q : Nat → Option Nat}
theorem Mq.made (w : World) : Mq (w.alloc (.map #[] 0)) w.heap.size 0 (fun _ => none) :=
  ⟨.map [], World.ownsMap_made w _ _ _, fun _ _ => ⟨rfl, fun _ h => by cases h⟩⟩
theorem Mq.lt (h : Mq w gm n q) : gm < w.heap.size := by
  obtain ⟨D, h1, -⟩ := h
  exact h1.lt
theorem Mq.same (h : Mq w gm n q) (hs : w'.heap[gm]? = w.heap[gm]?) : Mq w' gm n q := by
  obtain ⟨D, ⟨es, ck, h1, h2⟩, h3⟩ := h
  exact ⟨D, ⟨es, ck, hs.trans h1, h2⟩, h3⟩
theorem zero133 (w : World) : (zeroValue 133).run Tryz.prog w = .ok (.pointer none) w := by kernel_rfl
theorem Mq.look (h : Mq w gm n q) (s : Nat) (hs : s < 9007199254740992) : ∃ v, (Instr.lookup 107 (.map (some gm)) (.int .i64 (s : Int)) true).run Tryz.prog w = .ok (.tuple #[v, .bool (q s).isSome]) w ∧ ∀ g, q s = some g → v = .pointer (some ⟨g, 0, none⟩) := by
  obtain ⟨D, h1, h2⟩ := h
  obtain ⟨v, ps, hr, hv⟩ := h1.look_ok keyed3 Tryz.underlying107 (zero133 w) (zd := .nil) (zp := []) rfl (key3 s hs)
  obtain ⟨h3, h4⟩ := h2 s hs
  rw [h3] at hr
  refine ⟨v, hr, fun g hg => ?_⟩
  rw [h4 g hg] at hv
  exact ptrElem_inv hv
theorem Mq.store (h : Mq w gm n q) (s g : Nat) (hs : s < 9007199254740992) (hn : n ≤ 1000000) : ∃ w', (Instr.mapUpdate 107 (.map (some gm)) (.int .i64 (s : Int)) (.pointer (some ⟨g, 0, none⟩))).run Tryz.prog w = .ok () w' ∧ Mq w' gm (n + 1) (fun x => if x = s then some g else q x) ∧ w.mapTurned w' gm := by
  obtain ⟨D, h1, h2⟩ := h
  obtain ⟨w', hr, h3, h4⟩ := h1.store keyed3 Tryz.underlying107 (by unfold maxLen; omega) (key3 s hs) (val := .pointer (some ⟨g, 0, none⟩)) (d := .held g) (ps := []) rfl
  refine ⟨w', hr, ⟨_, h3, fun x hx => ?_⟩, h4⟩
  by_cases ex : x = s
  · subst ex
    refine ⟨by rw [Maps.has_put_same h1.isMap (keyed3.key (key3 x hs))]; simp, fun j hj => ?_⟩
    rw [Maps.atKey_put_same h1.isMap (keyed3.key (key3 x hs))]
    simp only [if_true, Option.some.injEq] at hj
    rw [hj]
  · have hne : (Lit.int .i64 (x : Int)) ≠ .int .i64 (s : Int) := fun e' => by
      simp only [Lit.int.injEq, true_and] at e'
      omega
    rw [Maps.has_put_other hne, Maps.atKey_put_other hne]
    simp only [if_neg ex]
    exact h2 x hx
theorem Mq.drop (h : Mq w gm n q) (s : Nat) (hs : s < 9007199254740992) (ty : TypeId) : ∃ w', (Builtin.delete_ #[107, 3] ty #[.map (some gm), .int .i64 (s : Int)]).run Tryz.prog w = .ok (.tuple #[]) w' ∧ Mq w' gm n (fun x => if x = s then none else q x) ∧ w.mapTurned w' gm := by
  obtain ⟨D, h1, h2⟩ := h
  obtain ⟨w', hr, h3, h4⟩ := h1.drop keyed3 Tryz.underlying107 (key3 s hs) ty
  refine ⟨w', hr, ⟨_, h3, fun x hx => ?_⟩, h4⟩
  by_cases ex : x = s
  · subst ex
    refine ⟨by rw [Maps.has_del_same]; simp, fun j hj => by simp at hj⟩
  · have hne : (Lit.int .i64 (x : Int)) ≠ .int .i64 (s : Int) := fun e' => by
      simp only [Lit.int.injEq, true_and] at e'
      omega
    rw [Maps.has_del_other hne, Maps.atKey_del_other hne]
    simp only [if_neg ex]
    exact h2 x hx
end
/-! ### Sets -/
theorem ofInt_i64 (a : Nat) (ha : a < 9223372036854775808) : (BitVec.ofInt 64 (a : Int)).toNat = a := by
  rw [BitVec.ofInt_natCast, BitVec.toNat_ofNat]; exact Nat.mod_eq_of_lt (by omega)
theorem i64_and_nat (a b : Nat) (ha : a < 9223372036854775808) (hb : b < 9223372036854775808) : bits .and .i64 (a : Int) (b : Int) = ((a &&& b : Nat) : Int) := by
  have hx : a &&& b < 2 ^ 63 := Nat.and_lt_two_pow _ (by omega)
  show IntKind.i64.wrap ((BitVec.ofInt 64 (a : Int) &&& BitVec.ofInt 64 (b : Int)).toNat : Int) = _
  rw [BitVec.toNat_and, ofInt_i64 a ha, ofInt_i64 b hb, IntKind.wrap_i64]
  omega
theorem i64_or_nat (a b : Nat) (ha : a < 9223372036854775808) (hb : b < 9223372036854775808) : bits .or .i64 (a : Int) (b : Int) = ((a ||| b : Nat) : Int) := by
  have hx : a ||| b < 2 ^ 63 := Nat.or_lt_two_pow (by omega) (by omega)
  show IntKind.i64.wrap ((BitVec.ofInt 64 (a : Int) ||| BitVec.ofInt 64 (b : Int)).toNat : Int) = _
  rw [BitVec.toNat_or, ofInt_i64 a ha, ofInt_i64 b hb, IntKind.wrap_i64]
  omega
theorem has_any (s k : Nat) (w : World) (hs : s < 8192) (hk : k ≤ 12) : Calls Tryz.prog 133 #[.int .i64 (s : Int), .int .i64 (k : Int)] w fun e w' => e = .returned (.bool (s.testBit k)) ∧ w' = w := by
  have t1 : ¬ (k : Int) < 0 := by omega
  have e1 : (bits BinOp.and IntKind.i64 ((s : Int) / 2 ^ k) 1 != 0) = s.testBit k := by
    have h1 : ((s : Int) / 2 ^ k) = ((s / 2 ^ k : Nat) : Int) := by
      rw [Int.natCast_ediv]
      congr 1
    have hlt : s / 2 ^ k < 9223372036854775808 := Nat.lt_of_le_of_lt (Nat.div_le_self _ _) (by omega)
    have h2 := i64_and_nat (s / 2 ^ k) 1 hlt (by omega)
    rw [h1]
    rw [show ((1 : Nat) : Int) = 1 from rfl] at h2
    rw [h2, Nat.testBit, Nat.shiftRight_eq_div_pow, Nat.and_comm]
    rcases Nat.mod_two_eq_zero_or_one (s / 2 ^ k) with h | h
    · simp [Nat.one_and_eq_mod_two, h]
    · simp [Nat.one_and_eq_mod_two, h]
  go_enter Tryz.func133, Tryz.ntmps133
  go_wp2_with fail
  go_ret
  exact ⟨rfl, rfl⟩
end Go.Proofs.YtafmiolehlagkaaGreat

/-
  World: its kinds, as they are read; what may come.
-/
namespace Go.Proofs.YtafmiolehlagkaaGreat
open Go.RowKit
set_option maxRecDepth 100000
abbrev Kind := ByteArray × List ByteArray
/-- Texts that are read. -/
def Sr (w : World) (v : Value) (l : List ByteArray) : Prop :=
  ∃ ao c, v = .slice ao l.length c ∧ l.length ≤ c ∧ c ≤ maxLen ∧ ∀ j (hj : j < l.length), ∃ g o, ao = some ⟨g, o, none⟩ ∧ w.cell? ⟨g, o + j, none⟩ = some (.string l[j])
/-- Kinds that are read. -/
def Kr (w : World) (v : Value) (ks : List Kind) : Prop :=
  ∃ ao c, v = .slice ao ks.length c ∧ ks.length ≤ c ∧ c ≤ maxLen ∧ ∀ i (hi : i < ks.length), ∃ g o vf, ao = some ⟨g, o, none⟩ ∧ w.cell? ⟨g, o + i * 2, none⟩ = some (.string ks[i].1) ∧ w.cell? ⟨g, o + i * 2 + 1, none⟩ = some vf ∧ Sr w vf ks[i].2
section
variable {w w' : World} {v : Value} {ks : List Kind} {l : List ByteArray}
theorem Sr.on (h : Sr w v l) (hc : ∀ (a : Addr) (x : Value), w.cell? a = some x → w'.cell? a = some x) : Sr w' v l := by
  obtain ⟨ao, c, rfl, h1, h2, h3⟩ := h
  refine ⟨ao, c, rfl, h1, h2, fun j hj => ?_⟩
  obtain ⟨g, o, rfl, h4⟩ := h3 j hj
  exact ⟨g, o, rfl, hc _ _ h4⟩
theorem Kr.later (h : Kr w v ks) (hb : Below w.heap.size w w') : Kr w' v ks := by
  have hc : ∀ (a : Addr) (x : Value), w.cell? a = some x → w'.cell? a = some x := fun a x e => (hb.cell (p := a) (World.block_lt_of_cell? w _ e)).trans e
  obtain ⟨ao, c, rfl, h1, h2, h3⟩ := h
  refine ⟨ao, c, rfl, h1, h2, fun i hi => ?_⟩
  obtain ⟨g, o, vf, rfl, h4, h5, h6⟩ := h3 i hi
  exact ⟨g, o, vf, rfl, hc _ _ h4, hc _ _ h5, h6.on hc⟩
end
/-- A world's block: its kinds lie at vk, its pool at gp, its two maps at gs and gt. -/
def Wc (w : World) (gw : Nat) (vk : Value) (gp gs gt : Nat) : Prop := w.heap[gw]? = some (.cells #[vk, .pointer (some ⟨gp, 0, none⟩), .map (some gs), .map (some gt)] 109 (0, 0))
section
variable {w w' : World} {gw gp gs gt : Nat} {vk : Value} {ks : List Kind}
theorem Wc.cell (h : Wc w gw vk gp gs gt) : w.cell? ⟨gw, 0, none⟩ = some vk ∧ w.cell? ⟨gw, 1, none⟩ = some (.pointer (some ⟨gp, 0, none⟩)) ∧ w.cell? ⟨gw, 2, none⟩ = some (.map (some gs)) ∧ w.cell? ⟨gw, 3, none⟩ = some (.map (some gt)) := by
  refine ⟨?_, ?_, ?_, ?_⟩ <;> rw [cell_of_row w gw _ _ 109 (0, 0) h] <;> rfl
theorem Wc.later (h : Wc w gw vk gp gs gt) (hb : Below w.heap.size w w') : Wc w' gw vk gp gs gt := (hb.block gw (lt_of_block h)).trans h
theorem iskind_any (h : Wc w gw vk gp gs gt) (hk : Kr w vk ks) (x : Int) : Calls Tryz.prog 146 #[.pointer (some ⟨gw, 0, none⟩), .int .i64 x] w fun e w' => e = .returned (.bool (decide (1 ≤ x ∧ x ≤ (ks.length : Int)))) ∧ w' = w := by
  obtain ⟨c0, c1, c2, c3⟩ := h.cell
  obtain ⟨ao, c, rfl, -⟩ := hk
  clear h
  generalize ks.length = n at *
  go_enter Tryz.func146, Tryz.ntmps146
  by_cases h1 : 1 ≤ x
  · have t1 : x ≥ 1 := h1
    by_cases h2 : x ≤ (n : Int)
    · rw [decide_eq_true ⟨h1, h2⟩]
      go_wp2_with fail
      go_ret
      exact ⟨rfl, rfl⟩
    · rw [decide_eq_false (fun e => h2 e.2)]
      go_wp2_with fail
      go_ret
      exact ⟨rfl, rfl⟩
  · rw [decide_eq_false (fun e => h1 e.1)]
    have t1 : ¬ x ≥ 1 := h1
    go_wp2_with fail
    go_ret
    exact ⟨rfl, rfl⟩
theorem fields_any (h : Wc w gw vk gp gs gt) (hk : Kr w vk ks) (k : Nat) (hk1 : 1 ≤ k) (hk2 : k ≤ ks.length) (hks : ks.length ≤ 12) : Calls Tryz.prog 89 #[.pointer (some ⟨gw, 0, none⟩), .int .i64 (k : Int)] w fun e w' => e = .returned (.int .i64 ((ks[k - 1]'(by omega)).2.length : Int)) ∧ w' = w := by
  obtain ⟨c0, c1, c2, c3⟩ := h.cell
  obtain ⟨ao, c, rfl, hc1, hc2, h3⟩ := hk
  obtain ⟨g, o, vf, rfl, e1, e2, e3⟩ := h3 (k - 1) (by omega)
  obtain ⟨af, cf, rfl, -⟩ := e3
  obtain ⟨j, rfl⟩ : ∃ j, k = j + 1 := ⟨k - 1, by omega⟩
  simp only [Nat.add_sub_cancel] at *
  have t1 : IntKind.i64.wrap (((j + 1 : Nat) : Int) - 1) = (j : Int) := by rw [IntKind.wrap_i64]; omega
  obtain ⟨K, hK⟩ : ∃ K : Int, K = ((j + 1 : Nat) : Int) := ⟨_, rfl⟩
  rw [← hK] at t1 ⊢
  have t2 : (j : Int) < (ks.length : Int) := by omega
  clear h h3 hK e1
  generalize (ks[j]'(by omega)).2.length = m at *
  generalize ks.length = n at *
  go_enter Tryz.func89, Tryz.ntmps89
  go_wp2_with fail
  go_ret
  exact ⟨rfl, rfl⟩
/-- What is wrong with a part that is to come to a set. -/
def comeS (ks : List Kind) (s : Nat) (k : Int) (m : Nat) : Int :=
  if 1 ≤ k ∧ k ≤ (ks.length : Int) then (if s.testBit k.toNat then 61 else if m = (ks.getD (k.toNat - 1) (ByteArray.empty, [])).2.length then 0 else 63) else 60
set_option maxHeartbeats 2000000 in
theorem maycome_any (h : Wc w gw vk gp gs gt) (hk : Kr w vk ks) (hks : ks.length ≤ 12) (s : Nat) (hs : s < 8192) (x : Int) (av : Option Addr) (nv cv : Nat) : Calls Tryz.prog 74 #[.pointer (some ⟨gw, 0, none⟩), .int .i64 (s : Int), .agg #[.int .i64 x, .slice av nv cv]] w fun e w' => e = .returned (.int .i64 (comeS ks s x nv)) ∧ Below w.heap.size w w' := by
  have J1 : Hid (∀ W, Below w.heap.size w W → Calls Tryz.prog 146 #[.pointer (some ⟨gw, 0, none⟩), .int .i64 x] W fun e w' => e = .returned (.bool (decide (1 ≤ x ∧ x ≤ (ks.length : Int)))) ∧ w' = W) := fun W hW => iskind_any (h.later hW) (hk.later hW) x
  have J3 : Hid (∀ (k : Nat) (hk1 : 1 ≤ k) (hk2 : k ≤ ks.length) W, Below w.heap.size w W → Calls Tryz.prog 89 #[.pointer (some ⟨gw, 0, none⟩), .int .i64 (k : Int)] W fun e w' => e = .returned (.int .i64 ((ks[k - 1]'(by omega)).2.length : Int)) ∧ w' = W) := fun k hk1 hk2 W hW => fields_any (h.later hW) (hk.later hW) k hk1 hk2 hks
  clear h hk
  go_enter Tryz.func74, Tryz.ntmps74
  go_upto_region 1 with fail
  obtain ⟨w1, hw1⟩ : ∃ X, X = w.alloc (.cells #[.int .i64 x, .slice av nv cv] 32) := ⟨_, rfl⟩
  have B1 : Below w.heap.size w w1 := hw1 ▸ below_alloc w _
  have hx1 : w1.heap[w.heap.size]? = some (.cells #[.int .i64 x, .slice av nv cv] 32 (0, 0)) := hw1 ▸ heap_alloc_new w _
  rw [← hw1]
  obtain ⟨kx, hkx⟩ : ∃ k, k = w.heap.size := ⟨_, rfl⟩
  rw [← hkx] at hx1 ⊢
  have p0 : w1.cell? ⟨kx, 0, none⟩ = some (.int .i64 x) := by rw [cell_of_row w1 kx _ _ 32 (0, 0) hx1]; rfl
  have p1 : w1.cell? ⟨kx, 1, none⟩ = some (.slice av nv cv) := by rw [cell_of_row w1 kx _ _ 32 (0, 0) hx1]; rfl
  have HB1 := hide B1
  have J1a := hide (J1.out w1 B1)
  clear hw1 hx1 hkx B1 J1
  by_cases h1 : 1 ≤ x ∧ x ≤ (ks.length : Int)
  · obtain ⟨k, rfl⟩ : ∃ k : Nat, x = (k : Int) := ⟨x.toNat, by omega⟩
    have hk1 : 1 ≤ k := by omega
    have hk2 : k ≤ ks.length := by omega
    rw [decide_eq_true h1] at J1a
    have H1 := hide h1
    clear h1
    have ec : ∀ (m : Nat), (ks[k - 1]'(by omega)).2.length = m → comeS ks s (k : Int) nv = if s.testBit k then 61 else if nv = m then 0 else 63 := fun m hm => by
      unfold comeS
      rw [if_pos H1.out]
      simp only [Int.toNat_natCast]
      have e2 : (ks.getD (k - 1) (ByteArray.empty, [])).2.length = m := by
        rw [List.getD_eq_getElem?_getD, List.getElem?_eq_getElem (by omega)]
        exact hm
      simp only [e2]
    have EC := hide (ec _ rfl)
    clear ec H1
    have J2 := hide (has_any s k w1 hs (by omega))
    have J3a := hide (J3.out k hk1 hk2 w1.drew (below_on HB1.out (below_drew w1)))
    generalize (ks[k - 1]'(by omega)).2.length = m at *
    clear J3
    cases hb : s.testBit k with
    | true =>
      rw [hb] at J2
      simp only [hb, if_true] at EC
      go_wp2_with fail
      refine J1a.out.mono ?_
      rintro e w2 ⟨rfl, rfl⟩
      go_wp2_with fail
      refine J2.out.mono ?_
      rintro e w2 ⟨rfl, rfl⟩
      go_wp2_with fail
      go_ret
      exact ⟨ret_int EC.out.symm, HB1.out⟩
    | false =>
      rw [hb] at J2
      simp only [hb, Bool.false_eq_true, if_false] at EC
      go_wp2_with fail
      refine J1a.out.mono ?_
      rintro e w2 ⟨rfl, rfl⟩
      go_wp2_with fail
      refine J2.out.mono ?_
      rintro e w2 ⟨rfl, rfl⟩
      obtain ⟨w1, rfl⟩ : ∃ X, X = w2 := ⟨_, rfl⟩
      by_cases hm : nv = m
      · subst hm
        simp only [if_true] at EC
        go_upto_region 5 with fail
        go_region_held3 (fun W => W.cell? ⟨kx, 0, none⟩ = some (.int .i64 (k : Int)) ∧ W.cell? ⟨kx, 1, none⟩ = some (.slice av nv cv)) (go_keep) (first | (go_at_call 89; refine J3a.out.mono ?_; rintro e w3 ⟨rfl, rfl⟩))
        go_wp2_with fail
        go_ret
        exact ⟨ret_int EC.out.symm, below_on HB1.out (below_drew _)⟩
      · simp only [if_neg hm] at EC
        have t1 : ((nv : Int) == (m : Int)) = false := by rw [beq_eq_false_iff_ne]; omega
        have t2 : ¬ (nv : Int) = (m : Int) := by omega
        go_upto_region 5 with fail
        go_region_held3 (fun W => W.cell? ⟨kx, 0, none⟩ = some (.int .i64 (k : Int)) ∧ W.cell? ⟨kx, 1, none⟩ = some (.slice av nv cv)) (go_keep) (first | (go_at_call 89; refine J3a.out.mono ?_; rintro e w3 ⟨rfl, rfl⟩))
        go_wp2_with fail
        go_ret
        exact ⟨ret_int EC.out.symm, below_on HB1.out (below_drew _)⟩
  · rw [decide_eq_false h1] at J1a
    have ec : comeS ks s x nv = 60 := by unfold comeS; rw [if_neg h1]
    have EC := hide ec
    clear ec h1 J3
    go_wp2_with fail
    refine J1a.out.mono ?_
    rintro e w2 ⟨rfl, rfl⟩
    go_wp2_with fail
    go_ret
    exact ⟨ret_int EC.out.symm, HB1.out⟩
end
end Go.Proofs.YtafmiolehlagkaaGreat

/-
  Rows of numbers and of entities in memory; sets of blocks: what all texts of this seat share.
-/
namespace Go.Proofs.YtafmiolehlagkaaGreat
open Go.RowKit
set_option maxRecDepth 100000
theorem info3 : (Tryz.prog.info? 3).map (fun i => (i.zero, i.size, i.bytes)) = some (some (.int .i64 0), 1, 8) := by kernel_rfl
theorem info41 : (Tryz.prog.info? 29).map (fun i => (i.zero, i.size, i.bytes)) = some (some (.agg #[.int .i64 0, .int .i64 0]), 2, 16) := by kernel_rfl

/-! ### What changes -/
section
variable {w w' w2 : World} {S S' : Nat → Prop}
end
/-! ### Rows of numbers, rows of entities -/
def ic (l : List Nat) : List Value := l.map fun n : Nat => .int .i64 (n : Int)
def ec : List (Nat × Nat) → List Value
  | [] => []
  | p :: t => .int .i64 (p.1 : Int) :: .int .i64 (p.2 : Int) :: ec t
theorem ic_len (l : List Nat) : (ic l).length = l.length := by simp [ic]
theorem ic_append (a b : List Nat) : ic (a ++ b) = ic a ++ ic b := by simp [ic]
theorem ic_set (l : List Nat) (i x : Nat) : (ic l).set i (.int .i64 (x : Int)) = ic (l.set i x) := by simp [ic, List.map_set]
theorem ic_at (l : List Nat) (i : Nat) (h : i < l.length) : (ic l)[i]? = some (.int .i64 (l[i] : Int)) := by simp [ic, h]
theorem ec_len : ∀ l : List (Nat × Nat), (ec l).length = l.length * 2
  | [] => rfl
  | p :: t => by simp [ec, ec_len t]; omega
theorem ec_append : ∀ a b : List (Nat × Nat), ec (a ++ b) = ec a ++ ec b
  | [], _ => rfl
  | h :: t, b => by simp [ec, ec_append t b]
theorem ec_at : ∀ (l : List (Nat × Nat)) (i : Nat) (h : i < l.length), (ec l)[i * 2]? = some (.int .i64 (l[i].1 : Int)) ∧ (ec l)[i * 2 + 1]? = some (.int .i64 (l[i].2 : Int))
  | p :: t, 0, _ => ⟨rfl, rfl⟩
  | p :: t, i + 1, h => by
    have := ec_at t i (by simpa using h)
    rw [show (i + 1) * 2 = i * 2 + 1 + 1 by omega]
    simpa [ec] using this
theorem ec_set : ∀ (l : List (Nat × Nat)) (i a b : Nat), i < l.length → ((ec l).set (i * 2) (.int .i64 (a : Int))).set (i * 2 + 1) (.int .i64 (b : Int)) = ec (l.set i (a, b))
  | p :: t, 0, a, b, _ => rfl
  | p :: t, i + 1, a, b, h => by
    have := ec_set t i a b (by simpa using h)
    rw [show (i + 1) * 2 = i * 2 + 1 + 1 by omega]
    simpa [ec] using this
theorem ic_one (l : List Nat) : ∀ u ∈ ic l, u.oneCell' = true := by
  intro u hu
  simp only [ic, List.mem_map] at hu
  obtain ⟨b, _, rfl⟩ := hu
  rfl
theorem ec_one : ∀ (l : List (Nat × Nat)), ∀ u ∈ ec l, u.oneCell' = true
  | p :: t, u, hu => by
    simp only [ec, List.mem_cons] at hu
    rcases hu with rfl | rfl | hu
    · rfl
    · rfl
    · exact ec_one t u hu
/-- Numbers that are owned, one of them. -/
theorem own_int {w : World} {B g n c : Nat} {l : List Nat} (h : w.ownsRow B 3 1 (.slice (some ⟨g, 0, none⟩) n c) n (ic l)) (i : Nat) (hi : i < l.length) : w.cell? ⟨g, i, none⟩ = some (.int .i64 (l[i] : Int)) := by
  have hl := h.1
  rw [ic_len] at hl
  rw [h.cellAt i (by omega), ic_at l i hi]
theorem i_own_ent {w : World} {B g n c : Nat} {l : List (Nat × Nat)} (h : w.ownsRow B 29 2 (.slice (some ⟨g, 0, none⟩) n c) n (ec l)) (i : Nat) (hi : i < l.length) :
    w.cell? ⟨g, i * 2, none⟩ = some (.int .i64 (l[i].1 : Int)) ∧ w.cell? ⟨g, i * 2 + 1, none⟩ = some (.int .i64 (l[i].2 : Int)) := by
  have hl := h.1
  rw [ec_len] at hl
  rw [h.cellAt (i * 2) (by omega), h.cellAt (i * 2 + 1) (by omega)]
  exact ec_at l i hi
theorem own_int_set {w : World} {B g n c : Nat} {l : List Nat} (h : w.ownsRow B 3 1 (.slice (some ⟨g, 0, none⟩) n c) n (ic l)) (i x : Nat) : (w.setCell ⟨g, i, none⟩ (.int .i64 (x : Int))).ownsRow B 3 1 (.slice (some ⟨g, 0, none⟩) n c) n (ic (l.set i x)) := by
  rw [← ic_set]
  exact (h.stored i _).1
theorem own_ent_set {w : World} {B g n c : Nat} {l : List (Nat × Nat)} (h : w.ownsRow B 29 2 (.slice (some ⟨g, 0, none⟩) n c) n (ec l)) (i a b : Nat) (hi : i < l.length) : ((w.setCell ⟨g, i * 2, none⟩ (.int .i64 (a : Int))).setCell ⟨g, i * 2 + 1, none⟩ (.int .i64 (b : Int))).ownsRow B 29 2 (.slice (some ⟨g, 0, none⟩) n c) n (ec (l.set i (a, b))) := by
  rw [← ec_set l i a b hi]
  exact ((h.stored (i * 2) _).1.stored (i * 2 + 1) _).1
end Go.Proofs.YtafmiolehlagkaaGreat

/-
  A pool in memory: its rows, and the calls that only read.
-/
namespace Go.Proofs.YtafmiolehlagkaaGreat
open Go.RowKit
set_option maxRecDepth 100000
/-- A pool: its block; its three rows: generations, who lives, the free row. -/
def Pm (w : World) (g n : Nat) (vg vl vf : Value) (gs fr : List Nat) (lv : List (Nat × Nat)) : Prop :=
  w.heap[g]? = some (.cells #[.int .i64 (n : Int), vg, vl, vf] 163 (0, 0)) ∧ w.ownsRow 0 3 1 vg gs.length (ic gs) ∧ w.ownsRow 0 29 2 vl lv.length (ec lv) ∧ w.ownsRow 0 3 1 vf fr.length (ic fr) ∧
  (vg.ownBlock ≠ some g ∧ vl.ownBlock ≠ some g ∧ vf.ownBlock ≠ some g) ∧ Ap vg vl ∧ Ap vg vf ∧ Ap vl vf
section
variable {w w' : World} {g n : Nat} {vg vl vf : Value} {gs fr : List Nat} {lv : List (Nat × Nat)}
theorem Pm.lt (h : Pm w g n vg vl vf gs fr lv) : g < w.heap.size := lt_of_block h.1
theorem Pm.cell (h : Pm w g n vg vl vf gs fr lv) : w.cell? ⟨g, 0, none⟩ = some (.int .i64 (n : Int)) ∧ w.cell? ⟨g, 1, none⟩ = some vg ∧ w.cell? ⟨g, 2, none⟩ = some vl ∧ w.cell? ⟨g, 3, none⟩ = some vf := by
  refine ⟨?_, ?_, ?_, ?_⟩ <;> rw [cell_of_row w g _ _ 163 (0, 0) h.1] <;> rfl
theorem Pm.frozen (h : Pm w g n vg vl vf gs fr lv) (k : Nat) : w.frozen? ⟨g, k, none⟩ = false := frozen_of_row w g k _ 163 h.1
theorem Pm.later (h : Pm w g n vg vl vf gs fr lv) (hb : Below w.heap.size w w') : Pm w' g n vg vl vf gs fr lv := by
  obtain ⟨h1, h2, h3, h4, h5⟩ := h
  exact ⟨(hb.block g (lt_of_block h1)).trans h1, own_later h2 hb, own_later h3 hb, own_later h4 hb, h5⟩
theorem Pm.frame {T : Nat → Prop} (h : Pm w g n vg vl vf gs fr lv) (hm : Mv w w' T) (h0 : ¬ T g) (h1 : ∀ k, vg.ownBlock = some k → ¬ T k) (h2 : ∀ k, vl.ownBlock = some k → ¬ T k) (h3 : ∀ k, vf.ownBlock = some k → ¬ T k) : Pm w' g n vg vl vf gs fr lv := by
  obtain ⟨a1, a2, a3, a4, a5⟩ := h
  exact ⟨hm.at a1 h0, hm.own a2 h1, hm.own a3 h2, hm.own a4 h3, a5⟩
/-- A number of its generations is written. -/
theorem Pm.set_gen {gg c : Nat} (h : Pm w g n (.slice (some ⟨gg, 0, none⟩) gs.length c) vl vf gs fr lv) (i x : Nat) : Pm (w.setCell ⟨gg, i, none⟩ (.int .i64 (x : Int))) g n (.slice (some ⟨gg, 0, none⟩) gs.length c) vl vf (gs.set i x) fr lv := by
  obtain ⟨a1, a2, a3, a4, a5, a6, a7, a8⟩ := h
  refine ⟨(heap_setCell_other w ⟨gg, i, none⟩ g _ (fun e => a5.1 (by rw [e]; rfl))).trans a1, ?_, own_set a3 (fun e => a6 gg rfl e), own_set a4 (fun e => a7 gg rfl e), a5, a6, a7, a8⟩
  rw [List.length_set]
  exact own_int_set a2 i x
/-- Who lives under a number is written. -/
theorem Pm.set_live {gl c : Nat} (h : Pm w g n vg (.slice (some ⟨gl, 0, none⟩) lv.length c) vf gs fr lv) (i a b : Nat) (hi : i < lv.length) : Pm ((w.setCell ⟨gl, i * 2, none⟩ (.int .i64 (a : Int))).setCell ⟨gl, i * 2 + 1, none⟩ (.int .i64 (b : Int))) g n vg (.slice (some ⟨gl, 0, none⟩) lv.length c) vf gs fr (lv.set i (a, b)) := by
  obtain ⟨a1, a2, a3, a4, a5, a6, a7, a8⟩ := h
  refine ⟨?_, own_set (own_set a2 (fun e => a6 gl e rfl)) (fun e => a6 gl e rfl), ?_, own_set (own_set a4 (fun e => a8 gl rfl e)) (fun e => a8 gl rfl e), a5, a6, a7, a8⟩
  · have hne : gl ≠ g := fun e => a5.2.1 (by rw [← e]; rfl)
    rw [heap_setCell_other _ ⟨gl, i * 2 + 1, none⟩ g _ (Ne.symm hne), heap_setCell_other w ⟨gl, i * 2, none⟩ g _ (Ne.symm hne)]
    exact a1
  · rw [List.length_set]
    exact own_ent_set a3 i a b hi
end
/-- A pool within a set of blocks. -/
def Pk (w : World) (S : Nat → Prop) (g n : Nat) (gs fr : List Nat) (lv : List (Nat × Nat)) : Prop := ∃ vg vl vf, Pm w g n vg vl vf gs fr lv ∧ S g ∧ In S vg ∧ In S vl ∧ In S vf
section
variable {w w' w2 : World} {S T : Nat → Prop} {g n : Nat} {gs fr : List Nat} {lv : List (Nat × Nat)}
theorem Pk.mono (h : Pk w S g n gs fr lv) (hs : ∀ k, S k → T k) : Pk w T g n gs fr lv := by
  obtain ⟨vg, vl, vf, h1, h2, h3, h4, h5⟩ := h
  exact ⟨vg, vl, vf, h1, hs g h2, h3.mono hs, h4.mono hs, h5.mono hs⟩
theorem Pk.frame (h : Pk w S g n gs fr lv) (hm : Mv w w' T) (hs : ∀ k, S k → ¬ T k) : Pk w' S g n gs fr lv := by
  obtain ⟨vg, vl, vf, h1, h2, h3, h4, h5⟩ := h
  exact ⟨vg, vl, vf, h1.frame hm (hs g h2) (fun k e => hs k (h3 k e)) (fun k e => hs k (h4 k e)) (fun k e => hs k (h5 k e)), h2, h3, h4, h5⟩
theorem Pk.later (h : Pk w S g n gs fr lv) (hb : Below w.heap.size w w') : Pk w' S g n gs fr lv := h.frame (Mv.of_below hb (fun _ => False)) (fun _ _ e => e)
theorem Pk.twice (hsz : w.heap.size ≤ w'.heap.size) (h : Pk w2 (Nw w' (Nw w S)) g n gs fr lv) : Pk w2 (Nw w S) g n gs fr lv := h.mono (Nw.twice hsz)
end

/-! ### What it tells -/
/-- Who lives, of what State tells. -/
def on (gs fr : List Nat) (i : Nat) : Bool := decide (gs.getD i 0 ≤ 1000000) && !fr.contains i
def lvOf (gs fr : List Nat) : List (Nat × Nat) := (List.range gs.length).map fun i => if on gs fr i then (i, gs.getD i 0) else (0, 0)
theorem lvOf_len (gs fr : List Nat) : (lvOf gs fr).length = gs.length := by simp [lvOf]
theorem lvOf_at (gs fr : List Nat) (i : Nat) (h : i < gs.length) : (lvOf gs fr)[i]'(by rw [lvOf_len]; exact h) = if on gs fr i then (i, gs.getD i 0) else (0, 0) := by simp [lvOf]
/-- What may be told. -/
def Ok (n : Nat) (gs fr : List Nat) : Prop := 1 ≤ n ∧ n ≤ 200 ∧ gs.length ≤ n ∧ (∀ x ∈ gs, 1 ≤ x ∧ x ≤ 1000001) ∧ fr.Nodup ∧ ∀ i ∈ fr, i < gs.length ∧ gs.getD i 0 ≤ 999999
theorem Ok.gen {n : Nat} {gs fr : List Nat} (h : Ok n gs fr) (i : Nat) (hi : i < gs.length) : 1 ≤ gs.getD i 0 ∧ gs.getD i 0 ≤ 1000001 := by
  have := h.2.2.2.1 gs[i] (List.getElem_mem hi)
  simpa [hi] using this
/-- A pool that is whole. -/
def Pl (w : World) (S : Nat → Prop) (g n : Nat) (gs fr : List Nat) : Prop := Pk w S g n gs fr (lvOf gs fr) ∧ Ok n gs fr
section
variable {w w' : World} {S T : Nat → Prop} {g n : Nat} {gs fr : List Nat}
theorem Pl.mono (h : Pl w S g n gs fr) (hs : ∀ k, S k → T k) : Pl w T g n gs fr := ⟨h.1.mono hs, h.2⟩
theorem Pl.frame (h : Pl w S g n gs fr) (hm : Mv w w' T) (hs : ∀ k, S k → ¬ T k) : Pl w' S g n gs fr := ⟨h.1.frame hm hs, h.2⟩
theorem Pl.later (h : Pl w S g n gs fr) (hb : Below w.heap.size w w') : Pl w' S g n gs fr := ⟨h.1.later hb, h.2⟩
end
/-- An entity's value, and whether it lives under this number. -/
def ev (p : Nat × Nat) : Value := .agg #[.int .i64 (p.1 : Int), .int .i64 (p.2 : Int)]

/-! ### Calls that read -/
set_option maxHeartbeats 1000000 in
theorem i_new_bad (x : Int) (w : World) (h : x < 1 ∨ x > 200) : Calls Tryz.prog 72 #[.int .i64 x] w fun e w' => e = .returned (.tuple #[.pointer none, .int .i64 1]) ∧ w' = w := by
  by_cases h1 : x < 1
  · go_enter Tryz.func72, Tryz.ntmps72
    go_wp2_with fail
    go_ret2
    exact ⟨rfl, rfl⟩
  · have h2 : x > 200 := by omega
    clear h
    go_enter Tryz.func72, Tryz.ntmps72
    go_wp2_with fail
    go_ret2
    exact ⟨rfl, rfl⟩
set_option maxHeartbeats 1000000 in
theorem i_new_any (n : Nat) (w : World) (h1 : 1 ≤ n) (h2 : n ≤ 200) : Calls Tryz.prog 72 #[.int .i64 (n : Int)] w fun e w' => e = .returned (.tuple #[.pointer (some ⟨w.heap.size, 0, none⟩), .int .i64 0]) ∧ Pl w' (fun k => k = w.heap.size) w.heap.size n [] [] ∧ Below w.heap.size w w' := by
  have t1 : ¬ (n : Int) < 1 := by omega
  have t2 : ¬ (n : Int) > 200 := by omega
  go_enter Tryz.func72, Tryz.ntmps72
  go_wp2_with fail
  go_ret2
  refine ⟨rfl, ⟨⟨.slice none 0 0, .slice none 0 0, .slice none 0 0, ⟨heap_alloc_new w _, World.ownsRow_nil _ _ _ _, World.ownsRow_nil _ _ _ _, World.ownsRow_nil _ _ _ _, ?_, ?_, ?_, ?_⟩, rfl, In.nil _, In.nil _, In.nil _⟩, h1, h2, by simp, by simp, by simp, by simp⟩, below_alloc w _⟩
  · simp [Value.ownBlock]
  all_goals
    intro k e
    simp [Value.ownBlock] at e
end Go.Proofs.YtafmiolehlagkaaGreat

/-
  At and Lives.
-/
namespace Go.Proofs.YtafmiolehlagkaaGreat
open Go.RowKit
set_option maxRecDepth 100000
set_option maxHeartbeats 1000000 in
theorem at_neg (x : Int) (g n : Nat) (vg vl vf : Value) (gs fr : List Nat) (lv : List (Nat × Nat)) (w : World) (_h : Pm w g n vg vl vf gs fr lv) (hx : x < 0) :
    Calls Tryz.prog 131 #[.pointer (some ⟨g, 0, none⟩), .int .i64 x] w fun e w' => e = .returned (.tuple #[ev (0, 0), .int .i64 41]) ∧ Below w.heap.size w w' := by
  go_enter Tryz.func131, Tryz.ntmps131
  go_wp2_with fail
  (try simp only [Exit.inBlock, Exit.then])
  refine bodyPost_ret (v := .tuple #[ev (0, 0), .int .i64 41]) ?_ rfl ⟨rfl, below_alloc w _⟩
  rw [results_cell_tmp rfl]
  go_simp
  rfl
set_option maxHeartbeats 1000000 in
theorem at_far (x : Int) (g n : Nat) (vg vl vf : Value) (gs fr : List Nat) (lv : List (Nat × Nat)) (w : World) (h : Pm w g n vg vl vf gs fr lv) (hx : 0 ≤ x) (hx2 : (lv.length : Int) ≤ x) :
    Calls Tryz.prog 131 #[.pointer (some ⟨g, 0, none⟩), .int .i64 x] w fun e w' => e = .returned (.tuple #[ev (0, 0), .int .i64 41]) ∧ Below w.heap.size w w' := by
  have c2 : ∀ o, (w.alloc o).cell? ⟨g, 2, none⟩ = some vl := fun o => (h.later (below_alloc w o)).cell.2.2.1
  obtain ⟨ao, c, rfl⟩ := own_len h.2.2.1
  clear h
  have t1 : ¬ x < 0 := by omega
  go_enter Tryz.func131, Tryz.ntmps131
  go_wp2_with fail
  (try simp only [Exit.inBlock, Exit.then])
  refine bodyPost_ret (v := .tuple #[ev (0, 0), .int .i64 41]) ?_ rfl ⟨rfl, below_alloc w _⟩
  rw [results_cell_tmp rfl]
  go_simp
  rfl
set_option maxHeartbeats 1000000 in
theorem at_in (x g n : Nat) (vg vl vf : Value) (gs fr : List Nat) (lv : List (Nat × Nat)) (w : World) (h : Pm w g n vg vl vf gs fr lv) (hx : x < lv.length) :
    Calls Tryz.prog 131 #[.pointer (some ⟨g, 0, none⟩), .int .i64 (x : Int)] w fun e w' => e = .returned (.tuple #[ev (lv[x]), .int .i64 (if lv[x] = (0, 0) then 41 else 0)]) ∧ Below w.heap.size w w' := by
  have c2 : ∀ o, (w.alloc o).cell? ⟨g, 2, none⟩ = some vl := fun o => (h.later (below_alloc w o)).cell.2.2.1
  obtain ⟨gl, c, rfl, hc1, hc2⟩ := own_form h.2.2.1 (by omega)
  have e1 : ∀ o, (w.alloc o).cell? ⟨gl, x * 2, none⟩ = some (.int .i64 (lv[x].1 : Int)) := fun o => (i_own_ent (h.later (below_alloc w o)).2.2.1 x hx).1
  have e2 : ∀ o, (w.alloc o).cell? ⟨gl, x * 2 + 1, none⟩ = some (.int .i64 (lv[x].2 : Int)) := fun o => (i_own_ent (h.later (below_alloc w o)).2.2.1 x hx).2
  generalize lv[x] = p at *
  obtain ⟨a, b⟩ := p
  clear h
  have t1 : ¬ (x : Int) < 0 := by omega
  have t2 : (x : Int) < (lv.length : Int) := by omega
  have t3 : ¬ (lv.length : Int) ≤ (x : Int) := by omega
  go_enter Tryz.func131, Tryz.ntmps131
  go_wp2_with fail
  all_goals
    (try simp only [Exit.inBlock, Exit.then])
    refine bodyPost_ret (v := .tuple #[ev (_, _), .int .i64 _]) ?_ rfl ⟨rfl, below_alloc w _⟩
    rw [results_cell_tmp rfl]
    go_simp
    rfl
/-- Who lives under a number. -/
def isOn (gs fr : List Nat) (x : Int) : Bool := decide (0 ≤ x) && decide (x.toNat < gs.length) && on gs fr x.toNat
def atOf (gs fr : List Nat) (x : Int) : Nat × Nat := if isOn gs fr x then (x.toNat, gs.getD x.toNat 0) else (0, 0)
theorem at_any {w : World} {S : Nat → Prop} {g n : Nat} {gs fr : List Nat} (x : Int) (h : Pl w S g n gs fr) :
    Calls Tryz.prog 131 #[.pointer (some ⟨g, 0, none⟩), .int .i64 x] w fun e w' => e = .returned (.tuple #[ev (atOf gs fr x), .int .i64 (if isOn gs fr x then 0 else 41)]) ∧ Below w.heap.size w w' := by
  obtain ⟨⟨vg, vl, vf, hp, _⟩, ho⟩ := h
  by_cases h0 : 0 ≤ x
  · by_cases h1 : x.toNat < gs.length
    · obtain ⟨i, rfl⟩ : ∃ i : Nat, x = (i : Int) := ⟨x.toNat, by omega⟩
      have hi : i < gs.length := by omega
      refine (at_in i g n vg vl vf gs fr _ w hp (by rw [lvOf_len]; exact hi)).mono ?_
      rw [lvOf_at gs fr i hi]
      have hg := ho.gen i hi
      cases hon : on gs fr i with
      | true =>
        have e : isOn gs fr (i : Int) = true := by simp [isOn, hon, hi]
        simp only [atOf, e]
        have hne : ¬ (i, gs.getD i 0) = (0, 0) := fun hh => by
          have := congrArg Prod.snd hh
          simp only at this
          omega
        simp only [if_true, hne, if_false, Int.toNat_natCast]
        exact fun _ _ hh => hh
      | false =>
        have e : isOn gs fr (i : Int) = false := by simp [isOn, hon]
        simp only [atOf, e]
        exact fun _ _ hh => hh
    · have e : isOn gs fr x = false := by simp [isOn, h1]
      simp only [atOf, e]
      exact at_far x g n vg vl vf gs fr _ w hp h0 (by rw [lvOf_len]; omega)
  · have e : isOn gs fr x = false := by simp [isOn, h0]
    simp only [atOf, e]
    exact at_neg x g n vg vl vf gs fr _ w hp (by omega)
def livesOf (gs fr : List Nat) (a b : Int) : Bool := isOn gs fr a && decide (((gs.getD a.toNat 0 : Nat) : Int) = b)
set_option maxHeartbeats 1000000 in
theorem lives_any {w : World} {S : Nat → Prop} {g n : Nat} {gs fr : List Nat} (a b : Int) (h : Pl w S g n gs fr) :
    Calls Tryz.prog 87 #[.pointer (some ⟨g, 0, none⟩), .agg #[.int .i64 a, .int .i64 b]] w fun e w' => e = .returned (.bool (livesOf gs fr a b)) ∧ Below w.heap.size w w' := by
  have HA := hide (at_any a (h.later (below_alloc w (.cells #[.int .i64 a, .int .i64 b] 29))))
  clear h
  obtain ⟨p, hp⟩ : ∃ p, p = atOf gs fr a := ⟨_, rfl⟩
  rw [← hp] at HA
  cases hon : isOn gs fr a with
  | false =>
    rw [hon] at HA
    have HR : Hid (livesOf gs fr a b = false) := by simp [Hid, livesOf, hon]
    clear hp hon
    go_enter Tryz.func87, Tryz.ntmps87
    go_wp2_with fail
    refine HA.out.mono ?_
    rintro e w1 ⟨rfl, hb⟩
    have HB := hide (below_on (below_alloc w _) hb)
    clear hb HA
    unfold ev
    go_wp2_with fail
    go_ret
    rw [HR.out]
    exact ⟨rfl, below_on HB.out (below_alloc w1 _)⟩
  | true =>
    rw [hon] at HA
    have hx : p = (a.toNat, gs.getD a.toNat 0) := by rw [hp, atOf, hon]; rfl
    have h0 : 0 ≤ a := by
      have := hon
      simp [isOn] at this
      exact this.1.1
    have HR : Hid (livesOf gs fr a b = decide ((p.2 : Int) = b)) := by simp [Hid, livesOf, hon, hx]
    have h1 : (p.1 : Int) = a := by rw [hx]; simp; omega
    obtain ⟨p1, p2⟩ := p
    simp only at h1 HR
    subst h1
    clear hp hx hon
    go_enter Tryz.func87, Tryz.ntmps87
    go_wp2_with fail
    refine HA.out.mono ?_
    rintro e w1 ⟨rfl, hb⟩
    have c0 : ∀ o, (w1.alloc o).cell? ⟨w.heap.size, 0, none⟩ = some (.int .i64 (p1 : Int)) := fun o => by
      rw [(below_on hb (below_alloc w1 o)).cell (p := ⟨w.heap.size, 0, none⟩) (by simp)]
      simp
    have c1 : ∀ o, (w1.alloc o).cell? ⟨w.heap.size, 1, none⟩ = some (.int .i64 b) := fun o => by
      rw [(below_on hb (below_alloc w1 o)).cell (p := ⟨w.heap.size, 1, none⟩) (by simp)]
      simp
    have HB := hide (below_on (below_alloc w _) hb)
    clear hb HA
    unfold ev
    go_wp2_with fail
    all_goals
      go_ret
      rw [HR.out]
      refine ⟨?_, below_on HB.out (below_alloc w1 _)⟩
      simp [*]
end Go.Proofs.YtafmiolehlagkaaGreat

/-
  slices.Clone, slices.Delete, State.
-/
namespace Go.Proofs.YtafmiolehlagkaaGreat
open Go.RowKit
set_option maxRecDepth 100000
set_option maxHeartbeats 1000000 in
theorem i_clone_any (v : Value) (n : Nat) (l : List Nat) (w : World) (h : w.ownsRow 0 3 1 v n (ic l)) (hn : n ≤ 1000000) :
    Calls Tryz.prog 110 #[v] w fun e w' => ∃ v', e = .returned v' ∧ w'.ownsRow w.heap.size 3 1 v' n (ic l) ∧ Below w.heap.size w w' := by
  obtain ⟨i0, hi, hz0, hz1, hz2⟩ := info_parts info3
  have hl : n = l.length := by have := h.1; rw [ic_len] at this; omega
  have q33 : ∀ (w : World) (a : Option Addr) (n c n' c' : Nat), (binOp .eql 45 (.slice a n c) (.slice none n' c')).run Tryz.prog w = .ok (.bool a.isNone) w := fun w a n c n' c' => Lib.run_eql_slice_nil w _ _ a n c n' c' Tryz.underlying45
  subst hl
  rcases h.2 with ⟨rfl, hl⟩ | ⟨g, cap, cur, rfl, -, hg, h1, h2, hcs, htake⟩
  · obtain rfl : l = [] := List.eq_nil_of_length_eq_zero (by omega)
    clear h hl
    go_enter Tryz.func110, Tryz.ntmps110
    go_wp2_with fail
    go_ret
    exact ⟨_, rfl, World.ownsRow_nil _ _ _ _, Below.refl _ _⟩
  · have H := hide h
    clear h hg hcs htake
    go_enter Tryz.func110, Tryz.ntmps110
    go_wp2_with (at_builtin; refine wpList_append_own_at _ rfl _ _ 45 rfl w.heap.size 3 i0 (.int .i64 0) 1 8 Tryz.underlying45 hi hz0 hz1 hz2 rfl (by decide) _ 0 [] rfl (World.ownsRow_lit w #[] 0 (Nat.le_refl _) (Nat.zero_le _) rfl) ⟨g, 0, none⟩ l.length cap (ic l) rfl (by rw [ic_len]; omega) ?c1 (ic_one l) (by unfold maxLen; omega) (by omega) (by simp) ?_)
    case c1 => exact (H.out.alloc _).cells rfl
    intro v' w' ho hg _ _
    obtain ⟨ao, c, rfl⟩ := own_len ho
    have HO := hide ho
    have HG := hide hg
    clear ho hg
    go_wp2_with fail
    go_ret
    refine ⟨_, rfl, ?_, (below_alloc w _).grown HG.out (by simp) (fun k e => ?_)⟩
    · have := HO.out
      simpa using this
    · simp [Value.ownBlock] at e
      omega
theorem step_append_fits {P : Program} (w : World) {ops : Array Oper} {o : Oper} {a : Act} {K : Act → World → Prop} {Q : Exit → Act → World → Prop} {E : Prop} (hgd : o.guard = none) (s x : Operand) (t : TypeId)
    (ho : o.op = .call { callee := .builtin .append, args := #[s, x], argTypes := #[t, t] })
    (base : Nat) (e : TypeId) (i : TypeInfo) (size : Nat) (ht : P.underlying t = some (.slice e)) (hi : P.info? e = some i) (hsize : i.size = size)
    (g n cap : Nat) (xs : List Value) (hs : a.eval s = .slice (some ⟨g, 0, none⟩) n cap) (hown : w.ownsRow base e size (.slice (some ⟨g, 0, none⟩) n cap) n xs)
    (ad : Addr) (m c : Nat) (news : List Value) (hx : a.eval x = .slice (some ad) m c) (hl : news.length = m * size) (hnews : ∀ j u, news[j]? = some u → w.cell? (ad.add j) = some u) (h1 : ∀ u ∈ news, u.oneCell' = true)
    (hroom : n + m ≤ cap)
    (h : ∀ w', w'.ownsRow base e size (.slice (some ⟨g, 0, none⟩) (n + m) cap) (n + m) (xs ++ news) → w.grownBy w' (some g) → K (a.put o.dst (.slice (some ⟨g, 0, none⟩) (n + m) cap)) w') :
    if Region.wanted o (yielded ops a.tmps) = true then Oper.wp P o a w K Q else E := by
  have hw : Region.wanted o (yielded ops a.tmps) = true := by simp [Region.wanted, hgd]
  rw [if_pos hw]
  obtain ⟨w', hr, h2, h3⟩ := run_append_fits (P := P) w base t o.type e i size ht hi hsize g n cap xs hown ad m c news hl hnews h1 hroom
  unfold Oper.wp execOp
  simp only [ho, resolve, invoke, builtin, Sem.run_bind, Sem.run_pure, Result.andThen_ok, List.map_toArray, List.map_cons, List.map_nil, hs, hx, hr]
  exact h w' h2 h3
theorem own_cut {w : World} {B g c m k e : Nat} {xs : List Value} (h : w.ownsRow B e 1 (.slice (some ⟨g, 0, none⟩) m c) m xs) (hk : k ≤ m) : w.ownsRow B e 1 (.slice (some ⟨g, 0, none⟩) k c) k (xs.take k) := by
  have hlen := h.1
  rcases h.2 with ⟨h', _⟩ | ⟨gv', c', cur, h', hb, hg, h1, h2, h3, h4⟩
  · simp at h'
  · simp only [Value.slice.injEq, Option.some.injEq, Addr.mk.injEq, and_true, true_and] at h'
    obtain ⟨rfl, rfl⟩ := h'
    refine ⟨by rw [List.length_take]; omega, .inr ⟨g, c, cur, rfl, hb, hg, by omega, h2, h3, ?_⟩⟩
    rw [← h4, List.take_take]
    congr 1
    omega
/-- What lies behind the length. -/
theorem own_spare {w : World} {B g c m j e : Nat} {xs : List Value} (h : w.ownsRow B e 1 (.slice (some ⟨g, 0, none⟩) m c) m xs) (hj : j < c) : (∃ u, w.cell? ⟨g, j, none⟩ = some u) ∧ w.frozen? ⟨g, j, none⟩ = false := by
  rcases h.2 with ⟨h', _⟩ | ⟨gv', c', cur, h', hb, hg, h1, h2, h3, h4⟩
  · simp at h'
  · simp only [Value.slice.injEq, Option.some.injEq, Addr.mk.injEq, and_true, true_and] at h'
    obtain ⟨rfl, rfl⟩ := h'
    refine ⟨⟨cur[j]'(by omega), ?_⟩, frozen_of_row w g j _ e hg⟩
    rw [cell_of_row w g j cur e (0, 0) hg, Array.getElem?_eq_getElem]
theorem own_beyond {w : World} {B g c m j e : Nat} {xs : List Value} {u : Value} (h : w.ownsRow B e 1 (.slice (some ⟨g, 0, none⟩) m c) m xs) (hj : m ≤ j) : (w.setCell ⟨g, j, none⟩ u).ownsRow B e 1 (.slice (some ⟨g, 0, none⟩) m c) m xs := by
  have := (h.stored j u).1
  rwa [List.set_eq_of_length_le (by have := h.1; omega)] at this
set_option maxHeartbeats 1000000 in
theorem delete_first (g c x : Nat) (l : List Nat) (w : World) (h : w.ownsRow 0 3 1 (.slice (some ⟨g, 0, none⟩) (l.length + 1) c) (l.length + 1) (ic (x :: l))) (hn : l.length ≤ 1000000) :
    Calls Tryz.prog 182 #[.slice (some ⟨g, 0, none⟩) (l.length + 1) c, .int .i64 0, .int .i64 1] w fun e w' => e = .returned (.slice (some ⟨g, 0, none⟩) l.length c) ∧ w'.ownsRow 0 3 1 (.slice (some ⟨g, 0, none⟩) l.length c) l.length (ic l) ∧ Mv w w' (fun k => k = g) := by
  obtain ⟨i0, hi, hz0, hz1, hz2⟩ := info_parts info3
  obtain ⟨hc1, hc2⟩ := own_cap h
  have t1 : (1 : Int) ≤ (l.length : Int) + 1 := by omega
  have t2 : (l.length : Int) + 1 ≤ (c : Int) := by omega
  have HC : Hid (w.drew.ownsRow 0 3 1 (.slice (some ⟨g, 0, none⟩) 0 c) 0 []) := own_cut (k := 0) h (by omega)
  have HN : Hid (∀ j u, (ic l)[j]? = some u → w.drew.cell? ((⟨g, 1, none⟩ : Addr).add j) = some u) := fun j u hj => by
    have hjl : j < l.length := by rw [← ic_len]; exact (List.getElem?_eq_some_iff.1 hj).1
    have := h.cellAt (j + 1) (by omega)
    rw [WideShapes.add_plain, Nat.add_comm]
    refine this.trans ?_
    rw [← hj]
    simp [ic]
  have K : Hid (∀ w9 : World, w9.ownsRow 0 3 1 (.slice (some ⟨g, 0, none⟩) (0 + l.length) c) (0 + l.length) ([] ++ ic l) → w.drew.grownBy w9 (some g) → (w9.ownsRow 0 3 1 (.slice (some ⟨g, 0, none⟩) l.length c) l.length (ic l) ∧ Mv w w9 (fun k => k = g)) ∧ (∃ u, w9.cell? ⟨g, l.length, none⟩ = some u) ∧ w9.frozen? ⟨g, l.length, none⟩ = false) := fun w9 h1 h2 => by
    rw [Nat.zero_add, List.nil_append] at h1
    have := own_spare (j := l.length) h1 (by omega)
    exact ⟨⟨h1, (Mv.of_below (below_drew w) _).grown h2 (fun k _ e => by cases e; rfl)⟩, this⟩
  have CL : Hid (∀ w9 : World, (∃ u, w9.cell? ⟨g, l.length, none⟩ = some u) → w9.frozen? ⟨g, l.length, none⟩ = false → ∀ ty k, (Builtin.clear_ #[45] ty #[.slice (some ⟨g, l.length, none⟩) 1 k]).run Tryz.prog w9 = .ok (.tuple #[]) (w9.setCell ⟨g, l.length, none⟩ (.int .i64 0))) := fun w9 h1 h2 ty k => by
    refine Lib.run_clear_slice w9 45 3 ty (.int .i64 0) Tryz.underlying45 (fun W => ?_) rfl rfl g l.length 1 k (by omega) (fun j hj => ?_) (fun j hj => ?_)
    · simp [zeroValue, typeInfo, hi, hz0]
    · obtain rfl : j = 0 := by omega
      obtain ⟨u, hu⟩ := h1
      simp [hu]
    · obtain rfl : j = 0 := by omega
      simpa using h2
  have u1 : ¬ c = l.length := by omega
  have u2 : l.length ≤ c := by omega
  have u3 : (l.length : Int) ≤ (l.length : Int) + 1 := by omega
  have u4 : l.length + 1 - l.length = 1 := by omega
  clear h
  by_cases hc : c = 1
  · have hl0 : l.length = 0 := by omega
    obtain rfl : l = [] := List.eq_nil_of_length_eq_zero hl0
    subst hc
    clear u1 u2 u3 u4 hl0
    go_enter Tryz.func182, Tryz.ntmps182
    go_wp2_with fail
    go_region_law (refine step_append_fits _ rfl (.tmp 22) (.tmp 25) 45 rfl 0 3 i0 1 Tryz.underlying45 hi hz1 g 0 1 [] (by simp [Act.eval, Act.put]) HC.out ⟨g, 0, none⟩ 0 0 [] (by simp [Act.eval, Act.put]) rfl (fun j u hj => by simp at hj) (fun u hu => by simp at hu) (by omega) ?_; intro w9 ho9 hg9; obtain ⟨hk9, hu, hf9⟩ := K.out w9 ho9 hg9; have HK9 := hide hk9; have hcl := CL.out w9 hu hf9; clear ho9 hg9 hk9)
    all_goals
      simp only [List.length_nil] at hcl hu hf9
      go_wp2_with fail
      go_ret
      refine ⟨rfl, own_beyond HK9.out.1 (Nat.le_refl _), HK9.out.2.set rfl _ _⟩
  · go_enter Tryz.func182, Tryz.ntmps182
    go_wp2_with fail
    go_region_law (refine step_append_fits _ rfl (.tmp 22) (.tmp 25) 45 rfl 0 3 i0 1 Tryz.underlying45 hi hz1 g 0 c [] (by simp [Act.eval, Act.put]) HC.out ⟨g, 1, none⟩ l.length (c - 1) (ic l) (by simp [Act.eval, Act.put]) (by rw [ic_len]; omega) HN.out (ic_one l) (by omega) ?_; intro w9 ho9 hg9; obtain ⟨hk9, hu, hf9⟩ := K.out w9 ho9 hg9; have HK9 := hide hk9; have hcl := CL.out w9 hu hf9; clear ho9 hg9 hk9)
    all_goals
      go_wp2_with fail
      go_ret
      refine ⟨rfl, own_beyond HK9.out.1 (Nat.le_refl _), HK9.out.2.set rfl _ _⟩
end Go.Proofs.YtafmiolehlagkaaGreat

/-
  State.
-/
namespace Go.Proofs.YtafmiolehlagkaaGreat
open Go.RowKit
set_option maxRecDepth 100000
theorem nodup_len : ∀ (n : Nat) (l : List Nat), l.Nodup → (∀ x ∈ l, x < n) → l.length ≤ n
  | 0, l, _, h => by
    cases l with
    | nil => simp
    | cons x t => have := h x (by simp); omega
  | n + 1, l, hd, h => by
    by_cases hn : n ∈ l
    · have := nodup_len n (l.erase n) (hd.erase n) (fun x hx => by
        have h1 := hd.mem_erase_iff.1 hx
        have := h x h1.2
        have := h1.1
        omega)
      rw [List.length_erase_of_mem hn] at this
      omega
    · have := nodup_len n l hd (fun x hx => by
        have h1 := h x hx
        have : x ≠ n := fun e => hn (e ▸ hx)
        omega)
      omega
theorem Ok.free_len {n : Nat} {gs fr : List Nat} (h : Ok n gs fr) : fr.length ≤ gs.length := nodup_len _ _ h.2.2.2.2.1 (fun x hx => (h.2.2.2.2.2 x hx).1)
set_option maxHeartbeats 2000000 in
set_option maxRecDepth 100000 in
theorem state_pm (g n : Nat) (vg vl vf : Value) (gs fr : List Nat) (lv : List (Nat × Nat)) (w : World) (h : Pm w g n vg vl vf gs fr lv) (hg : gs.length ≤ 1000000) (hf : fr.length ≤ 1000000) :
    Calls Tryz.prog 50 #[.pointer (some ⟨g, 0, none⟩)] w fun e w' => ∃ v1 v2, e = .returned (.tuple #[v1, v2]) ∧ w'.ownsRow w.heap.size 3 1 v1 gs.length (ic gs) ∧ w'.ownsRow w.heap.size 3 1 v2 fr.length (ic fr) ∧ Ap v1 v2 ∧ Below w.heap.size w w' := by
  obtain ⟨c0, c1, c2, c3⟩ := h.cell
  have J1 : Hid (∀ W, Below w.heap.size w W → Calls Tryz.prog 110 #[vg] W fun e w' => ∃ v', e = .returned v' ∧ Hid (w'.ownsRow w.heap.size 3 1 v' gs.length (ic gs) ∧ Below w.heap.size w w') ∧ w'.cell? ⟨g, 1, none⟩ = some vg ∧ w'.cell? ⟨g, 3, none⟩ = some vf) := fun W hW =>
    (i_clone_any vg gs.length gs W (own_later h.2.1 hW) hg).mono (by
      rintro e w' ⟨v', rfl, ho, hb⟩
      have hx := below_on hW hb
      have hp := (h.later hx).cell
      exact ⟨v', rfl, ⟨own_lower ho hW.size, hx⟩, hp.2.1, hp.2.2.2⟩)
  have J2 : Hid (∀ W v1, W.ownsRow w.heap.size 3 1 v1 gs.length (ic gs) → Below w.heap.size w W → Calls Tryz.prog 110 #[vf] W fun e w' => ∃ v', e = .returned v' ∧ Hid (w'.ownsRow w.heap.size 3 1 v1 gs.length (ic gs) ∧ w'.ownsRow w.heap.size 3 1 v' fr.length (ic fr) ∧ Ap v1 v' ∧ Below w.heap.size w w') ∧ w'.cell? ⟨g, 1, none⟩ = some vg ∧ w'.cell? ⟨g, 3, none⟩ = some vf) := fun W v1 h1 hW =>
    (i_clone_any vf fr.length fr W (own_later h.2.2.2.1 hW) hf).mono (by
      rintro e w' ⟨v', rfl, ho, hb⟩
      have hx := below_on hW hb
      have hp := (h.later hx).cell
      refine ⟨v', rfl, ⟨own_later h1 hb, own_lower ho hW.size, fun k e1 e2 => ?_, hx⟩, hp.2.1, hp.2.2.2⟩
      have := (h1.lt k e1).2
      have := (ho.lt k e2).1
      omega)
  clear h
  go_enter Tryz.func50, Tryz.ntmps50
  go_wp2_with fail
  go_region_held3 (fun W => W.cell? ⟨g, 1, none⟩ = some vg ∧ W.cell? ⟨g, 3, none⟩ = some vf) (go_keep) (first | (go_at_call 110; refine (J1.out _ (below_drew w)).mono ?_; rintro e w1 ⟨v1, rfl, HH, d1, d3⟩) | (go_at_call 110; refine (J2.out _ _ HH.out.1 HH.out.2).mono ?_; rintro e w2 ⟨v2, rfl, HH2, d1', d3'⟩))
  all_goals
    go_wp2_with fail
    go_ret2
    exact ⟨_, _, rfl, HH2.out⟩
theorem state_any {w : World} {S : Nat → Prop} {g n : Nat} {gs fr : List Nat} (h : Pl w S g n gs fr) :
    Calls Tryz.prog 50 #[.pointer (some ⟨g, 0, none⟩)] w fun e w' => ∃ v1 v2, e = .returned (.tuple #[v1, v2]) ∧ w'.ownsRow w.heap.size 3 1 v1 gs.length (ic gs) ∧ w'.ownsRow w.heap.size 3 1 v2 fr.length (ic fr) ∧ Ap v1 v2 ∧ Below w.heap.size w w' := by
  obtain ⟨⟨vg, vl, vf, hp, _⟩, ho⟩ := h
  exact state_pm g n vg vl vf gs fr _ w hp (by have := ho.2.2.1; have := ho.2.1; omega) (by have := ho.free_len; have := ho.2.2.1; have := ho.2.1; omega)
end Go.Proofs.YtafmiolehlagkaaGreat

/-
  Give.
-/
namespace Go.Proofs.YtafmiolehlagkaaGreat
open Go.RowKit
set_option maxRecDepth 100000
/-- The free row grows. -/
theorem Pm.grow_free {w W W' : World} {g n g9 c9 x : Nat} {vg vl vf : Value} {gs fr : List Nat} {lv : List (Nat × Nat)} (h : Pm w g n vg vl vf gs fr lv) (hb : Below w.heap.size w W) (ho : W'.ownsRow 0 3 1 (.slice (some ⟨g9, 0, none⟩) (fr.length + 1) c9) (fr.length + 1) (ic fr ++ [.int .i64 (x : Int)])) (hg : W.grownBy W' vf.ownBlock) (ha : vf.ownBlock = some g9 ∨ g9 = W.heap.size) :
    W'.heap[g]? = some (.cells #[.int .i64 (n : Int), vg, vl, vf] 163 (0, 0)) ∧ Pm (W'.setCell ⟨g, 3, none⟩ (.slice (some ⟨g9, 0, none⟩) (fr.length + 1) c9)) g n vg vl (.slice (some ⟨g9, 0, none⟩) (fr.length + 1) c9) gs (fr ++ [x]) lv ∧ (∀ k, (Value.slice (some ⟨g9, 0, none⟩) (fr.length + 1) c9).ownBlock = some k → vf.ownBlock = some k ∨ w.heap.size ≤ k) ∧ Mv w (W'.setCell ⟨g, 3, none⟩ (.slice (some ⟨g9, 0, none⟩) (fr.length + 1) c9)) (fun k => k = g ∨ vf.ownBlock = some k) := by
  have hW := h.later hb
  have hlt := h.lt
  have hsz := hb.size
  obtain ⟨a1, a2, a3, a4, ⟨a5, a6, a7⟩, a8, a9, a10⟩ := hW
  have hg1 : W'.heap[g]? = some (.cells #[.int .i64 (n : Int), vg, vl, vf] 163 (0, 0)) := (hg.block g (by omega) (fun e => a7 e.symm)).trans a1
  have n3 : (Value.slice (some ⟨g9, 0, none⟩) (fr.length + 1) c9).ownBlock ≠ some g := fun e => by
    simp only [Value.ownBlock, Option.some.injEq] at e
    rcases ha with h | h
    · exact a7 (by rw [h, e])
    · omega
  have loc : ∀ k, (Value.slice (some ⟨g9, 0, none⟩) (fr.length + 1) c9).ownBlock = some k → vf.ownBlock = some k ∨ W.heap.size ≤ k := fun k e => by
    simp only [Value.ownBlock, Option.some.injEq] at e
    rcases ha with h | h
    · exact .inl (by rw [h, e])
    · exact .inr (by omega)
  refine ⟨hg1, ⟨?_, own_set (own_kept a2 hg (fun k e1 e2 => a9 k e1 e2)) a5, own_set (own_kept a3 hg (fun k e1 e2 => a10 k e1 e2)) a6, ?_, ⟨a5, a6, n3⟩, a8, fun k e1 e2 => ?_, fun k e1 e2 => ?_⟩, fun k e => (loc k e).imp id (fun h => by omega), ((Mv.of_below hb _).grown hg (fun k _ e => .inr e)).set (.inl rfl) _ _⟩
  · rw [heap_setCell_same W' g 3 _ 163 _ hg1]
    rfl
  · rw [List.length_append, ic_append]
    exact own_set ho n3
  · rcases loc k e2 with h | h
    · exact a9 k e1 h
    · have := (a2.lt k e1).2
      omega
  · rcases loc k e2 with h | h
    · exact a10 k e1 h
    · have := (a3.lt k e1).2
      omega
set_option maxHeartbeats 1000000 in
theorem give_stale {w : World} {S : Nat → Prop} {g n : Nat} {gs fr : List Nat} (a b : Int) (h : Pl w S g n gs fr) (hl : livesOf gs fr a b = false) :
    Calls Tryz.prog 86 #[.pointer (some ⟨g, 0, none⟩), .agg #[.int .i64 a, .int .i64 b]] w fun e w' => e = .returned (.int .i64 41) ∧ Below w.heap.size w w' := by
  have HL := hide (lives_any a b (h.later (below_alloc w (.cells #[.int .i64 a, .int .i64 b] 29))))
  rw [hl] at HL
  clear h hl
  go_enter Tryz.func86, Tryz.ntmps86
  go_wp2_with fail
  refine HL.out.mono ?_
  rintro e w1 ⟨rfl, hb⟩
  have HB := hide (below_on (below_alloc w _) hb)
  clear hb HL
  go_wp2_with fail
  go_ret
  exact ⟨rfl, HB.out⟩
set_option maxHeartbeats 4000000 in
set_option maxRecDepth 100000 in
theorem give_walk (g n i y : Nat) (vg vl vf : Value) (gs fr : List Nat) (lv : List (Nat × Nat)) (w : World) (h : Pm w g n vg vl vf gs fr lv) (hi : i < gs.length) (hil : i < lv.length) (hfl : fr.length ≤ 1000000)
    (hL : Calls Tryz.prog 87 #[.pointer (some ⟨g, 0, none⟩), .agg #[.int .i64 (i : Int), .int .i64 (y : Int)]] (w.alloc (.cells #[.int .i64 (i : Int), .int .i64 (y : Int)] 29)) fun e w' => e = .returned (.bool true) ∧ Below (w.alloc (.cells #[.int .i64 (i : Int), .int .i64 (y : Int)] 29)).heap.size (w.alloc (.cells #[.int .i64 (i : Int), .int .i64 (y : Int)] 29)) w') :
    Calls Tryz.prog 86 #[.pointer (some ⟨g, 0, none⟩), .agg #[.int .i64 (i : Int), .int .i64 (y : Int)]] w fun e w' => e = .returned (.int .i64 0) ∧ ∃ vf', Pm w' g n vg vl vf' (if y = 1000000 then gs.set i 1000001 else gs) (if y = 1000000 then fr else fr ++ [i]) (lv.set i (0, 0)) ∧ (∀ k, vf'.ownBlock = some k → vf.ownBlock = some k ∨ w.heap.size ≤ k) ∧ Mv w w' (fun k => k = g ∨ vg.ownBlock = some k ∨ vl.ownBlock = some k ∨ vf.ownBlock = some k) := by
  obtain ⟨i3, hi3, hx0, hx1, hx2⟩ := info_parts info3
  obtain ⟨gg, cg, rfl, hg1, hg2⟩ := own_form h.2.1 (by omega)
  obtain ⟨gl, cl, rfl, hl1, hl2⟩ := own_form h.2.2.1 (by omega)
  obtain ⟨aof, cf, rfl⟩ := own_len h.2.2.2.1
  have hne : gg ≠ gl := fun e => h.2.2.2.2.2.1 gg rfl (by rw [e]; rfl)
  have hgl : gl ≠ g := fun e => h.2.2.2.2.1.2.1 (by rw [e]; rfl)
  have hll := (h.2.2.1.lt gl rfl).2
  have hlg := (h.2.1.lt gg rfl).2
  have hgw := h.lt
  have HL := hide hL
  have H := hide h
  clear hL h
  go_enter Tryz.func86, Tryz.ntmps86
  go_wp2_with fail
  refine HL.out.mono ?_
  rintro e w1 ⟨rfl, hb⟩
  have hb1 := below_on (below_alloc w (.cells #[.int .i64 (i : Int), .int .i64 (y : Int)] 29)) hb
  have hp1 := H.out.later hb1
  have bx : w1.heap[w.heap.size]? = some (.cells #[.int .i64 (i : Int), .int .i64 (y : Int)] 29 (0, 0)) := (hb.block w.heap.size (by simp)).trans (heap_alloc_new w _)
  obtain ⟨l1, l2⟩ := i_own_ent hp1.2.2.1 i hil
  have lf1 := hp1.2.2.1.frozenAt (i * 2)
  have lf2 := hp1.2.2.1.frozenAt (i * 2 + 1)
  have hp2 := hp1.set_live i 0 0 hil
  have bx2 : ((w1.setCell ⟨gl, i * 2, none⟩ (.int .i64 ((0 : Nat) : Int))).setCell ⟨gl, i * 2 + 1, none⟩ (.int .i64 ((0 : Nat) : Int))).heap[w.heap.size]? = some (.cells #[.int .i64 (i : Int), .int .i64 (y : Int)] 29 (0, 0)) := (heap_setCell_other _ ⟨gl, i * 2 + 1, none⟩ w.heap.size _ (by show w.heap.size ≠ gl; omega)).trans ((heap_setCell_other w1 ⟨gl, i * 2, none⟩ w.heap.size _ (by show w.heap.size ≠ gl; omega)).trans bx)
  have HM2 : Hid (Mv w ((w1.setCell ⟨gl, i * 2, none⟩ (.int .i64 ((0 : Nat) : Int))).setCell ⟨gl, i * 2 + 1, none⟩ (.int .i64 ((0 : Nat) : Int))) (fun k => k = g ∨ (Value.slice (some ⟨gg, 0, none⟩) gs.length cg).ownBlock = some k ∨ (Value.slice (some ⟨gl, 0, none⟩) lv.length cl).ownBlock = some k ∨ (Value.slice aof fr.length cf).ownBlock = some k)) := ((Mv.of_below hb1 _).set (g := gl) (.inr (.inr (.inl rfl))) _ _).set (g := gl) (.inr (.inr (.inl rfl))) _ _
  have ez : ((0 : Nat) : Int) = 0 := rfl
  rw [ez] at hp2 bx2 HM2
  have c := hp1.cell
  obtain ⟨-, c1, c2, c3⟩ := c
  obtain ⟨-, d1, d2, d3⟩ := hp2.cell
  have b0 : w1.cell? ⟨w.heap.size, 0, none⟩ = some (.int .i64 (i : Int)) := by rw [cell_of_row w1 w.heap.size _ _ 29 (0, 0) bx]; rfl
  have q0 : ((w1.setCell ⟨gl, i * 2, none⟩ (.int .i64 0)).setCell ⟨gl, i * 2 + 1, none⟩ (.int .i64 0)).cell? ⟨w.heap.size, 0, none⟩ = some (.int .i64 (i : Int)) := by rw [cell_of_row _ w.heap.size _ _ 29 (0, 0) bx2]; rfl
  have t1 : (i : Int) < (gs.length : Int) := by omega
  have t2 : (i : Int) < (lv.length : Int) := by omega
  have HP2 := hide hp2
  clear hb hp1 hp2 bx HL H
  go_upto_region 3 with fail
  go_region_held3 (fun W => W.cell? ⟨g, 2, none⟩ = some (.slice (some ⟨gl, 0, none⟩) lv.length cl) ∧ W.cell? ⟨w.heap.size, 0, none⟩ = some (.int .i64 (i : Int))) (go_keep) (fail)
  obtain ⟨w2, hw2⟩ : ∃ X, X = ((w1.setCell ⟨gl, i * 2, none⟩ (.int .i64 0)).setCell ⟨gl, i * 2 + 1, none⟩ (.int .i64 0)).drew := ⟨_, rfl⟩
  have HP3 : Hid (Pm w2 g n (.slice (some ⟨gg, 0, none⟩) gs.length cg) (.slice (some ⟨gl, 0, none⟩) lv.length cl) (.slice aof fr.length cf) gs fr (lv.set i (0, 0))) := hw2 ▸ HP2.out.later (below_drew _)
  have HM3 := hide (HM2.out.later (below_drew _))
  have bx3 : w2.heap[w.heap.size]? = some (.cells #[.int .i64 (i : Int), .int .i64 (y : Int)] 29 (0, 0)) := hw2 ▸ bx2
  rw [← hw2] at HM3 ⊢
  clear hw2 HM2 HP2 bx2 c1 c2 c3 d1 d2 d3 b0 q0 l1 l2 lf1 lf2 hb1
  obtain ⟨-, c1, c2, c3⟩ := HP3.out.cell
  have b0 : w2.cell? ⟨w.heap.size, 0, none⟩ = some (.int .i64 (i : Int)) := by rw [cell_of_row w2 w.heap.size _ _ 29 (0, 0) bx3]; rfl
  have b1 : w2.cell? ⟨w.heap.size, 1, none⟩ = some (.int .i64 (y : Int)) := by rw [cell_of_row w2 w.heap.size _ _ 29 (0, 0) bx3]; rfl
  by_cases hy : y = 1000000
  · subst hy
    have e1 := own_int HP3.out.2.1 i hi
    have f1 := HP3.out.2.1.frozenAt i
    have hp4 := HP3.out.set_gen i 1000001
    obtain ⟨-, d1, -, -⟩ := hp4.cell
    have q0 : (w2.setCell ⟨gg, i, none⟩ (.int .i64 ((1000001 : Nat) : Int))).cell? ⟨w.heap.size, 0, none⟩ = some (.int .i64 (i : Int)) := by
      rw [World.cell?_setCell_far _ ⟨gg, i, none⟩ _ _ (by show gg ≠ w.heap.size; omega)]
      exact b0
    have HM4 := hide (HM3.out.set (g := gg) (.inr (.inl rfl)) i (.int .i64 ((1000001 : Nat) : Int)))
    have ez : ((1000001 : Nat) : Int) = 1000001 := rfl
    rw [ez] at hp4 d1 q0 HM4
    have HP4 := hide hp4
    clear hp4
    go_upto_region 5 with fail
    go_region_held3 (fun W => W.cell? ⟨g, 1, none⟩ = some (.slice (some ⟨gg, 0, none⟩) gs.length cg) ∧ W.cell? ⟨w.heap.size, 0, none⟩ = some (.int .i64 (i : Int))) (go_keep) (fail)
    go_wp2_with fail
    go_ret
    exact ⟨rfl, _, HP4.out.later (below_drew _), fun k e => .inl e, HM4.out.later (below_drew _)⟩
  · have t3 : ((y : Int) == 1000000) = false := by rw [beq_eq_false_iff_ne]; omega
    have k3 : ∀ o, (w2.alloc o).cell? ⟨g, 3, none⟩ = some (.slice aof fr.length cf) := fun o => (HP3.out.later (below_alloc w2 o)).cell.2.2.2
    have HO : Hid ((w2.drew.alloc (.cells #[.int .i64 (i : Int)] 3)).ownsRow 0 3 1 (.slice aof fr.length cf) fr.length (ic fr)) := own_later HP3.out.2.2.2.1 (below_on (below_drew w2) (below_alloc _ _))
    have K9 : Hid (∀ (g9 c9 : Nat) (w9 : World), w9.ownsRow 0 3 1 (.slice (some ⟨g9, 0, none⟩) (fr.length + 1) c9) (fr.length + 1) (ic fr ++ [.int .i64 (i : Int)]) → (w2.drew.alloc (.cells #[.int .i64 (i : Int)] 3)).grownBy w9 (Value.slice aof fr.length cf).ownBlock → ((Value.slice aof fr.length cf).ownBlock = some g9 ∨ g9 = (w2.drew.alloc (.cells #[.int .i64 (i : Int)] 3)).heap.size) → (w9.heap[g]? = some (.cells #[.int .i64 (n : Int), .slice (some ⟨gg, 0, none⟩) gs.length cg, .slice (some ⟨gl, 0, none⟩) lv.length cl, .slice aof fr.length cf] 163 (0, 0)) ∧ Pm (w9.setCell ⟨g, 3, none⟩ (.slice (some ⟨g9, 0, none⟩) (fr.length + 1) c9)) g n (.slice (some ⟨gg, 0, none⟩) gs.length cg) (.slice (some ⟨gl, 0, none⟩) lv.length cl) (.slice (some ⟨g9, 0, none⟩) (fr.length + 1) c9) gs (fr ++ [i]) (lv.set i (0, 0)) ∧ (∀ k, (Value.slice (some ⟨g9, 0, none⟩) (fr.length + 1) c9).ownBlock = some k → (Value.slice aof fr.length cf).ownBlock = some k ∨ w2.heap.size ≤ k) ∧ Mv w2 (w9.setCell ⟨g, 3, none⟩ (.slice (some ⟨g9, 0, none⟩) (fr.length + 1) c9)) (fun k => k = g ∨ (Value.slice aof fr.length cf).ownBlock = some k))) := fun g9 c9 w9 h1 h2 h3 => HP3.out.grow_free (below_on (below_drew w2) (below_alloc _ _)) h1 h2 h3
    go_upto_region 6 with fail
    go_region_law (refine step_append_lies _ rfl (.tmp 31) (.tmp 34) 45 rfl 0 3 i3 (.int .i64 0) 1 8 Tryz.underlying45 hi3 hx0 hx1 hx2 rfl (by decide) (.slice aof fr.length cf) fr.length (ic fr) (by simp [Act.eval]) HO.out ⟨w2.heap.size, 0, none⟩ 1 1 [.int .i64 (i : Int)] (by simp [Act.eval]) rfl (by intro j u hj; match j, hj with | 0, hj => simp at hj; subst hj; simp [Addr.add]) (by intro u hu; simp at hu; subst hu; rfl) (by omega) (by unfold maxLen; omega) (by omega) (Nat.zero_le _) _ rfl ?_; intro g9 c9 w9 ho9 hg9 ha9 _; obtain ⟨p1, p2, p3, p4⟩ := K9.out g9 c9 w9 ho9 hg9 ha9; have d3 : w9.cell? ⟨g, 3, none⟩ = some (.slice aof fr.length cf) := (cell_of_row w9 g 3 _ 163 (0, 0) p1).trans rfl; have y3 : w9.frozen? ⟨g, 3, none⟩ = false := frozen_of_row w9 g 3 _ 163 p1; have P2 := hide p2; have P3 := hide p3; have P4 := hide p4; clear ho9 hg9 ha9 p1 p2 p3 p4)
    all_goals
      go_wp2_with fail
      go_ret
      refine ⟨rfl, _, P2.out, fun k e => (P3.out k e).imp id (fun h => Nat.le_trans HM3.out.size h), HM3.out.trans P4.out (fun k _ e => ?_)⟩
      rcases e with e | e
      · exact .inl e
      · exact .inr (.inr (.inr e))
theorem lv_give {i : Nat} {gs fr : List Nat} (hi : i < gs.length) :
    (lvOf gs fr).set i (0, 0) = lvOf (if gs.getD i 0 = 1000000 then gs.set i 1000001 else gs) (if gs.getD i 0 = 1000000 then fr else fr ++ [i]) := by
  by_cases hw : gs.getD i 0 = 1000000
  · rw [if_pos hw, if_pos hw]
    apply List.ext_getElem
    · simp [lvOf_len]
    · intro j h1 h2
      have hj : j < gs.length := by simpa [lvOf_len] using h1
      rw [lvOf_at _ _ j (by simpa using hj), List.getElem_set]
      by_cases hij : i = j
      · subst hij
        have e : on (gs.set i 1000001) fr i = false := by simp [on, hi]
        rw [if_pos rfl, e]
        rfl
      · rw [if_neg hij, lvOf_at _ _ j hj]
        have e : (gs.set i 1000001).getD j 0 = gs.getD j 0 := by simp [List.getD_eq_getElem?_getD, hij]
        have e2 : on (gs.set i 1000001) fr j = on gs fr j := by simp only [on, e]
        rw [e2, e]
  · rw [if_neg hw, if_neg hw]
    apply List.ext_getElem
    · simp [lvOf_len]
    · intro j h1 h2
      have hj : j < gs.length := by simpa [lvOf_len] using h1
      rw [lvOf_at _ _ j hj, List.getElem_set]
      by_cases hij : i = j
      · subst hij
        have e : on gs (fr ++ [i]) i = false := by simp [on]
        rw [if_pos rfl, e]
        rfl
      · rw [if_neg hij, lvOf_at _ _ j hj]
        have e : on gs (fr ++ [i]) j = on gs fr j := by simp [on, Ne.symm hij]
        rw [e]
theorem ok_give {n i : Nat} {gs fr : List Nat} (h : Ok n gs fr) (hi : i < gs.length) (hl : gs.getD i 0 ≤ 1000000) (hf : i ∉ fr) :
    Ok n (if gs.getD i 0 = 1000000 then gs.set i 1000001 else gs) (if gs.getD i 0 = 1000000 then fr else fr ++ [i]) := by
  obtain ⟨h1, h2, h3, h4, h5, h6⟩ := h
  by_cases hw : gs.getD i 0 = 1000000
  · rw [if_pos hw, if_pos hw]
    refine ⟨h1, h2, by simpa using h3, fun x hx => ?_, h5, fun j hj => ?_⟩
    · rcases List.mem_or_eq_of_mem_set hx with h | h
      · exact h4 x h
      · omega
    · have := h6 j hj
      have hij : i ≠ j := fun e => hf (e ▸ hj)
      have e : (gs.set i 1000001).getD j 0 = gs.getD j 0 := by simp [List.getD_eq_getElem?_getD, hij]
      rw [List.length_set, e]
      exact this
  · rw [if_neg hw, if_neg hw]
    refine ⟨h1, h2, h3, h4, ?_, fun j hj => ?_⟩
    · rw [List.nodup_append]
      refine ⟨h5, by simp, fun a ha b hb => ?_⟩
      simp at hb
      subst hb
      exact fun e => hf (e ▸ ha)
    · rcases List.mem_append.1 hj with h | h
      · exact h6 j h
      · simp at h
        subst h
        exact ⟨hi, by omega⟩
theorem give_live {w : World} {S : Nat → Prop} {g n i : Nat} {gs fr : List Nat} (h : Pl w S g n gs fr) (hi : i < gs.length) (hl : gs.getD i 0 ≤ 1000000) (hf : i ∉ fr) :
    Calls Tryz.prog 86 #[.pointer (some ⟨g, 0, none⟩), ev (i, gs.getD i 0)] w fun e w' => e = .returned (.int .i64 0) ∧ Pl w' (Nw w S) g n (if gs.getD i 0 = 1000000 then gs.set i 1000001 else gs) (if gs.getD i 0 = 1000000 then fr else fr ++ [i]) ∧ Mv w w' S := by
  have hlv : livesOf gs fr (i : Int) ((gs.getD i 0 : Nat) : Int) = true := by
    simp [livesOf, isOn, on, hi, hf]
    simpa [hi] using hl
  have hL := lives_any (i : Int) ((gs.getD i 0 : Nat) : Int) (h.later (below_alloc w (.cells #[.int .i64 (i : Int), .int .i64 ((gs.getD i 0 : Nat) : Int)] 29)))
  rw [hlv] at hL
  obtain ⟨⟨vg, vl, vf, hp, s0, s1, s2, s3⟩, ho⟩ := h
  have hfl := ho.free_len
  have hlen := ho.2.2.1
  have hn2 := ho.2.1
  refine (give_walk g n i (gs.getD i 0) vg vl vf gs fr _ w hp hi (by rw [lvOf_len]; exact hi) (by omega) hL).mono ?_
  rintro e w' ⟨rfl, vf', q1, q2, q3⟩
  rw [lv_give hi] at q1
  refine ⟨rfl, ⟨⟨vg, vl, vf', q1, .inl s0, s1.mono (fun _ e => .inl e), s2.mono (fun _ e => .inl e), fun k e => ?_⟩, ok_give ho hi hl hf⟩, q3.mono (fun k _ e => ?_)⟩
  · exact (q2 k e).imp (fun h => s3 k h) id
  · rcases e with rfl | e | e | e
    · exact s0
    · exact s1 k e
    · exact s2 k e
    · exact s3 k e
end Go.Proofs.YtafmiolehlagkaaGreat

/-
  World: a world in memory: each block is labelled by whose it is.
-/
namespace Go.Proofs.YtafmiolehlagkaaGreat
open Go.RowKit
set_option maxRecDepth 100000
abbrev Ts := List (Int × Int) × List (List Int)
def TbS (w : World) (S : Nat → Prop) (g : Nat) (s : Ts) (M : Nat) : Prop := ∃ n, n ≤ M ∧ Tb w S g n s.1 s.2
section
variable {w w' : World} {S T : Nat → Prop} {g M M' : Nat} {s : Ts}
theorem TbS.mono (h : TbS w S g s M) (hs : ∀ k, S k → T k) : TbS w T g s M := by
  obtain ⟨n, hn, h⟩ := h
  exact ⟨n, hn, h.mono hs⟩
theorem TbS.frame (h : TbS w S g s M) (hm : Mv w w' T) (hs : ∀ k, S k → ¬ T k) : TbS w' S g s M := by
  obtain ⟨n, hn, h⟩ := h
  exact ⟨n, hn, h.frame hm hs⟩
theorem TbS.up (h : TbS w S g s M) (hM : M ≤ M') : TbS w S g s M' := by
  obtain ⟨n, hn, h⟩ := h
  exact ⟨n, by omega, h⟩
theorem TbS.tight (h : TbS w S g s M) : TbS w (fun k => S k ∧ k < w.heap.size) g s M := by
  obtain ⟨n, hn, h⟩ := h
  exact ⟨n, hn, h.tight⟩
end
theorem Mq.mono {w : World} {gm n n' : Nat} {q : Nat → Option Nat} (h : Mq w gm n q) (hn : n ≤ n') : Mq w gm n' q := by
  obtain ⟨D, h1, h2⟩ := h
  exact ⟨D, h1.mono hn, h2⟩
def Lb (own : Nat → Nat) (w : World) (i : Nat) : Nat → Prop := fun k => k < w.heap.size ∧ own k = i
/-- What is new since w gets the label L. -/
def rel (own : Nat → Nat) (w : World) (L : Nat) : Nat → Nat := fun k => if k < w.heap.size then own k else L
theorem rel_old {own : Nat → Nat} {w : World} {L k : Nat} (h : k < w.heap.size) : rel own w L k = own k := if_pos h
theorem rel_new {own : Nat → Nat} {w : World} {L k : Nat} (h : w.heap.size ≤ k) : rel own w L k = L := if_neg (by omega)
theorem Lb.rel {own : Nat → Nat} {w w' : World} {L i k : Nat} (h : Lb own w i k) (hs : w.heap.size ≤ w'.heap.size) : Lb (rel own w L) w' i k := ⟨by have := h.1; omega, (rel_old h.1).trans h.2⟩
/-- Kinds, in blocks that nobody writes. -/
def Kf (w : World) (S : Nat → Prop) (v : Value) (ks : List Kind) : Prop := ∀ w', (∀ k, S k → w'.heap[k]? = w.heap[k]?) → Kr w' v ks
theorem Kf.kr {w : World} {S : Nat → Prop} {v : Value} {ks : List Kind} (h : Kf w S v ks) : Kr w v ks := h w (fun _ _ => rfl)
theorem Kf.next {w w' : World} {S S' : Nat → Prop} {v : Value} {ks : List Kind} (h : Kf w S v ks) (h1 : ∀ k, S k → w'.heap[k]? = w.heap[k]?) (h2 : ∀ k, S k → S' k) : Kf w' S' v ks := fun w2 hw => h w2 (fun k hk => (hw k (h2 k hk)).trans (h1 k hk))
/-- A world but for what is labelled L: 1 its block, 2 its kinds, 3 its pool, 4 the map of sets, 5 the map of tables, 10 + s the table of the set s. -/
def Wx (L : Nat) (w : World) (own : Nat → Nat) (gw : Nat) (vk : Value) (gp gm gt M : Nat) (ks : List Kind) (gs fr : List Nat) (f : Int × Int → Option Nat) (q : Nat → Option Nat) (T : Nat → Ts) : Prop :=
  (own gw = 1 ∧ own gm = 4 ∧ own gt = 5) ∧ (gm < w.heap.size ∧ gt < w.heap.size) ∧ Wc w gw vk gp gm gt ∧ Kf w (Lb own w 2) vk ks ∧ (L ≠ 3 → Pl w (Lb own w 3) gp 200 gs fr) ∧ (L ≠ 4 → Mp w gm M f) ∧ (L ≠ 5 → Mq w gt M q) ∧
  ∀ s g, q s = some g → L ≠ 10 + s → TbS w (Lb own w (10 + s)) g (T s) M
section
variable {L : Nat} {w w' : World} {own : Nat → Nat} {gw gp gm gt M M' : Nat} {vk : Value} {ks : List Kind} {gs fr gs' fr' : List Nat} {f f' : Int × Int → Option Nat} {q q' : Nat → Option Nat} {T T' : Nat → Ts}
theorem Wx.up (h : Wx L w own gw vk gp gm gt M ks gs fr f q T) (hM : M ≤ M') : Wx L w own gw vk gp gm gt M' ks gs fr f q T := by
  obtain ⟨h1, hlt, h2, h3, h4, h5, h6, h7⟩ := h
  exact ⟨h1, hlt, h2, h3, h4, fun e => (h5 e).mono hM, fun e => (h6 e).mono hM, fun s g hg e => (h7 s g hg e).up hM⟩
/-- Where only what is labelled L, or nobody's, is written, the rest stays. -/
theorem Wx.frame {S : Nat → Prop} (h : Wx 0 w own gw vk gp gm gt M ks gs fr f q T) (hL : L = 0 ∨ 3 ≤ L) (hm : Mv w w' S) (hS : ∀ k, k < w.heap.size → S k → own k = L ∨ own k = 0) : Wx L w' (rel own w L) gw vk gp gm gt M ks gs fr f q T := by
  obtain ⟨⟨a1, a2, a3⟩, ⟨b1, b2⟩, h2, h3, h4, h5, h6, h7⟩ := h
  have hsz := hm.size
  have hw : gw < w.heap.size := lt_of_block h2
  refine ⟨⟨(rel_old hw).trans a1, (rel_old b1).trans a2, (rel_old b2).trans a3⟩, ⟨by omega, by omega⟩, hm.at h2 (fun e => by have := hS gw hw e; omega), h3.next (fun k hk => hm.2.2.2.2 k hk.1 (fun e => by have := hS k hk.1 e; have := hk.2; omega)) (fun k hk => hk.rel hsz), fun e => ?_, fun e => ?_, fun e => ?_, fun s g hg e => ?_⟩
  · exact ((h4 (by omega)).frame hm (fun k hk e' => by have := hS k hk.1 e'; have := hk.2; omega)).mono (fun k hk => hk.rel hsz)
  · exact (h5 (by omega)).same (hm.2.2.2.2 gm b1 (fun e' => by have := hS gm b1 e'; omega))
  · exact (h6 (by omega)).same (hm.2.2.2.2 gt b2 (fun e' => by have := hS gt b2 e'; omega))
  · exact ((h7 s g hg (by omega)).frame hm (fun k hk e' => by have := hS k hk.1 e'; have := hk.2; omega)).mono (fun k hk => hk.rel hsz)
theorem Wx.later (h : Wx 0 w own gw vk gp gm gt M ks gs fr f q T) (hb : Below w.heap.size w w') : Wx 0 w' (rel own w 0) gw vk gp gm gt M ks gs fr f q T := h.frame (.inl rfl) (Mv.of_below hb (fun _ => False)) (fun _ _ e => e.elim)
/-- The blocks of L and what is new. -/
theorem Lb.of_new {k : Nat} (h : Nw w (Lb own w L) k) (hk : k < w'.heap.size) : Lb (Go.Proofs.YtafmiolehlagkaaGreat.rel own w L) w' L k := by
  rcases h with h | h
  · exact ⟨hk, (rel_old h.1).trans h.2⟩
  · exact ⟨hk, rel_new h⟩
/-- A table turns. -/
theorem Wx.table {s g : Nat} {t : Ts} (h : Wx 0 w own gw vk gp gm gt M ks gs fr f q T) (hm : Mv w w' (Lb own w (10 + s))) (hg : q s = some g) (ht : TbS w' (Nw w (Lb own w (10 + s))) g t M') (hM : M ≤ M') : Wx 0 w' (rel own w (10 + s)) gw vk gp gm gt M' ks gs fr f q (fun x => if x = s then t else T x) := by
  have k := (h.frame (.inr (by omega)) hm (fun k _ e => .inl e.2)).up hM
  obtain ⟨h1, hlt, h2, h3, h4, h5, h6, h7⟩ := k
  refine ⟨h1, hlt, h2, h3, fun _ => h4 (by omega), fun _ => h5 (by omega), fun _ => h6 (by omega), fun x g' hx _ => ?_⟩
  by_cases e : x = s
  · subst e
    rw [hg] at hx
    obtain rfl := Option.some.inj hx
    simp only [if_true]
    exact ht.tight.mono (fun k hk => Lb.of_new hk.1 hk.2)
  · simp only [if_neg e]
    exact h7 x g' hx (by omega)
/-- The pool turns. -/
theorem Wx.pool (h : Wx 0 w own gw vk gp gm gt M ks gs fr f q T) (hm : Mv w w' (Lb own w 3)) (ht : Pl w' (Lb (rel own w 3) w' 3) gp 200 gs' fr') : Wx 0 w' (rel own w 3) gw vk gp gm gt M ks gs' fr' f q T := by
  have k := h.frame (L := 3) (.inr (by omega)) hm (fun k _ e => .inl e.2)
  obtain ⟨h1, hlt, h2, h3, h4, h5, h6, h7⟩ := k
  exact ⟨h1, hlt, h2, h3, fun _ => ht, fun _ => h5 (by omega), fun _ => h6 (by omega), fun x g' hx _ => h7 x g' hx (by omega)⟩
theorem mv_turned {g : Nat} (h : w.mapTurned w' g) : Mv w w' (fun k => k = g) := by
  exact (Mv.refl w (fun k => k = g)).grown h.grown (fun k _ e => (Option.some.inj e).symm)
/-- The map of sets turns. -/
theorem Wx.sets (h : Wx 0 w own gw vk gp gm gt M ks gs fr f q T) (hm : w.mapTurned w' gm) (hf : Mp w' gm M' f') (hM : M ≤ M') : Wx 0 w' (rel own w 4) gw vk gp gm gt M' ks gs fr f' q T := by
  have k := (h.frame (L := 4) (.inr (by omega)) (mv_turned hm) (fun k _ e => .inl (by rw [e]; exact h.1.2.1))).up hM
  obtain ⟨h1, hlt, h2, h3, h4, h5, h6, h7⟩ := k
  exact ⟨h1, hlt, h2, h3, fun _ => h4 (by omega), fun _ => hf, fun _ => h6 (by omega), fun x g' hx _ => h7 x g' hx (by omega)⟩
/-- The map of tables turns: nothing comes to it. -/
theorem Wx.less (h : Wx 0 w own gw vk gp gm gt M ks gs fr f q T) (hm : w.mapTurned w' gt) (hf : Mq w' gt M' q') (hM : M ≤ M') (hq : ∀ s g, q' s = some g → q s = some g) : Wx 0 w' (rel own w 5) gw vk gp gm gt M' ks gs fr f q' T := by
  have k := (h.frame (L := 5) (.inr (by omega)) (mv_turned hm) (fun k _ e => .inl (by rw [e]; exact h.1.2.2))).up hM
  obtain ⟨h1, hlt, h2, h3, h4, h5, h6, h7⟩ := k
  exact ⟨h1, hlt, h2, h3, fun _ => h4 (by omega), fun _ => h5 (by omega), fun _ => hf, fun x g' hx _ => h7 x g' (hq x g' hx) (by omega)⟩
/-- A table comes to it, whose blocks are new since w0. -/
theorem Wx.more {w0 : World} {s g : Nat} {t : Ts} (h : Wx 0 w0 own gw vk gp gm gt M ks gs fr f q T) (hb : Below w0.heap.size w0 w) (ht : TbS w (fun k => w0.heap.size ≤ k) g t M') (hM : M ≤ M') (hs : q s = none) (hm : w.mapTurned w' gt) (hf : Mq w' gt M' (fun x => if x = s then some g else q x)) :
    Wx 0 w' (rel (rel own w0 (10 + s)) w 5) gw vk gp gm gt M' ks gs fr f (fun x => if x = s then some g else q x) (fun x => if x = s then t else T x) := by
  have k0 := h.frame (L := 10 + s) (.inr (by omega)) (Mv.of_below hb (fun _ => False)) (fun _ _ e => e.elim)
  have k : Wx 0 w (rel own w0 (10 + s)) gw vk gp gm gt M ks gs fr f q T := by
    obtain ⟨h1, hlt, h2, h3, h4, h5, h6, h7⟩ := k0
    refine ⟨h1, hlt, h2, h3, fun _ => h4 (by omega), fun _ => h5 (by omega), fun _ => h6 (by omega), fun x g' hx _ => h7 x g' hx (fun e => ?_)⟩
    obtain rfl : s = x := by omega
    rw [hs] at hx
    cases hx
  have k2 := (k.frame (L := 5) (.inr (by omega)) (mv_turned hm) (fun k' _ e => .inl (by rw [e]; exact k.1.2.2))).up hM
  obtain ⟨h1, hlt, h2, h3, h4, h5, h6, h7⟩ := k2
  refine ⟨h1, hlt, h2, h3, fun _ => h4 (by omega), fun _ => h5 (by omega), fun _ => hf, fun x g' hx _ => ?_⟩
  by_cases e : x = s
  · subst e
    simp only [if_true, Option.some.injEq] at hx ⊢
    subst hx
    have hgt : gt < w0.heap.size := h.2.1.2
    refine ((ht.tight.frame (mv_turned hm) (fun k' hk e' => ?_))).mono (fun k' hk => ⟨Nat.lt_of_lt_of_le hk.2 (mv_turned hm).size, ?_⟩)
    · have := hk.1
      subst e'
      omega
    · rw [rel_old hk.2, rel_new hk.1]
  · simp only [if_neg e] at hx ⊢
    exact h7 x g' hx (by omega)
end
end Go.Proofs.YtafmiolehlagkaaGreat
