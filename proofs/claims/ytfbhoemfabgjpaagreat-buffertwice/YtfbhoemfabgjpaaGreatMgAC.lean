import Derived.Test.YtfbhoemfabgjpaaGreatTRem
import Derived.Laws.BitsAllLaws
/-
  pick, Get, and the document's example.
-/
namespace Go.Proofs.YtfbhoemfabgjpaaGreat
open Go.RowKit
set_option maxRecDepth 100000
def pk (c : Int) (n : Nat) : Nat := ((if c < 0 then -(c + 1) else c).tmod n).toNat
theorem pk_of {c : Int} {n : Nat} (hn : 0 < n) : pk c n < n ∧ (if c < 0 then -(c + 1) else c).tmod n = (pk c n : Int) := by
  have key : ∀ x : Int, 0 ≤ x → (x.tmod n).toNat < n ∧ x.tmod n = ((x.tmod n).toNat : Int) := fun x hx => by
    have e1 := Int.tmod_eq_emod_of_nonneg (a := x) (b := n) hx
    have e2 := Int.emod_nonneg x (show (n : Int) ≠ 0 by omega)
    have e3 := Int.emod_lt_of_pos x (show (0 : Int) < n by omega)
    exact ⟨by omega, by omega⟩
  unfold pk
  split
  · exact key _ (by omega)
  · exact key _ (by omega)
theorem pk_lt (c : Int) {n : Nat} (hn : 0 < n) : pk c n < n := (pk_of hn).1
section
variable {w : World} {S : Nat → Prop} {g n : Nat} {rows : List (Int × Int)} {cols : List (List Int)}
end
theorem iz_two (w : World) (x y : Int) {W : World} (hb : Below (w.alloc (.cells #[.int .i64 x, .int .i64 y] 2)).heap.size (w.alloc (.cells #[.int .i64 x, .int .i64 y] 2)) W) : Iz W (.slice (some ⟨w.heap.size, 0, none⟩) 2 2) [x, y] := by
  have hr : W.heap[w.heap.size]? = some (.cells #[.int .i64 x, .int .i64 y] 2 (0, 0)) := (hb.block _ (by simp)).trans (heap_alloc_new w _)
  refine ⟨_, 2, rfl, Nat.le_refl _, by unfold maxLen; omega, fun j hj => ⟨w.heap.size, 0, rfl, ?_⟩⟩
  rw [cell_of_row W w.heap.size _ _ 2 (0, 0) hr]
  match j, hj with
  | 0, _ => rfl
  | 1, _ => rfl
theorem Tb.tight {w : World} {S : Nat → Prop} {g n : Nat} {rows : List (Int × Int)} {cols : List (List Int)} (h : Tb w S g n rows cols) : Tb w (fun k => S k ∧ k < w.heap.size) g n rows cols := by
  obtain ⟨lab, vr, gm, vc, cs, f, h1, h2, h3, ⟨s1, s2, s3, s4, s5⟩, h5⟩ := h
  refine ⟨lab, vr, gm, vc, cs, f, h1, h2, h3, ⟨⟨s1, h1.lt⟩, fun k e => ⟨s2 k e, (h1.2.1.lt k e).2⟩, ⟨s3, h1.2.2.1.lt⟩, fun k e => ⟨s4 k e, (h1.2.2.2.1.lt k e).2⟩, fun v hv k e => ⟨s5 v hv k e, ?_⟩⟩, h5⟩
  obtain ⟨i, hi, rfl⟩ := List.getElem_of_mem hv
  exact ((h1.2.2.2.2.2.1 i hi (by have := h1.2.2.2.2.1; omega)).lt k e).2
/-- A table beside other things: it lies above B, and nothing of N is its own. -/
def Tf (B : Nat) (N : Nat → Prop) (W : World) (g n : Nat) (rows : List (Int × Int)) (cols : List (List Int)) : Prop :=
  ∃ S, Tb W S g n rows cols ∧ (∀ k, S k → B ≤ k ∧ k < W.heap.size ∧ ¬ N k) ∧ (∀ k, N k → k < W.heap.size) ∧ B ≤ W.heap.size
def KeptN (N : Nat → Prop) (w w' : World) : Prop := ∀ k, N k → w'.heap[k]? = w.heap[k]?
section
variable {B : Nat} {N N' : Nat → Prop} {W W' : World} {g n n' : Nat} {rows rows' : List (Int × Int)} {cols cols' : List (List Int)}
theorem Tf.tb (h : Tf B N W g n rows cols) : ∃ S, Tb W S g n rows cols := by
  obtain ⟨S, h, -⟩ := h
  exact ⟨S, h⟩
theorem Tf.fence (h : Tf B N W g n rows cols) (hb : Below W.heap.size W W') (hN : ∀ k, N' k → (N k ∨ W.heap.size ≤ k) ∧ k < W'.heap.size) : Tf B N' W' g n rows cols := by
  obtain ⟨S, h1, h2, h3, h4⟩ := h
  have := hb.size
  refine ⟨S, h1.later hb, fun k e => ⟨(h2 k e).1, by have := (h2 k e).2.1; omega, fun e' => ?_⟩, fun k e => (hN k e).2, by omega⟩
  rcases (hN k e').1 with h | h
  · exact (h2 k e).2.2 h
  · have := (h2 k e).2.1; omega
theorem Tf.later (h : Tf B N W g n rows cols) (hb : Below W.heap.size W W') : Tf B N W' g n rows cols :=
  h.fence hb (fun k e => by obtain ⟨S, h1, h2, h3, h4⟩ := h; exact ⟨.inl e, Nat.lt_of_lt_of_le (h3 k e) hb.size⟩)
theorem Tf.write (h : Tf B N W g n rows cols) {k0 : Nat} (hk : N k0) (hg : W.grownBy W' (some k0)) : Tf B N W' g n rows cols := by
  obtain ⟨S, h1, h2, h3, h4⟩ := h
  have hm : Mv W W' (fun k => k = k0) := (Mv.refl _ _).grown hg (fun k _ e => (Option.some.inj e).symm)
  have := hm.size
  exact ⟨S, h1.frame hm (fun k e e' => (h2 k e).2.2 (e' ▸ hk)), fun k e => ⟨(h2 k e).1, by have := (h2 k e).2.1; omega, (h2 k e).2.2⟩, fun k e => Nat.lt_of_lt_of_le (h3 k e) this, by omega⟩
theorem Tf.turned {S : Nat → Prop} (h2 : ∀ k, S k → B ≤ k ∧ k < W.heap.size ∧ ¬ N k) (h3 : ∀ k, N k → k < W.heap.size) (h4 : B ≤ W.heap.size) (ht : Tb W' (Nw W S) g n rows cols) (hm : Mv W W' S) : Tf B N W' g n rows cols ∧ KeptN N W W' ∧ Below B W W' := by
  have hsz := hm.size
  refine ⟨⟨_, ht.tight, fun k e => ?_, fun k e => Nat.lt_of_lt_of_le (h3 k e) hsz, by omega⟩, fun k e => hm.2.2.2.2 k (h3 k e) (fun e' => (h2 k e').2.2 e), hm.below h4 (fun k e => (h2 k e).1)⟩
  rcases e.1 with h | h
  · exact ⟨(h2 k h).1, e.2, (h2 k h).2.2⟩
  · exact ⟨by omega, e.2, fun e' => by have := h3 k e'; omega⟩
theorem tf_add (h : Tf B N W g n rows cols) (a b : Int) (v : Value) (vals : List Int) (hv : Iz W v vals) (hvN : ∀ k, v.ownBlock = some k → N k) (hl : vals.length = cols.length) (hb : InB (a, b)) (he : (a, b) ∉ rows) (hr : rows.length < 200) (hn : n ≤ 1000000) :
    Calls Tryz.prog 92 #[.pointer (some ⟨g, 0, none⟩), .agg #[.int .i64 a, .int .i64 b], v] W fun e w' => e = .returned (.tuple #[.int .i64 (rows.length : Int), .int .i64 0]) ∧ Tf B N w' g (n + 1) (rows ++ [(a, b)]) (addRow cols vals) ∧ KeptN N W w' ∧ Below B W w' := by
  obtain ⟨S, h1, h2, h3, h4⟩ := h
  refine (add_any h1 a b v vals hv (fun k e => ⟨fun e' => (h2 k e').2.2 (hvN k e), h3 k (hvN k e)⟩) hl hb he hr hn).mono ?_
  rintro e w' ⟨rfl, t1, t2⟩
  exact ⟨rfl, Tf.turned h2 h3 h4 t1 t2⟩
theorem tf_remove (h : Tf B N W g n rows cols) (row : Nat) (hr : row < rows.length) (hn : n ≤ 1000000) :
    Calls Tryz.prog 93 #[.pointer (some ⟨g, 0, none⟩), .int .i64 (row : Int)] W fun e w' => e = .returned (.tuple #[if row = rows.length - 1 then .agg #[.int .i64 0, .int .i64 0] else .agg #[.int .i64 (rows[rows.length - 1]'(by omega)).1, .int .i64 (rows[rows.length - 1]'(by omega)).2], .bool (decide (row ≠ rows.length - 1)), .int .i64 0]) ∧ Tf B N w' g (n + 1) (rem rows row) (remCols cols row) ∧ KeptN N W w' ∧ Below B W w' := by
  obtain ⟨S, h1, h2, h3, h4⟩ := h
  refine (remove_any h1 row hr hn).mono ?_
  rintro e w' ⟨rfl, t1, t2⟩
  exact ⟨rfl, Tf.turned h2 h3 h4 (t1.mono (fun k e => .inl e)) t2⟩
end
theorem tf_new (k : Nat) (w : World) (h : k ≤ 48) : Calls Tryz.prog 91 #[.int .i64 (k : Int)] w fun e w' => ∃ g, e = .returned (.tuple #[.pointer (some ⟨g, 0, none⟩), .int .i64 0]) ∧ Tf w.heap.size (fun _ => False) w' g 0 [] (List.replicate k []) ∧ Below w.heap.size w w' := (new_any k w h).mono (fun _e _w' ⟨g, h1, h2, h3⟩ => ⟨g, h1, ⟨_, h2.tight, fun _k e => ⟨e.1, e.2, fun e => e⟩, fun _k e => e.elim, h3.size⟩, h3⟩)
end Go.Proofs.YtfbhoemfabgjpaaGreat

/-
  Set.
-/
namespace Go.Proofs.YtfbhoemfabgjpaaGreat
open Go.RowKit
set_option maxRecDepth 100000
section
variable {w W1 W' : World} {lab : Nat → Nat} {gt gm n : Nat} {vr vc v' : Value} {cs : List Value} {f f' : Int × Int → Option Nat} {rows rows' : List (Int × Int)} {cols : List (List Int)}
theorem Tm.num_put {gj m c j row : Nat} {x : Int} (h : Tm w lab gt vr gm n vc cs f rows cols) (hj : j < cs.length) (hj2 : j < cols.length) (hv : cs[j] = .slice (some ⟨gj, 0, none⟩) m c) :
    Tm (w.setCell ⟨gj, row, none⟩ (.int .i64 x)) lab gt vr gm n vc cs f rows (cols.set j (cols[j].set row x)) ∧ Mv w (w.setCell ⟨gj, row, none⟩ (.int .i64 x)) (fun k => k = gj) := by
  have hm : Mv w (w.setCell ⟨gj, row, none⟩ (.int .i64 x)) (fun k => k = gj) := Mv.set (S := fun k => k = gj) (Mv.refl _ _) rfl _ _
  obtain ⟨b1, b2, b3, b4, b5, b6, b7, b8, b9, b10, b11⟩ := h
  have lj : lab gj = 4 + j := b11 j hj gj (by rw [hv]; rfl)
  refine ⟨⟨hm.at b1 (fun e => ?_), hm.own b2 (fun k e e' => ?_), b3.same (hm.2.2.2.2 gm b3.lt (fun e => ?_)), hm.own b4 (fun k e e' => ?_), by simp [b5], fun i hi hi2 => ?_, b7, b8, b9, b10, b11⟩, hm⟩
  · subst e; omega
  · subst e'; have := b8 _ e; omega
  · subst e; omega
  · subst e'; have := b10 _ e; omega
  · have hi2' : i < cols.length := by simpa using hi2
    by_cases e : j = i
    · subst e
      simp only [List.getElem_set_self, List.length_set]
      have h6 := b6 j hj hj2
      rw [hv] at h6 ⊢
      obtain ⟨_, _, hh⟩ := own_len h6
      simp only [Value.slice.injEq] at hh
      obtain ⟨-, rfl, -⟩ := hh
      have := (h6.stored row (.int .i64 x)).1
      rw [zc_set] at this
      exact this
    · simp only [List.getElem_set_ne e]
      refine hm.own (b6 i hi hi2') (fun k e1 e2 => ?_)
      have := b11 i hi k e1
      subst e2; omega
end
section
variable {w : World} {S : Nat → Prop} {g n : Nat} {rows : List (Int × Int)} {cols : List (List Int)}
end
section
variable {B : Nat} {N N' : Nat → Prop} {W W' : World} {g n n' : Nat} {rows rows' : List (Int × Int)} {cols cols' : List (List Int)}
end
end Go.Proofs.YtfbhoemfabgjpaaGreat

/-
  World: a map from sets to tables; a set's bits; kinds in memory.
-/
namespace Go.Proofs.YtfbhoemfabgjpaaGreat
open Go.RowKit
set_option maxRecDepth 100000
/-! ### A map from sets to tables -/
theorem keyed3 : Maps.Keyed Tryz.prog 3 := Maps.int_keyed Tryz.underlying3
def ptrElem (v : Value) : Option (DataW Nat × List MemPlace) :=
  match v with
  | .pointer none => some (.nil, [])
  | .pointer (some ⟨g, 0, none⟩) => some (.held g, [])
  | _ => none
theorem ptrElem_inv {v : Value} {g : Nat} {ps : List MemPlace} (h : ptrElem v = some (.held g, ps)) : v = .pointer (some ⟨g, 0, none⟩) := by
  unfold ptrElem at h
  split at h
  · simp at h
  · rename_i g'
    simp only [Option.some.injEq, Prod.mk.injEq, DataW.held.injEq] at h
    rw [h.1]
  · cases h
theorem key3 (s : Nat) (h : s < 9007199254740992) : keyOf Tryz.prog 3 (.int .i64 (s : Int)) = some (.int .i64 (s : Int)) := by
  have hw : (Lit.int .i64 (s : Int)).wf = true := by simp [Lit.wf, IntKind.min, IntKind.max, IntKind.signed, IntKind.bits]; omega
  simp [keyOf, mapKey, Tryz.underlying3, hw]
/-- A map from sets to tables: where each lies. -/
def Mq (w : World) (gm n : Nat) (q : Nat → Option Nat) : Prop :=
  ∃ D : DataW Nat, w.ownsMap Tryz.prog 3 ptrElem gm n D ∧ (∀ s : Nat, s < 9007199254740992 → Maps.has D (.int .i64 (s : Int)) = (q s).isSome ∧ ∀ g, q s = some g → D.atKey (.int .i64 (s : Int)) .nil = .held g) ∧ ∀ kl, Maps.has D kl = true → ∃ s : Nat, s < 9007199254740992 ∧ kl = .int .i64 (s : Int)
section
variable {w w' : World} {gm n : Nat} {q : Nat → Option Nat}
theorem Mq.made (w : World) : Mq (w.alloc (.map #[] 0)) w.heap.size 0 (fun _ => none) :=
  ⟨.map [], World.ownsMap_made w _ _ _, fun _ _ => ⟨rfl, fun _ h => by cases h⟩, fun kl h => by
    have e : Maps.has (H := Nat) (.map []) kl = false := rfl
    rw [e] at h
    cases h⟩
theorem Mq.lt (h : Mq w gm n q) : gm < w.heap.size := by
  obtain ⟨D, h1, -⟩ := h
  exact h1.lt
theorem Mq.same (h : Mq w gm n q) (hs : w'.heap[gm]? = w.heap[gm]?) : Mq w' gm n q := by
  obtain ⟨D, ⟨es, ck, h1, h2⟩, h3⟩ := h
  exact ⟨D, ⟨es, ck, hs.trans h1, h2⟩, h3⟩
theorem zero133 (w : World) : (zeroValue 75).run Tryz.prog w = .ok (.pointer none) w := by kernel_rfl
theorem Mq.look (h : Mq w gm n q) (s : Nat) (hs : s < 9007199254740992) : ∃ v, (Instr.lookup 62 (.map (some gm)) (.int .i64 (s : Int)) true).run Tryz.prog w = .ok (.tuple #[v, .bool (q s).isSome]) w ∧ ∀ g, q s = some g → v = .pointer (some ⟨g, 0, none⟩) := by
  obtain ⟨D, h1, h2, -⟩ := h
  obtain ⟨v, ps, hr, hv⟩ := h1.look_ok keyed3 Tryz.underlying62 (zero133 w) (zd := .nil) (zp := []) rfl (key3 s hs)
  obtain ⟨h3, h4⟩ := h2 s hs
  rw [h3] at hr
  refine ⟨v, hr, fun g hg => ?_⟩
  rw [h4 g hg] at hv
  exact ptrElem_inv hv
theorem Mq.store (h : Mq w gm n q) (s g : Nat) (hs : s < 9007199254740992) (hn : n ≤ 1000000) : ∃ w', (Instr.mapUpdate 62 (.map (some gm)) (.int .i64 (s : Int)) (.pointer (some ⟨g, 0, none⟩))).run Tryz.prog w = .ok () w' ∧ Mq w' gm (n + 1) (fun x => if x = s then some g else q x) ∧ w.mapTurned w' gm := by
  obtain ⟨D, h1, h2, hz⟩ := h
  obtain ⟨w', hr, h3, h4⟩ := h1.store keyed3 Tryz.underlying62 (by unfold maxLen; omega) (key3 s hs) (val := .pointer (some ⟨g, 0, none⟩)) (d := .held g) (ps := []) rfl
  refine ⟨w', hr, ⟨_, h3, fun x hx => ?_, fun kl hkl => ?_⟩, h4⟩
  rotate_left
  · by_cases c : kl = .int .i64 (s : Int)
    · exact ⟨s, hs, c⟩
    · rw [Maps.has_put_other c] at hkl
      exact hz kl hkl
  by_cases ex : x = s
  · subst ex
    refine ⟨by rw [Maps.has_put_same h1.isMap (keyed3.key (key3 x hs))]; simp, fun j hj => ?_⟩
    rw [Maps.atKey_put_same h1.isMap (keyed3.key (key3 x hs))]
    simp only [if_true, Option.some.injEq] at hj
    rw [hj]
  · have hne : (Lit.int .i64 (x : Int)) ≠ .int .i64 (s : Int) := fun e' => by
      simp only [Lit.int.injEq, true_and] at e'
      omega
    rw [Maps.has_put_other hne, Maps.atKey_put_other hne]
    simp only [if_neg ex]
    exact h2 x hx
theorem Mq.drop (h : Mq w gm n q) (s : Nat) (hs : s < 9007199254740992) (ty : TypeId) : ∃ w', (Builtin.delete_ #[62, 3] ty #[.map (some gm), .int .i64 (s : Int)]).run Tryz.prog w = .ok (.tuple #[]) w' ∧ Mq w' gm n (fun x => if x = s then none else q x) ∧ w.mapTurned w' gm := by
  obtain ⟨D, h1, h2, hz⟩ := h
  obtain ⟨w', hr, h3, h4⟩ := h1.drop keyed3 Tryz.underlying62 (key3 s hs) ty
  refine ⟨w', hr, ⟨_, h3, fun x hx => ?_, fun kl hkl => ?_⟩, h4⟩
  rotate_left
  · by_cases c : kl = .int .i64 (s : Int)
    · exact ⟨s, hs, c⟩
    · rw [Maps.has_del_other c] at hkl
      exact hz kl hkl
  by_cases ex : x = s
  · subst ex
    refine ⟨by rw [Maps.has_del_same]; simp, fun j hj => by simp at hj⟩
  · have hne : (Lit.int .i64 (x : Int)) ≠ .int .i64 (s : Int) := fun e' => by
      simp only [Lit.int.injEq, true_and] at e'
      omega
    rw [Maps.has_del_other hne, Maps.atKey_del_other hne]
    simp only [if_neg ex]
    exact h2 x hx
end
/-! ### Sets -/
theorem ofInt_i64 (a : Nat) (ha : a < 9223372036854775808) : (BitVec.ofInt 64 (a : Int)).toNat = a := by
  rw [BitVec.ofInt_natCast, BitVec.toNat_ofNat]; exact Nat.mod_eq_of_lt (by omega)
theorem i64_and_nat (a b : Nat) (ha : a < 9223372036854775808) (hb : b < 9223372036854775808) : bits .and .i64 (a : Int) (b : Int) = ((a &&& b : Nat) : Int) := by
  have hx : a &&& b < 2 ^ 63 := Nat.and_lt_two_pow _ (by omega)
  show IntKind.i64.wrap ((BitVec.ofInt 64 (a : Int) &&& BitVec.ofInt 64 (b : Int)).toNat : Int) = _
  rw [BitVec.toNat_and, ofInt_i64 a ha, ofInt_i64 b hb, IntKind.wrap_i64]
  omega
theorem i64_or_nat (a b : Nat) (ha : a < 9223372036854775808) (hb : b < 9223372036854775808) : bits .or .i64 (a : Int) (b : Int) = ((a ||| b : Nat) : Int) := by
  have hx : a ||| b < 2 ^ 63 := Nat.or_lt_two_pow (by omega) (by omega)
  show IntKind.i64.wrap ((BitVec.ofInt 64 (a : Int) ||| BitVec.ofInt 64 (b : Int)).toNat : Int) = _
  rw [BitVec.toNat_or, ofInt_i64 a ha, ofInt_i64 b hb, IntKind.wrap_i64]
  omega
theorem has_any (s k : Nat) (w : World) (hs : s < 8192) (hk : k ≤ 12) : Calls Tryz.prog 78 #[.int .i64 (s : Int), .int .i64 (k : Int)] w fun e w' => e = .returned (.bool (s.testBit k)) ∧ w' = w := by
  have t1 : ¬ (k : Int) < 0 := by omega
  have e1 : (bits BinOp.and IntKind.i64 ((s : Int) / 2 ^ k) 1 != 0) = s.testBit k := by
    have h1 : ((s : Int) / 2 ^ k) = ((s / 2 ^ k : Nat) : Int) := by
      rw [Int.natCast_ediv]
      congr 1
    have hlt : s / 2 ^ k < 9223372036854775808 := Nat.lt_of_le_of_lt (Nat.div_le_self _ _) (by omega)
    have h2 := i64_and_nat (s / 2 ^ k) 1 hlt (by omega)
    rw [h1]
    rw [show ((1 : Nat) : Int) = 1 from rfl] at h2
    rw [h2, Nat.testBit, Nat.shiftRight_eq_div_pow, Nat.and_comm]
    rcases Nat.mod_two_eq_zero_or_one (s / 2 ^ k) with h | h
    · simp [Nat.one_and_eq_mod_two, h]
    · simp [Nat.one_and_eq_mod_two, h]
  go_enter Tryz.func78, Tryz.ntmps78
  go_wp2_with fail
  go_ret
  exact ⟨rfl, rfl⟩
end Go.Proofs.YtfbhoemfabgjpaaGreat

/-
  World: its kinds, as they are read; what may come.
-/
namespace Go.Proofs.YtfbhoemfabgjpaaGreat
open Go.RowKit
set_option maxRecDepth 100000
abbrev Kind := ByteArray × List ByteArray
/-- Texts that are read. -/
def Sr (w : World) (v : Value) (l : List ByteArray) : Prop :=
  ∃ ao c, v = .slice ao l.length c ∧ l.length ≤ c ∧ c ≤ maxLen ∧ ∀ j (hj : j < l.length), ∃ g o, ao = some ⟨g, o, none⟩ ∧ w.cell? ⟨g, o + j, none⟩ = some (.string l[j])
/-- Kinds that are read. -/
def Kr (w : World) (v : Value) (ks : List Kind) : Prop :=
  ∃ ao c, v = .slice ao ks.length c ∧ ks.length ≤ c ∧ c ≤ maxLen ∧ ∀ i (hi : i < ks.length), ∃ g o vf, ao = some ⟨g, o, none⟩ ∧ w.cell? ⟨g, o + i * 2, none⟩ = some (.string ks[i].1) ∧ w.cell? ⟨g, o + i * 2 + 1, none⟩ = some vf ∧ Sr w vf ks[i].2
section
variable {w w' : World} {v : Value} {ks : List Kind} {l : List ByteArray}
theorem Sr.on (h : Sr w v l) (hc : ∀ (a : Addr) (x : Value), w.cell? a = some x → w'.cell? a = some x) : Sr w' v l := by
  obtain ⟨ao, c, rfl, h1, h2, h3⟩ := h
  refine ⟨ao, c, rfl, h1, h2, fun j hj => ?_⟩
  obtain ⟨g, o, rfl, h4⟩ := h3 j hj
  exact ⟨g, o, rfl, hc _ _ h4⟩
theorem Kr.later (h : Kr w v ks) (hb : Below w.heap.size w w') : Kr w' v ks := by
  have hc : ∀ (a : Addr) (x : Value), w.cell? a = some x → w'.cell? a = some x := fun a x e => (hb.cell (p := a) (World.block_lt_of_cell? w _ e)).trans e
  obtain ⟨ao, c, rfl, h1, h2, h3⟩ := h
  refine ⟨ao, c, rfl, h1, h2, fun i hi => ?_⟩
  obtain ⟨g, o, vf, rfl, h4, h5, h6⟩ := h3 i hi
  exact ⟨g, o, vf, rfl, hc _ _ h4, hc _ _ h5, h6.on hc⟩
end
/-- A world's block: its kinds lie at vk, its pool at gp, its two maps at gs and gt. -/
def Wc (w : World) (gw : Nat) (vk : Value) (gp gs gt : Nat) : Prop := w.heap[gw]? = some (.cells #[vk, .pointer (some ⟨gp, 0, none⟩), .map (some gs), .map (some gt)] 64 (0, 0))
section
variable {w w' : World} {gw gp gs gt : Nat} {vk : Value} {ks : List Kind}
theorem Wc.cell (h : Wc w gw vk gp gs gt) : w.cell? ⟨gw, 0, none⟩ = some vk ∧ w.cell? ⟨gw, 1, none⟩ = some (.pointer (some ⟨gp, 0, none⟩)) ∧ w.cell? ⟨gw, 2, none⟩ = some (.map (some gs)) ∧ w.cell? ⟨gw, 3, none⟩ = some (.map (some gt)) := by
  refine ⟨?_, ?_, ?_, ?_⟩ <;> rw [cell_of_row w gw _ _ 64 (0, 0) h] <;> rfl
theorem Wc.later (h : Wc w gw vk gp gs gt) (hb : Below w.heap.size w w') : Wc w' gw vk gp gs gt := (hb.block gw (lt_of_block h)).trans h
theorem iskind_any (h : Wc w gw vk gp gs gt) (hk : Kr w vk ks) (x : Int) : Calls Tryz.prog 87 #[.pointer (some ⟨gw, 0, none⟩), .int .i64 x] w fun e w' => e = .returned (.bool (decide (1 ≤ x ∧ x ≤ (ks.length : Int)))) ∧ w' = w := by
  obtain ⟨c0, c1, c2, c3⟩ := h.cell
  obtain ⟨ao, c, rfl, -⟩ := hk
  clear h
  generalize ks.length = n at *
  go_enter Tryz.func87, Tryz.ntmps87
  by_cases h1 : 1 ≤ x
  · have t1 : x ≥ 1 := h1
    by_cases h2 : x ≤ (n : Int)
    · rw [decide_eq_true ⟨h1, h2⟩]
      go_wp2_with fail
      go_ret
      exact ⟨rfl, rfl⟩
    · rw [decide_eq_false (fun e => h2 e.2)]
      go_wp2_with fail
      go_ret
      exact ⟨rfl, rfl⟩
  · rw [decide_eq_false (fun e => h1 e.1)]
    have t1 : ¬ x ≥ 1 := h1
    go_wp2_with fail
    go_ret
    exact ⟨rfl, rfl⟩
theorem fields_any (h : Wc w gw vk gp gs gt) (hk : Kr w vk ks) (k : Nat) (hk1 : 1 ≤ k) (hk2 : k ≤ ks.length) (hks : ks.length ≤ 12) : Calls Tryz.prog 79 #[.pointer (some ⟨gw, 0, none⟩), .int .i64 (k : Int)] w fun e w' => e = .returned (.int .i64 ((ks[k - 1]'(by omega)).2.length : Int)) ∧ w' = w := by
  obtain ⟨c0, c1, c2, c3⟩ := h.cell
  obtain ⟨ao, c, rfl, hc1, hc2, h3⟩ := hk
  obtain ⟨g, o, vf, rfl, e1, e2, e3⟩ := h3 (k - 1) (by omega)
  obtain ⟨af, cf, rfl, -⟩ := e3
  obtain ⟨j, rfl⟩ : ∃ j, k = j + 1 := ⟨k - 1, by omega⟩
  simp only [Nat.add_sub_cancel] at *
  have t1 : IntKind.i64.wrap (((j + 1 : Nat) : Int) - 1) = (j : Int) := by rw [IntKind.wrap_i64]; omega
  obtain ⟨K, hK⟩ : ∃ K : Int, K = ((j + 1 : Nat) : Int) := ⟨_, rfl⟩
  rw [← hK] at t1 ⊢
  have t2 : (j : Int) < (ks.length : Int) := by omega
  clear h h3 hK e1
  generalize (ks[j]'(by omega)).2.length = m at *
  generalize ks.length = n at *
  go_enter Tryz.func79, Tryz.ntmps79
  go_wp2_with fail
  go_ret
  exact ⟨rfl, rfl⟩
/-- What is wrong with a part that is to come to a set. -/
def comeS (ks : List Kind) (s : Nat) (k : Int) (m : Nat) : Int :=
  if 1 ≤ k ∧ k ≤ (ks.length : Int) then (if s.testBit k.toNat then 61 else if m = (ks.getD (k.toNat - 1) (ByteArray.empty, [])).2.length then 0 else 63) else 60
set_option maxHeartbeats 2000000 in
theorem maycome_any (h : Wc w gw vk gp gs gt) (hk : Kr w vk ks) (hks : ks.length ≤ 12) (s : Nat) (hs : s < 8192) (x : Int) (av : Option Addr) (nv cv : Nat) : Calls Tryz.prog 65 #[.pointer (some ⟨gw, 0, none⟩), .int .i64 (s : Int), .agg #[.int .i64 x, .slice av nv cv]] w fun e w' => e = .returned (.int .i64 (comeS ks s x nv)) ∧ Below w.heap.size w w' := by
  have J1 : Hid (∀ W, Below w.heap.size w W → Calls Tryz.prog 87 #[.pointer (some ⟨gw, 0, none⟩), .int .i64 x] W fun e w' => e = .returned (.bool (decide (1 ≤ x ∧ x ≤ (ks.length : Int)))) ∧ w' = W) := fun W hW => iskind_any (h.later hW) (hk.later hW) x
  have J3 : Hid (∀ (k : Nat) (hk1 : 1 ≤ k) (hk2 : k ≤ ks.length) W, Below w.heap.size w W → Calls Tryz.prog 79 #[.pointer (some ⟨gw, 0, none⟩), .int .i64 (k : Int)] W fun e w' => e = .returned (.int .i64 ((ks[k - 1]'(by omega)).2.length : Int)) ∧ w' = W) := fun k hk1 hk2 W hW => fields_any (h.later hW) (hk.later hW) k hk1 hk2 hks
  clear h hk
  go_enter Tryz.func65, Tryz.ntmps65
  go_upto_region 1 with fail
  obtain ⟨w1, hw1⟩ : ∃ X, X = w.alloc (.cells #[.int .i64 x, .slice av nv cv] 51) := ⟨_, rfl⟩
  have B1 : Below w.heap.size w w1 := hw1 ▸ below_alloc w _
  have hx1 : w1.heap[w.heap.size]? = some (.cells #[.int .i64 x, .slice av nv cv] 51 (0, 0)) := hw1 ▸ heap_alloc_new w _
  rw [← hw1]
  obtain ⟨kx, hkx⟩ : ∃ k, k = w.heap.size := ⟨_, rfl⟩
  rw [← hkx] at hx1 ⊢
  have p0 : w1.cell? ⟨kx, 0, none⟩ = some (.int .i64 x) := by rw [cell_of_row w1 kx _ _ 51 (0, 0) hx1]; rfl
  have p1 : w1.cell? ⟨kx, 1, none⟩ = some (.slice av nv cv) := by rw [cell_of_row w1 kx _ _ 51 (0, 0) hx1]; rfl
  have HB1 := hide B1
  have J1a := hide (J1.out w1 B1)
  clear hw1 hx1 hkx B1 J1
  by_cases h1 : 1 ≤ x ∧ x ≤ (ks.length : Int)
  · obtain ⟨k, rfl⟩ : ∃ k : Nat, x = (k : Int) := ⟨x.toNat, by omega⟩
    have hk1 : 1 ≤ k := by omega
    have hk2 : k ≤ ks.length := by omega
    rw [decide_eq_true h1] at J1a
    have H1 := hide h1
    clear h1
    have ec : ∀ (m : Nat), (ks[k - 1]'(by omega)).2.length = m → comeS ks s (k : Int) nv = if s.testBit k then 61 else if nv = m then 0 else 63 := fun m hm => by
      unfold comeS
      rw [if_pos H1.out]
      simp only [Int.toNat_natCast]
      have e2 : (ks.getD (k - 1) (ByteArray.empty, [])).2.length = m := by
        rw [List.getD_eq_getElem?_getD, List.getElem?_eq_getElem (by omega)]
        exact hm
      simp only [e2]
    have EC := hide (ec _ rfl)
    clear ec H1
    have J2 := hide (has_any s k w1 hs (by omega))
    have J3a := hide (J3.out k hk1 hk2 w1.drew (below_on HB1.out (below_drew w1)))
    generalize (ks[k - 1]'(by omega)).2.length = m at *
    clear J3
    cases hb : s.testBit k with
    | true =>
      rw [hb] at J2
      simp only [hb, if_true] at EC
      go_wp2_with fail
      refine J1a.out.mono ?_
      rintro e w2 ⟨rfl, rfl⟩
      go_wp2_with fail
      refine J2.out.mono ?_
      rintro e w2 ⟨rfl, rfl⟩
      go_wp2_with fail
      go_ret
      exact ⟨ret_int EC.out.symm, HB1.out⟩
    | false =>
      rw [hb] at J2
      simp only [hb, Bool.false_eq_true, if_false] at EC
      go_wp2_with fail
      refine J1a.out.mono ?_
      rintro e w2 ⟨rfl, rfl⟩
      go_wp2_with fail
      refine J2.out.mono ?_
      rintro e w2 ⟨rfl, rfl⟩
      obtain ⟨w1, rfl⟩ : ∃ X, X = w2 := ⟨_, rfl⟩
      by_cases hm : nv = m
      · subst hm
        simp only [if_true] at EC
        go_upto_region 5 with fail
        go_region_held3 (fun W => W.cell? ⟨kx, 0, none⟩ = some (.int .i64 (k : Int)) ∧ W.cell? ⟨kx, 1, none⟩ = some (.slice av nv cv)) (go_keep) (first | (go_at_call 79; refine J3a.out.mono ?_; rintro e w3 ⟨rfl, rfl⟩))
        go_wp2_with fail
        go_ret
        exact ⟨ret_int EC.out.symm, below_on HB1.out (below_drew _)⟩
      · simp only [if_neg hm] at EC
        have t1 : ((nv : Int) == (m : Int)) = false := by rw [beq_eq_false_iff_ne]; omega
        have t2 : ¬ (nv : Int) = (m : Int) := by omega
        go_upto_region 5 with fail
        go_region_held3 (fun W => W.cell? ⟨kx, 0, none⟩ = some (.int .i64 (k : Int)) ∧ W.cell? ⟨kx, 1, none⟩ = some (.slice av nv cv)) (go_keep) (first | (go_at_call 79; refine J3a.out.mono ?_; rintro e w3 ⟨rfl, rfl⟩))
        go_wp2_with fail
        go_ret
        exact ⟨ret_int EC.out.symm, below_on HB1.out (below_drew _)⟩
  · rw [decide_eq_false h1] at J1a
    have ec : comeS ks s x nv = 60 := by unfold comeS; rw [if_neg h1]
    have EC := hide ec
    clear ec h1 J3
    go_wp2_with fail
    refine J1a.out.mono ?_
    rintro e w2 ⟨rfl, rfl⟩
    go_wp2_with fail
    go_ret
    exact ⟨ret_int EC.out.symm, HB1.out⟩
end
end Go.Proofs.YtfbhoemfabgjpaaGreat
