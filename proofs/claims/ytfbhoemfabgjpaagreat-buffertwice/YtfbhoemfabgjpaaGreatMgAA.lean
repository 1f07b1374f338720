import Derived.Test.YtfbhoemfabgjpaaGreatProg
import Derived.WalkKit
import Derived.WalkSpells
import Derived.WalkLawsBesides
import Derived.Laws.CopyOwn
import Derived.Laws.AppendOwnNone
import Derived.Maps.AppendAt
import Derived.Laws.OwnMore
import Derived.Below
import Derived.RowKit
import Derived.Deep.DeepCutAuto
import Derived.Deep.RegionWith
import Derived.Deep.RegionLaw
import Derived.Deep.RegionHeld3
import Derived.Deep.QuietTactic
import Derived.Deep.CutBlock
import Derived.Deep.AppendLies
import Derived.BigQuiet
import Derived.BigRegion
import Derived.OrdersHeld
import Derived.Maps.OwnSet
import Derived.DeepKeys4
/-
  Rows of numbers and of entities in memory, a map of places; sets of blocks: what all texts of this seat share.
-/
namespace Go.Proofs.YtfbhoemfabgjpaaGreat
open Go.RowKit
set_option maxRecDepth 100000
theorem hide {p : Prop} (h : p) : Hid p := h
theorem ret_int {k : IntKind} {a b : Int} (h : a = b) : Ending.returned (.int k a) = .returned (.int k b) := by rw [h]
theorem val_int {k : IntKind} {a b : Int} (h : a = b) : Value.int k a = .int k b := by rw [h]

theorem info2 : (Tryz.prog.info? 2).map (fun i => (i.zero, i.size, i.bytes)) = some (some (.int .i64 0), 1, 8) := by kernel_rfl
theorem info32 : (Tryz.prog.info? 34).map (fun i => (i.zero, i.size, i.bytes)) = some (some (.agg #[.int .i64 0, .int .i64 0]), 2, 16) := by kernel_rfl
theorem info27 : (Tryz.prog.info? 35).map (fun i => (i.zero, i.size, i.bytes)) = some (some (.slice none 0 0), 1, 24) := by kernel_rfl

/-! ### What changes -/
theorem grown_later {w w' : World} (h : Below w.heap.size w w') : w.grownBy w' none := ⟨h.os, h.tape, h.output, h.size, fun k hk _ => h.block k hk⟩
theorem grown_set (w : World) (g k : Nat) (u : Value) : w.grownBy (w.setCell ⟨g, k, none⟩ u) (some g) :=
  ⟨rfl, rfl, rfl, by simp, fun q _ hq => heap_setCell_other w ⟨g, k, none⟩ q u (fun e => hq (by rw [e]))⟩
theorem lt_of_block {w : World} {g : Nat} {o : Obj} (h : w.heap[g]? = some o) : g < w.heap.size := (Array.getElem?_eq_some_iff.1 h).1
theorem below_drawn (w : World) : ∀ n, Below w.heap.size w (w.drewN n)
  | 0 => Below.refl _ _
  | n + 1 => by
    have := below_drawn w n
    simpa using this.drew
theorem below_drew (w : World) : Below w.heap.size w w.drew := (Below.refl _ w).drew
theorem below_alloc (w : World) (o : Obj) : Below w.heap.size w (w.alloc o) := (Below.refl _ w).alloc (Nat.le_refl _) o
theorem below_on {w0 w w' : World} (h : Below w0.heap.size w0 w) (k : Below w.heap.size w w') : Below w0.heap.size w0 w' := h.trans (k.mono h.size)
/-- But for some blocks all that was there is as it was. -/
def Mv (w w' : World) (S : Nat → Prop) : Prop := w'.os = w.os ∧ w'.tape = w.tape ∧ w'.output = w.output ∧ w.heap.size ≤ w'.heap.size ∧ ∀ k, k < w.heap.size → ¬ S k → w'.heap[k]? = w.heap[k]?
section
variable {w w' w2 : World} {S S' : Nat → Prop}
theorem Mv.refl (w : World) (S : Nat → Prop) : Mv w w S := ⟨rfl, rfl, rfl, Nat.le_refl _, fun _ _ _ => rfl⟩
theorem Mv.size (h : Mv w w' S) : w.heap.size ≤ w'.heap.size := h.2.2.2.1
theorem Mv.trans (h : Mv w w' S) (k : Mv w' w2 S') (hs : ∀ k, k < w.heap.size → S' k → S k) : Mv w w2 S :=
  ⟨k.1.trans h.1, k.2.1.trans h.2.1, k.2.2.1.trans h.2.2.1, Nat.le_trans h.2.2.2.1 k.2.2.2.1, fun q hq hn => (k.2.2.2.2 q (Nat.lt_of_lt_of_le hq h.2.2.2.1) (fun e => hn (hs q hq e))).trans (h.2.2.2.2 q hq hn)⟩
theorem Mv.grown {row : Option Nat} (h : Mv w w' S) (hg : w'.grownBy w2 row) (hr : ∀ k, k < w.heap.size → row = some k → S k) : Mv w w2 S :=
  ⟨hg.1.trans h.1, hg.2.trans h.2.1, hg.3.trans h.2.2.1, Nat.le_trans h.2.2.2.1 hg.size, fun k hk h1 => (hg.block k (Nat.lt_of_lt_of_le hk h.2.2.2.1) (fun e => h1 (hr k hk e.symm))).trans (h.2.2.2.2 k hk h1)⟩
theorem Mv.alloc (h : Mv w w' S) (o : Obj) : Mv w (w'.alloc o) S := h.grown (World.grownBy_alloc w' o none) (fun _ _ e => by cases e)
theorem Mv.set (h : Mv w w' S) {g : Nat} (hg : S g) (k : Nat) (u : Value) : Mv w (w'.setCell ⟨g, k, none⟩ u) S := h.grown (grown_set w' g k u) (fun q _ e => by cases e; exact hg)
theorem Mv.later (h : Mv w w' S) (hb : Below w'.heap.size w' w2) : Mv w w2 S := h.grown (grown_later hb) (fun _ _ e => by cases e)
theorem Mv.mono (h : Mv w w' S) (hs : ∀ k, k < w.heap.size → S k → S' k) : Mv w w' S' := ⟨h.1, h.2.1, h.2.2.1, h.2.2.2.1, fun k hk hn => h.2.2.2.2 k hk (fun e => hn (hs k hk e))⟩
theorem Mv.of_below (h : Below w.heap.size w w') (S : Nat → Prop) : Mv w w' S := (Mv.refl w S).later h
theorem Mv.own {v : Value} {B e s n : Nat} {xs : List Value} (h : Mv w w' S) (hv : w.ownsRow B e s v n xs) (h1 : ∀ k, v.ownBlock = some k → ¬ S k) : w'.ownsRow B e s v n xs := by
  refine ⟨hv.1, ?_⟩
  rcases hv.2 with h0 | ⟨g, cap, cur, rfl, hb, hg, hr⟩
  · exact .inl h0
  · exact .inr ⟨g, cap, cur, rfl, hb, (h.2.2.2.2 g (Array.getElem?_eq_some_iff.1 hg).1 (h1 g rfl)).trans hg, hr⟩
theorem Mv.at {g : Nat} {o : Obj} (h : Mv w w' S) (hg : w.heap[g]? = some o) (h1 : ¬ S g) : w'.heap[g]? = some o := (h.2.2.2.2 g (Array.getElem?_eq_some_iff.1 hg).1 h1).trans hg
theorem Mv.cell {a : Addr} {x : Value} (h : Mv w w' S) (hc : w.cell? a = some x) (h1 : ¬ S a.block) : w'.cell? a = some x :=
  (World.cell?_of_block (h.2.2.2.2 a.block (World.block_lt_of_cell? w a hc) h1)).trans hc
theorem Mv.below {B : Nat} (h : Mv w w' S) (hB : B ≤ w.heap.size) (hs : ∀ k, S k → B ≤ k) : Below B w w' :=
  ⟨h.1, h.2.1, h.2.2.1, h.2.2.2.1, fun k hk => h.2.2.2.2 k (Nat.lt_of_lt_of_le hk hB) (fun e => by have := hs k e; omega)⟩
end
/-- The blocks of S, and those that are new since w. -/
def Nw (w : World) (S : Nat → Prop) : Nat → Prop := fun k => S k ∨ w.heap.size ≤ k
theorem Nw.old {w : World} {S : Nat → Prop} {k : Nat} (h : S k) : Nw w S k := .inl h
theorem Nw.twice {w w' : World} {S : Nat → Prop} (h : w.heap.size ≤ w'.heap.size) : ∀ k, Nw w' (Nw w S) k → Nw w S k := fun k e => by
  rcases e with e | e
  · exact e
  · exact .inr (Nat.le_trans h e)
theorem Mv.step {w w' w2 : World} {S : Nat → Prop} (h : Mv w w' S) (k : Mv w' w2 (Nw w S)) : Mv w w2 S := h.trans k (fun q hq e => by
  rcases e with e | e
  · exact e
  · omega)
def In (S : Nat → Prop) (v : Value) : Prop := ∀ k, v.ownBlock = some k → S k
theorem In.mono {S S' : Nat → Prop} {v : Value} (h : In S v) (hs : ∀ k, S k → S' k) : In S' v := fun k e => hs k (h k e)
theorem In.nil (S : Nat → Prop) : In S (.slice none 0 0) := fun k e => by simp [Value.ownBlock] at e
/-- Two values that lie in no block together. -/
def Ap (u v : Value) : Prop := ∀ g, u.ownBlock = some g → v.ownBlock = some g → False
theorem Ap.symm {u v : Value} (h : Ap u v) : Ap v u := fun g h1 h2 => h g h2 h1
theorem own_len {w : World} {B e s n : Nat} {v : Value} {xs : List Value} (h : w.ownsRow B e s v n xs) : ∃ ao c, v = .slice ao n c := by
  rcases h.2 with ⟨rfl, rfl⟩ | ⟨g, cap, cur, rfl, _⟩
  · exact ⟨_, _, rfl⟩
  · exact ⟨_, _, rfl⟩
theorem own_cap {w : World} {B e s n c : Nat} {ao : Option Addr} {xs : List Value} (h : w.ownsRow B e s (.slice ao n c) n xs) : n ≤ c ∧ c ≤ 9223372036854775807 := by
  rcases h.2 with ⟨e, h0⟩ | ⟨g, c', cur, e, _, _, h1, h2, _⟩
  · simp only [Value.slice.injEq] at e
    obtain ⟨_, _, rfl⟩ := e
    exact ⟨by omega, by omega⟩
  · simp only [Value.slice.injEq] at e
    obtain ⟨_, _, rfl⟩ := e
    unfold maxLen at h2
    exact ⟨h1, by omega⟩
theorem own_form {w : World} {B e s n : Nat} {v : Value} {xs : List Value} (h : w.ownsRow B e s v n xs) (h0 : 0 < n) : ∃ g c, v = .slice (some ⟨g, 0, none⟩) n c ∧ n ≤ c ∧ c ≤ 9223372036854775807 := by
  rcases h.2 with ⟨_, h'⟩ | ⟨g, c, cur, rfl, _, _, h1, h2, _⟩
  · omega
  · exact ⟨g, c, rfl, h1, by unfold maxLen at h2; omega⟩
theorem own_lower {w : World} {B B' e s n : Nat} {v : Value} {xs : List Value} (h : w.ownsRow B e s v n xs) (hB : B' ≤ B) : w.ownsRow B' e s v n xs := by
  refine ⟨h.1, ?_⟩
  rcases h.2 with h0 | ⟨g, cap, cur, h1, h2, h3⟩
  · exact .inl h0
  · exact .inr ⟨g, cap, cur, h1, Nat.le_trans hB h2, h3⟩
theorem own_later {w w' : World} {B e s n : Nat} {v : Value} {xs : List Value} (h : w.ownsRow B e s v n xs) (hb : Below w.heap.size w w') : w'.ownsRow B e s v n xs :=
  h.kept (grown_later hb) (by cases v.ownBlock <;> simp)
theorem own_set {w : World} {B e s n g k : Nat} {v u : Value} {xs : List Value} (h : w.ownsRow B e s v n xs) (hne : v.ownBlock ≠ some g) : (w.setCell ⟨g, k, none⟩ u).ownsRow B e s v n xs :=
  h.kept (grown_set w g k u) (.inr hne)
theorem own_kept {w w' : World} {B e s n : Nat} {v : Value} {xs : List Value} {row : Option Nat} (h : w.ownsRow B e s v n xs) (hg : w.grownBy w' row) (hne : ∀ k, v.ownBlock = some k → row ≠ some k) : w'.ownsRow B e s v n xs :=
  h.kept hg (by
    cases hv : v.ownBlock with
    | none => exact .inl rfl
    | some k => exact .inr (fun e => hne k hv e.symm))

/-! ### Rows of numbers, rows of entities -/
def zc (l : List Int) : List Value := l.map fun z => Value.int .i64 z
def ez : List (Int × Int) → List Value
  | [] => []
  | p :: t => .int .i64 p.1 :: .int .i64 p.2 :: ez t
theorem zc_len (l : List Int) : (zc l).length = l.length := by simp [zc]
theorem zc_append (a b : List Int) : zc (a ++ b) = zc a ++ zc b := by simp [zc]
theorem zc_set (l : List Int) (i : Nat) (x : Int) : (zc l).set i (.int .i64 x) = zc (l.set i x) := by simp [zc, List.map_set]
theorem zc_at (l : List Int) (i : Nat) (h : i < l.length) : (zc l)[i]? = some (.int .i64 l[i]) := by simp [zc, h]
theorem zc_take (l : List Int) (n : Nat) : (zc l).take n = zc (l.take n) := by simp [zc, List.map_take]
theorem ez_len : ∀ l : List (Int × Int), (ez l).length = l.length * 2
  | [] => rfl
  | p :: t => by simp [ez, ez_len t]; omega
theorem ez_append : ∀ a b : List (Int × Int), ez (a ++ b) = ez a ++ ez b
  | [], _ => rfl
  | h :: t, b => by simp [ez, ez_append t b]
theorem ez_at : ∀ (l : List (Int × Int)) (i : Nat) (h : i < l.length), (ez l)[i * 2]? = some (.int .i64 l[i].1) ∧ (ez l)[i * 2 + 1]? = some (.int .i64 l[i].2)
  | p :: t, 0, _ => ⟨rfl, rfl⟩
  | p :: t, i + 1, h => by
    have := ez_at t i (by simpa using h)
    rw [show (i + 1) * 2 = i * 2 + 1 + 1 by omega]
    simpa [ez] using this
theorem ez_set : ∀ (l : List (Int × Int)) (i : Nat) (a b : Int), i < l.length → ((ez l).set (i * 2) (.int .i64 a)).set (i * 2 + 1) (.int .i64 b) = ez (l.set i (a, b))
  | p :: t, 0, a, b, _ => rfl
  | p :: t, i + 1, a, b, h => by
    have := ez_set t i a b (by simpa using h)
    rw [show (i + 1) * 2 = i * 2 + 1 + 1 by omega]
    simpa [ez] using this
theorem ez_take : ∀ (l : List (Int × Int)) (n : Nat), (ez l).take (n * 2) = ez (l.take n)
  | [], n => by simp [ez]
  | p :: t, 0 => by simp [ez]
  | p :: t, n + 1 => by
    rw [show (n + 1) * 2 = n * 2 + 1 + 1 by omega]
    simp [ez, ez_take t n]
theorem own_num {w : World} {B g n c : Nat} {l : List Int} (h : w.ownsRow B 2 1 (.slice (some ⟨g, 0, none⟩) n c) n (zc l)) (i : Nat) (hi : i < l.length) : w.cell? ⟨g, i, none⟩ = some (.int .i64 l[i]) := by
  have hl := h.1
  rw [zc_len] at hl
  rw [h.cellAt i (by omega), zc_at l i hi]
theorem own_ent {w : World} {B g n c : Nat} {l : List (Int × Int)} (h : w.ownsRow B 34 2 (.slice (some ⟨g, 0, none⟩) n c) n (ez l)) (i : Nat) (hi : i < l.length) :
    w.cell? ⟨g, i * 2, none⟩ = some (.int .i64 l[i].1) ∧ w.cell? ⟨g, i * 2 + 1, none⟩ = some (.int .i64 l[i].2) := by
  have hl := h.1
  rw [ez_len] at hl
  rw [h.cellAt (i * 2) (by omega), h.cellAt (i * 2 + 1) (by omega)]
  exact ez_at l i hi
theorem own_prefix {w : World} {B e s g n n2 c : Nat} {ys : List Value} (h : w.ownsRow B e s (.slice (some ⟨g, 0, none⟩) n2 c) n2 ys) (hn : n ≤ n2) : w.ownsRow B e s (.slice (some ⟨g, 0, none⟩) n c) n (ys.take (n * s)) := by
  have hm : n * s ≤ n2 * s := Nat.mul_le_mul_right _ hn
  have hl := h.1
  rcases h.2 with ⟨e, -⟩ | ⟨g', cap, cur, e, hb, hg, h1, h2, h3, h4⟩
  · cases e
  · simp only [Value.slice.injEq, Option.some.injEq, Addr.mk.injEq, and_true, true_and] at e
    obtain ⟨rfl, rfl⟩ := e
    refine ⟨by rw [List.length_take, hl]; omega, .inr ⟨g, c, cur, rfl, hb, hg, by omega, h2, h3, ?_⟩⟩
    rw [← h4, List.take_take, Nat.min_eq_left hm]
/-! ### A map of places -/
theorem laidOutT : laidOutB Tryz.prog = true := by kernel_rfl
theorem keyed32 : Maps.Keyed Tryz.prog 34 := Maps.Keyed.of_law (deep_law_laid laidOutT (m := 2) (by omega) (of_decide_eq_true (by kernel_rfl)) (by kernel_rfl) (by rw [Tryz.underlying34]))
def InB (e : Int × Int) : Prop := (-9223372036854775808 ≤ e.1 ∧ e.1 ≤ 9223372036854775807) ∧ (-9223372036854775808 ≤ e.2 ∧ e.2 ≤ 9223372036854775807)
def evz (e : Int × Int) : Value := .agg #[.int .i64 e.1, .int .i64 e.2]
theorem key_of (e : Int × Int) (h : InB e) : ∃ kl, keyOf Tryz.prog 34 (evz e) = some kl := by
  have h1 : (Lit.int .i64 e.1).wf = true := by simp [Lit.wf, IntKind.min, IntKind.max, IntKind.signed, IntKind.bits]; exact h.1
  have h2 : (Lit.int .i64 e.2).wf = true := by simp [Lit.wf, IntKind.min, IntKind.max, IntKind.signed, IntKind.bits]; exact h.2
  have hk : Tryz.prog.keyType 34 = true := by kernel_rfl
  have hc : Tryz.prog.cellsOf 34 = 2 := by kernel_rfl
  have hc3 : Tryz.prog.cellsOf 3 = 1 := by kernel_rfl
  have hf : (evz e).formed Tryz.prog 34 = true := by simp [Value.formed, evz, Tryz.underlying34, hc]
  obtain ⟨d, hd⟩ : ∃ d, Tryz.prog.types.size + 1 = d + 2 := ⟨215, by kernel_rfl⟩
  have hl : (Tryz.prog.keyLits (Tryz.prog.types.size + 1) 34 (evz e).cells.toList) = some [.int .i64 e.1, .int .i64 e.2] := by
    rw [hd]
    simp [Program.keyLits, Tryz.underlying34, evz, Value.cells, hc, hc3, Tryz.underlying3, h1, h2]
  refine ⟨.string (keyBytes [.int .i64 e.1, .int .i64 e.2]), ?_⟩
  unfold keyOf
  rw [Tryz.underlying34]
  simp only [hk, hf, Bool.and_self, if_true, hl, Option.map_some]
theorem evz_inj {a b : Int × Int} (h : evz a = evz b) : a = b := by
  simp only [evz, Value.agg.injEq, Array.mk.injEq, List.cons.injEq, Value.int.injEq, true_and, and_true] at h
  exact Prod.ext h.1 h.2
/-- A map from entities to places: what it holds. -/
def Mp (w : World) (gm n : Nat) (f : Int × Int → Option Nat) : Prop :=
  ∃ D : DataW Unit, w.ownsMap Tryz.prog 34 (plainElem Tryz.prog 3) gm n D ∧ ∀ e, InB e → ∀ kl, keyOf Tryz.prog 34 (evz e) = some kl → Maps.has D kl = (f e).isSome ∧ ∀ i, f e = some i → D.atKey kl (.lit (.int .i64 0)) = .lit (.int .i64 (i : Int))
section
variable {w w' : World} {gm n : Nat} {f : Int × Int → Option Nat}
theorem Mp.made (w : World) : Mp (w.alloc (.map #[] 0)) w.heap.size 0 (fun _ => none) :=
  ⟨.map [], World.ownsMap_made w _ _ _, fun _ _ _ _ => ⟨rfl, fun _ h => by cases h⟩⟩
theorem Mp.kept {row : Option Nat} (h : Mp w gm n f) (hg : w.grownBy w' row) (hne : some gm ≠ row) : Mp w' gm n f := by
  obtain ⟨D, h1, h2⟩ := h
  exact ⟨D, h1.kept hg hne, h2⟩
theorem Mp.lt (h : Mp w gm n f) : gm < w.heap.size := by
  obtain ⟨D, h1, -⟩ := h
  exact h1.lt
theorem Mp.same (h : Mp w gm n f) (hs : w'.heap[gm]? = w.heap[gm]?) : Mp w' gm n f := by
  obtain ⟨D, ⟨es, ck, h1, h2⟩, h3⟩ := h
  exact ⟨D, ⟨es, ck, hs.trans h1, h2⟩, h3⟩
theorem zero3 (w : World) : (zeroValue 3).run Tryz.prog w = .ok (.int .i64 0) w := by kernel_rfl
theorem Mp.look (h : Mp w gm n f) (e : Int × Int) (he : InB e) : ∃ c : Int, (Instr.lookup 61 (.map (some gm)) (.agg #[.int .i64 e.1, .int .i64 e.2]) true).run Tryz.prog w = .ok (.tuple #[.int .i64 c, .bool (f e).isSome]) w ∧ ∀ i, f e = some i → c = (i : Int) := by
  obtain ⟨D, h1, h2⟩ := h
  obtain ⟨kl, hkl⟩ := key_of e he
  obtain ⟨v, ps, hr, hv⟩ := h1.look_ok keyed32 Tryz.underlying61 (zero3 w) (plainElem_int Tryz.underlying3 (by decide)) hkl
  obtain ⟨c, rfl, hc, hwc⟩ := plainElem_int_inv Tryz.underlying3 hv
  obtain ⟨h3, h4⟩ := h2 e he kl hkl
  rw [h3] at hr
  refine ⟨c, hr, fun i hi => ?_⟩
  have := congrArg Prod.fst hc
  rw [h4 i hi] at this
  simpa using this.symm
theorem Mp.store (h : Mp w gm n f) (e : Int × Int) (he : InB e) (i : Nat) (hi : i ≤ 1000000) (hn : n ≤ 1000000) : ∃ w', (Instr.mapUpdate 61 (.map (some gm)) (.agg #[.int .i64 e.1, .int .i64 e.2]) (.int .i64 (i : Int))).run Tryz.prog w = .ok () w' ∧ Mp w' gm (n + 1) (fun x => if x = e then some i else f x) ∧ w.mapTurned w' gm := by
  obtain ⟨D, h1, h2⟩ := h
  obtain ⟨kl, hkl⟩ := key_of e he
  have hw : (Lit.int .i64 (i : Int)).wf = true := by simp [Lit.wf, IntKind.min, IntKind.max, IntKind.signed, IntKind.bits]; omega
  obtain ⟨w', hr, h3, h4⟩ := h1.store keyed32 Tryz.underlying61 (by unfold maxLen; omega) hkl (plainElem_int Tryz.underlying3 hw)
  refine ⟨w', hr, ⟨_, h3, fun x hx kx hkx => ?_⟩, h4⟩
  by_cases ex : x = e
  · subst ex
    rw [hkl] at hkx
    obtain rfl := Option.some.inj hkx
    refine ⟨by rw [Maps.has_put_same h1.isMap (keyed32.key hkl)]; simp, fun j hj => ?_⟩
    rw [Maps.atKey_put_same h1.isMap (keyed32.key hkl)]
    simp only [if_true, Option.some.injEq] at hj
    rw [hj]
  · have hne : kx ≠ kl := fun e' => by
      subst e'
      exact ex (evz_inj (keyed32.inj hkx hkl))
    rw [Maps.has_put_other hne, Maps.atKey_put_other hne]
    simp only [if_neg ex]
    exact h2 x hx kx hkx
theorem Mp.drop (h : Mp w gm n f) (e : Int × Int) (he : InB e) (ty : TypeId) : ∃ w', (Builtin.delete_ #[61, 34] ty #[.map (some gm), .agg #[.int .i64 e.1, .int .i64 e.2]]).run Tryz.prog w = .ok (.tuple #[]) w' ∧ Mp w' gm n (fun x => if x = e then none else f x) ∧ w.mapTurned w' gm := by
  obtain ⟨D, h1, h2⟩ := h
  obtain ⟨kl, hkl⟩ := key_of e he
  obtain ⟨w', hr, h3, h4⟩ := h1.drop keyed32 Tryz.underlying61 hkl ty
  refine ⟨w', hr, ⟨_, h3, fun x hx kx hkx => ?_⟩, h4⟩
  by_cases ex : x = e
  · subst ex
    rw [hkl] at hkx
    obtain rfl := Option.some.inj hkx
    refine ⟨by rw [Maps.has_del_same]; simp, fun j hj => by simp at hj⟩
  · have hne : kx ≠ kl := fun e' => by
      subst e'
      exact ex (evz_inj (keyed32.inj hkx hkl))
    rw [Maps.has_del_other hne, Maps.atKey_del_other hne]
    simp only [if_neg ex]
    exact h2 x hx kx hkx
end
end Go.Proofs.YtfbhoemfabgjpaaGreat

/-
  A table in memory: its rows' entities, a map of their places, a list of numbers for each column.
-/
namespace Go.Proofs.YtfbhoemfabgjpaaGreat
open Go.RowKit
set_option maxRecDepth 100000
/-- Where each entity lies. -/
def Ix (rows : List (Int × Int)) (f : Int × Int → Option Nat) : Prop := (∀ i (hi : i < rows.length), f rows[i] = some i) ∧ ∀ e i, f e = some i → ∃ hi : i < rows.length, rows[i] = e
theorem Ix.off {rows : List (Int × Int)} {f : Int × Int → Option Nat} (h : Ix rows f) {e : Int × Int} : f e = none ↔ e ∉ rows := by
  constructor
  · intro h1 h2
    obtain ⟨i, hi, rfl⟩ := List.getElem_of_mem h2
    rw [h.1 i hi] at h1
    cases h1
  · intro h1
    cases h2 : f e with
    | none => rfl
    | some i =>
      obtain ⟨hi, rfl⟩ := h.2 e i h2
      exact absurd (List.getElem_mem hi) h1
theorem Ix.inj {rows : List (Int × Int)} {f : Int × Int → Option Nat} (h : Ix rows f) {i j : Nat} (hi : i < rows.length) (hj : j < rows.length) (e : rows[i] = rows[j]) : i = j := by
  have h1 := h.1 i hi
  rw [e, h.1 j hj] at h1
  exact (Option.some.inj h1).symm
theorem Ix.add {rows : List (Int × Int)} {f : Int × Int → Option Nat} (h : Ix rows f) {e0 : Int × Int} (h0 : e0 ∉ rows) : Ix (rows ++ [e0]) (fun e => if e = e0 then some rows.length else f e) := by
  refine ⟨fun i hi => ?_, fun e i he => ?_⟩
  · by_cases hl : i < rows.length
    · rw [List.getElem_append_left hl]
      have n0 : rows[i] ≠ e0 := fun e => h0 (e ▸ List.getElem_mem hl)
      simp only [if_neg n0]
      exact h.1 i hl
    · have : i = rows.length := by simp at hi; omega
      subst this
      simp
  · dsimp only at he
    by_cases e0' : e = e0
    · rw [if_pos e0'] at he
      obtain rfl := Option.some.inj he
      exact ⟨by simp, by simp [e0']⟩
    · rw [if_neg e0'] at he
      obtain ⟨hi, rfl⟩ := h.2 e i he
      exact ⟨by simp; omega, by rw [List.getElem_append_left hi]⟩
/-- What is left where one is taken away: the last one comes in its place. -/
def rem {α : Type} [Inhabited α] (l : List α) (row : Nat) : List α := (l.set row (l.getD (l.length - 1) default)).take (l.length - 1)
theorem rem_len {α : Type} [Inhabited α] (l : List α) (row : Nat) : (rem l row).length = l.length - 1 := by simp [rem]
theorem rem_at {α : Type} [Inhabited α] (l : List α) (row i : Nat) (hr : row < l.length) (hi : i < (rem l row).length) : (rem l row)[i] = if i = row then l[l.length - 1]'(by omega) else l[i]'(by rw [rem_len] at hi; omega) := by
  have hi' : i < l.length - 1 := by rw [rem_len] at hi; exact hi
  simp only [rem, List.getElem_take, List.getElem_set]
  by_cases e : row = i
  · subst e
    rw [if_pos rfl, if_pos rfl, List.getD_eq_getElem?_getD, List.getElem?_eq_getElem (by omega)]
    rfl
  · rw [if_neg e, if_neg (fun e' => e e'.symm)]
theorem Ix.del {rows : List (Int × Int)} {f : Int × Int → Option Nat} (h : Ix rows f) {row : Nat} (hr : row < rows.length) :
    Ix (rem rows row) (fun e => if row = rows.length - 1 then (if e = rows[row] then none else f e) else if e = rows[rows.length - 1]'(by omega) then some row else if e = rows[row] then none else f e) := by
  have hne : ∀ i (hi : i < rows.length), rows[i] = rows[row] → i = row := fun i hi e => h.inj hi hr e
  have hnl : ∀ i (hi : i < rows.length), rows[i] = rows[rows.length - 1]'(by omega) → i = rows.length - 1 := fun i hi e => h.inj hi (by omega) e
  refine ⟨fun i hi => ?_, fun e i he => ?_⟩
  · have hi' : i < rows.length - 1 := by rw [rem_len] at hi; exact hi
    rw [rem_at rows row i hr hi]
    dsimp only
    by_cases e : i = row
    · subst e
      rw [if_pos rfl, if_neg (by omega), if_pos rfl]
    · rw [if_neg e]
      have n1 : rows[i]'(by omega) ≠ rows[row] := fun e' => e (hne i (by omega) e')
      have n2 : rows[i]'(by omega) ≠ rows[rows.length - 1]'(by omega) := fun e' => by have := hnl i (by omega) e'; omega
      simp only [if_neg n1, if_neg n2]
      split <;> exact h.1 i (by omega)
  · dsimp only at he
    by_cases hl : row = rows.length - 1
    · rw [if_pos hl] at he
      by_cases e1 : e = rows[row]
      · rw [if_pos e1] at he; cases he
      · rw [if_neg e1] at he
        obtain ⟨hi, hx⟩ := h.2 e i he
        have : i ≠ row := fun e2 => e1 (by subst e2; exact hx.symm)
        refine ⟨by rw [rem_len]; omega, ?_⟩
        rw [rem_at rows row i hr (by rw [rem_len]; omega), if_neg this]
        exact hx
    · rw [if_neg hl] at he
      by_cases e2 : e = rows[rows.length - 1]'(by omega)
      · rw [if_pos e2] at he
        obtain rfl := Option.some.inj he
        refine ⟨by rw [rem_len]; omega, ?_⟩
        rw [rem_at rows row row hr (by rw [rem_len]; omega), if_pos rfl]
        exact e2.symm
      · rw [if_neg e2] at he
        by_cases e1 : e = rows[row]
        · rw [if_pos e1] at he; cases he
        · rw [if_neg e1] at he
          obtain ⟨hi, hx⟩ := h.2 e i he
          have n1 : i ≠ row := fun e3 => e1 (by subst e3; exact hx.symm)
          have n2 : i ≠ rows.length - 1 := fun e3 => e2 (by subst e3; exact hx.symm)
          refine ⟨by rw [rem_len]; omega, ?_⟩
          rw [rem_at rows row i hr (by rw [rem_len]; omega), if_neg n1]
          exact hx
/-- A table's parts, and whose each block is. -/
def Tm (w : World) (lab : Nat → Nat) (gt : Nat) (vr : Value) (gm n : Nat) (vc : Value) (cs : List Value) (f : Int × Int → Option Nat) (rows : List (Int × Int)) (cols : List (List Int)) : Prop :=
  w.heap[gt]? = some (.cells #[vr, .map (some gm), vc] 108 (0, 0)) ∧ w.ownsRow 0 34 2 vr rows.length (ez rows) ∧ Mp w gm n f ∧ w.ownsRow 0 35 1 vc cs.length cs ∧ cs.length = cols.length ∧
  (∀ j (hj : j < cs.length) (hj2 : j < cols.length), w.ownsRow 0 2 1 cs[j] cols[j].length (zc cols[j])) ∧
  lab gt = 0 ∧ (∀ k, vr.ownBlock = some k → lab k = 1) ∧ lab gm = 2 ∧ (∀ k, vc.ownBlock = some k → lab k = 3) ∧ ∀ j (hj : j < cs.length) k, cs[j].ownBlock = some k → lab k = 4 + j
section
variable {w w' : World} {lab : Nat → Nat} {gt gm n : Nat} {vr vc : Value} {cs : List Value} {f : Int × Int → Option Nat} {rows : List (Int × Int)} {cols : List (List Int)}
theorem Tm.cell (h : Tm w lab gt vr gm n vc cs f rows cols) : w.cell? ⟨gt, 0, none⟩ = some vr ∧ w.cell? ⟨gt, 1, none⟩ = some (.map (some gm)) ∧ w.cell? ⟨gt, 2, none⟩ = some vc := by
  refine ⟨?_, ?_, ?_⟩ <;> rw [cell_of_row w gt _ _ 108 (0, 0) h.1] <;> rfl
theorem Tm.frozen (h : Tm w lab gt vr gm n vc cs f rows cols) (k : Nat) : w.frozen? ⟨gt, k, none⟩ = false := frozen_of_row w gt k _ 108 h.1
theorem Tm.lt (h : Tm w lab gt vr gm n vc cs f rows cols) : gt < w.heap.size := lt_of_block h.1
theorem Tm.frame {T : Nat → Prop} (h : Tm w lab gt vr gm n vc cs f rows cols) (hm : Mv w w' T) (h0 : ¬ T gt) (h1 : ∀ k, vr.ownBlock = some k → ¬ T k) (h2 : ¬ T gm) (h3 : ∀ k, vc.ownBlock = some k → ¬ T k) (h4 : ∀ v ∈ cs, ∀ k, v.ownBlock = some k → ¬ T k) : Tm w' lab gt vr gm n vc cs f rows cols := by
  obtain ⟨a1, a2, a3, a4, a5, a6, a7⟩ := h
  exact ⟨hm.at a1 h0, hm.own a2 h1, a3.same (hm.2.2.2.2 gm a3.lt h2), hm.own a4 h3, a5, fun j hj hj2 => hm.own (a6 j hj hj2) (h4 _ (List.getElem_mem hj)), a7⟩
theorem Tm.later (h : Tm w lab gt vr gm n vc cs f rows cols) (hb : Below w.heap.size w w') : Tm w' lab gt vr gm n vc cs f rows cols :=
  h.frame (Mv.of_below hb (fun _ => False)) (fun e => e) (fun _ _ e => e) (fun e => e) (fun _ _ e => e) (fun _ _ _ _ e => e)
theorem own_slices {w : World} {B g n c : Nat} {l : List Value} (h : w.ownsRow B 35 1 (.slice (some ⟨g, 0, none⟩) n c) n l) (i : Nat) (hi : i < l.length) : w.cell? ⟨g, i, none⟩ = some l[i] := by
  have hl := h.1
  rw [h.cellAt i (by omega), List.getElem?_eq_getElem hi]
end
/-- A table. -/
def Tb (w : World) (S : Nat → Prop) (gt n : Nat) (rows : List (Int × Int)) (cols : List (List Int)) : Prop :=
  ∃ (lab : Nat → Nat) (vr : Value) (gm : Nat) (vc : Value) (cs : List Value) (f : Int × Int → Option Nat), Tm w lab gt vr gm n vc cs f rows cols ∧ Ix rows f ∧ (∀ c ∈ cols, c.length = rows.length) ∧
    (S gt ∧ In S vr ∧ S gm ∧ In S vc ∧ ∀ v ∈ cs, In S v) ∧ (∀ e ∈ rows, InB e) ∧ rows.length ≤ 200 ∧ cols.length ≤ 48
section
variable {w w' : World} {S T : Nat → Prop} {gt n : Nat} {rows : List (Int × Int)} {cols : List (List Int)}
theorem Tb.mono (h : Tb w S gt n rows cols) (hs : ∀ k, S k → T k) : Tb w T gt n rows cols := by
  obtain ⟨lab, vr, gm, vc, cs, f, h1, h2, h3, ⟨s1, s2, s3, s4, s5⟩, h5⟩ := h
  exact ⟨lab, vr, gm, vc, cs, f, h1, h2, h3, ⟨hs _ s1, s2.mono hs, hs _ s3, s4.mono hs, fun v hv => (s5 v hv).mono hs⟩, h5⟩
theorem Tb.frame (h : Tb w S gt n rows cols) (hm : Mv w w' T) (hs : ∀ k, S k → ¬ T k) : Tb w' S gt n rows cols := by
  obtain ⟨lab, vr, gm, vc, cs, f, h1, h2, h3, ⟨s1, s2, s3, s4, s5⟩, h5⟩ := h
  exact ⟨lab, vr, gm, vc, cs, f, h1.frame hm (hs _ s1) (fun k e => hs k (s2 k e)) (hs _ s3) (fun k e => hs k (s4 k e)) (fun v hv k e => hs k (s5 v hv k e)), h2, h3, ⟨s1, s2, s3, s4, s5⟩, h5⟩
theorem Tb.later (h : Tb w S gt n rows cols) (hb : Below w.heap.size w w') : Tb w' S gt n rows cols := h.frame (Mv.of_below hb (fun _ => False)) (fun _ _ e => e)
end
end Go.Proofs.YtfbhoemfabgjpaaGreat
