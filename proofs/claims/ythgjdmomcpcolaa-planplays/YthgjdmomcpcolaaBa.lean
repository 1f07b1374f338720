/-
  Plan: rows of numbers in memory; slices.Clone, Sort, Compact; setOf.
-/
import Derived.Test.YthgjdmomcpcolaaProg
import Derived.Test.YthgjdmomcpcolaaShelf
import Derived.Test.YthgjdmomcpcolaaMc
import Derived.WalkKit
import Derived.WalkSpells
import Derived.WalkLawsBesides
import Derived.Laws.CopyOwn
import Derived.Laws.AppendOwnNone
import Derived.Maps.AppendAt
import Derived.Laws.OwnMore
import Derived.Below
import Derived.RowKit
import Derived.Deep.DeepCutAuto
import Derived.Deep.RegionWith
import Derived.Deep.RegionLaw
import Derived.Deep.RegionHeld3
import Derived.Deep.QuietTactic
import Derived.Deep.CutBlock
import Derived.Deep.AppendLies
import Derived.BigQuiet
import Derived.BigRegion
import Derived.OrdersHeld
import Derived.Maps.OwnSet
import Derived.DeepKeys4
namespace Go.Proofs.Ythgjdmomcpcolaa
open Go.RowKit
theorem hide {p : Prop} (h : p) : Hid p := h
theorem ret_int {k : IntKind} {a b : Int} (h : a = b) : Ending.returned (.int k a) = .returned (.int k b) := by rw [h]
theorem val_int {k : IntKind} {a b : Int} (h : a = b) : Value.int k a = .int k b := by rw [h]


/-! ### What changes -/
theorem grown_later {w w' : World} (h : Below w.heap.size w w') : w.grownBy w' none := ⟨h.os, h.tape, h.output, h.size, fun k hk _ => h.block k hk⟩
theorem grown_set (w : World) (g k : Nat) (u : Value) : w.grownBy (w.setCell ⟨g, k, none⟩ u) (some g) :=
  ⟨rfl, rfl, rfl, by simp, fun q _ hq => heap_setCell_other w ⟨g, k, none⟩ q u (fun e => hq (by rw [e]))⟩
theorem lt_of_block {w : World} {g : Nat} {o : Obj} (h : w.heap[g]? = some o) : g < w.heap.size := (Array.getElem?_eq_some_iff.1 h).1
theorem below_drawn (w : World) : ∀ n, Below w.heap.size w (w.drewN n)
  | 0 => Below.refl _ _
  | n + 1 => by
    have := below_drawn w n
    simpa using this.drew
theorem below_drew (w : World) : Below w.heap.size w w.drew := (Below.refl _ w).drew
theorem below_alloc (w : World) (o : Obj) : Below w.heap.size w (w.alloc o) := (Below.refl _ w).alloc (Nat.le_refl _) o
theorem below_on {w0 w w' : World} (h : Below w0.heap.size w0 w) (k : Below w.heap.size w w') : Below w0.heap.size w0 w' := h.trans (k.mono h.size)
/-- But for some blocks all that was there is as it was. -/
def Mv (w w' : World) (S : Nat → Prop) : Prop := w'.os = w.os ∧ w'.tape = w.tape ∧ w'.output = w.output ∧ w.heap.size ≤ w'.heap.size ∧ ∀ k, k < w.heap.size → ¬ S k → w'.heap[k]? = w.heap[k]?
section
variable {w w' w2 : World} {S S' : Nat → Prop}
theorem Mv.refl (w : World) (S : Nat → Prop) : Mv w w S := ⟨rfl, rfl, rfl, Nat.le_refl _, fun _ _ _ => rfl⟩
theorem Mv.size (h : Mv w w' S) : w.heap.size ≤ w'.heap.size := h.2.2.2.1
theorem Mv.trans (h : Mv w w' S) (k : Mv w' w2 S') (hs : ∀ k, k < w.heap.size → S' k → S k) : Mv w w2 S :=
  ⟨k.1.trans h.1, k.2.1.trans h.2.1, k.2.2.1.trans h.2.2.1, Nat.le_trans h.2.2.2.1 k.2.2.2.1, fun q hq hn => (k.2.2.2.2 q (Nat.lt_of_lt_of_le hq h.2.2.2.1) (fun e => hn (hs q hq e))).trans (h.2.2.2.2 q hq hn)⟩
theorem Mv.grown {row : Option Nat} (h : Mv w w' S) (hg : w'.grownBy w2 row) (hr : ∀ k, k < w.heap.size → row = some k → S k) : Mv w w2 S :=
  ⟨hg.1.trans h.1, hg.2.trans h.2.1, hg.3.trans h.2.2.1, Nat.le_trans h.2.2.2.1 hg.size, fun k hk h1 => (hg.block k (Nat.lt_of_lt_of_le hk h.2.2.2.1) (fun e => h1 (hr k hk e.symm))).trans (h.2.2.2.2 k hk h1)⟩
theorem Mv.alloc (h : Mv w w' S) (o : Obj) : Mv w (w'.alloc o) S := h.grown (World.grownBy_alloc w' o none) (fun _ _ e => by cases e)
theorem Mv.set (h : Mv w w' S) {g : Nat} (hg : S g) (k : Nat) (u : Value) : Mv w (w'.setCell ⟨g, k, none⟩ u) S := h.grown (grown_set w' g k u) (fun q _ e => by cases e; exact hg)
theorem Mv.later (h : Mv w w' S) (hb : Below w'.heap.size w' w2) : Mv w w2 S := h.grown (grown_later hb) (fun _ _ e => by cases e)
theorem Mv.mono (h : Mv w w' S) (hs : ∀ k, k < w.heap.size → S k → S' k) : Mv w w' S' := ⟨h.1, h.2.1, h.2.2.1, h.2.2.2.1, fun k hk hn => h.2.2.2.2 k hk (fun e => hn (hs k hk e))⟩
theorem Mv.of_below (h : Below w.heap.size w w') (S : Nat → Prop) : Mv w w' S := (Mv.refl w S).later h
theorem Mv.own {v : Value} {B e s n : Nat} {xs : List Value} (h : Mv w w' S) (hv : w.ownsRow B e s v n xs) (h1 : ∀ k, v.ownBlock = some k → ¬ S k) : w'.ownsRow B e s v n xs := by
  refine ⟨hv.1, ?_⟩
  rcases hv.2 with h0 | ⟨g, cap, cur, rfl, hb, hg, hr⟩
  · exact .inl h0
  · exact .inr ⟨g, cap, cur, rfl, hb, (h.2.2.2.2 g (Array.getElem?_eq_some_iff.1 hg).1 (h1 g rfl)).trans hg, hr⟩
theorem Mv.at {g : Nat} {o : Obj} (h : Mv w w' S) (hg : w.heap[g]? = some o) (h1 : ¬ S g) : w'.heap[g]? = some o := (h.2.2.2.2 g (Array.getElem?_eq_some_iff.1 hg).1 h1).trans hg
theorem Mv.cell {a : Addr} {x : Value} (h : Mv w w' S) (hc : w.cell? a = some x) (h1 : ¬ S a.block) : w'.cell? a = some x :=
  (World.cell?_of_block (h.2.2.2.2 a.block (World.block_lt_of_cell? w a hc) h1)).trans hc
theorem Mv.below {B : Nat} (h : Mv w w' S) (hB : B ≤ w.heap.size) (hs : ∀ k, S k → B ≤ k) : Below B w w' :=
  ⟨h.1, h.2.1, h.2.2.1, h.2.2.2.1, fun k hk => h.2.2.2.2 k (Nat.lt_of_lt_of_le hk hB) (fun e => by have := hs k e; omega)⟩
end
/-- The blocks of S, and those that are new since w. -/
def Nw (w : World) (S : Nat → Prop) : Nat → Prop := fun k => S k ∨ w.heap.size ≤ k
theorem Nw.old {w : World} {S : Nat → Prop} {k : Nat} (h : S k) : Nw w S k := .inl h
theorem Nw.twice {w w' : World} {S : Nat → Prop} (h : w.heap.size ≤ w'.heap.size) : ∀ k, Nw w' (Nw w S) k → Nw w S k := fun k e => by
  rcases e with e | e
  · exact e
  · exact .inr (Nat.le_trans h e)
theorem Mv.step {w w' w2 : World} {S : Nat → Prop} (h : Mv w w' S) (k : Mv w' w2 (Nw w S)) : Mv w w2 S := h.trans k (fun q hq e => by
  rcases e with e | e
  · exact e
  · omega)
def In (S : Nat → Prop) (v : Value) : Prop := ∀ k, v.ownBlock = some k → S k
theorem In.mono {S S' : Nat → Prop} {v : Value} (h : In S v) (hs : ∀ k, S k → S' k) : In S' v := fun k e => hs k (h k e)
theorem In.nil (S : Nat → Prop) : In S (.slice none 0 0) := fun k e => by simp [Value.ownBlock] at e
/-- Two values that lie in no block together. -/
def Ap (u v : Value) : Prop := ∀ g, u.ownBlock = some g → v.ownBlock = some g → False
theorem Ap.symm {u v : Value} (h : Ap u v) : Ap v u := fun g h1 h2 => h g h2 h1
theorem own_len {w : World} {B e s n : Nat} {v : Value} {xs : List Value} (h : w.ownsRow B e s v n xs) : ∃ ao c, v = .slice ao n c := by
  rcases h.2 with ⟨rfl, rfl⟩ | ⟨g, cap, cur, rfl, _⟩
  · exact ⟨_, _, rfl⟩
  · exact ⟨_, _, rfl⟩
theorem own_cap {w : World} {B e s n c : Nat} {ao : Option Addr} {xs : List Value} (h : w.ownsRow B e s (.slice ao n c) n xs) : n ≤ c ∧ c ≤ 9223372036854775807 := by
  rcases h.2 with ⟨e, h0⟩ | ⟨g, c', cur, e, _, _, h1, h2, _⟩
  · simp only [Value.slice.injEq] at e
    obtain ⟨_, _, rfl⟩ := e
    exact ⟨by omega, by omega⟩
  · simp only [Value.slice.injEq] at e
    obtain ⟨_, _, rfl⟩ := e
    unfold maxLen at h2
    exact ⟨h1, by omega⟩
theorem own_form {w : World} {B e s n : Nat} {v : Value} {xs : List Value} (h : w.ownsRow B e s v n xs) (h0 : 0 < n) : ∃ g c, v = .slice (some ⟨g, 0, none⟩) n c ∧ n ≤ c ∧ c ≤ 9223372036854775807 := by
  rcases h.2 with ⟨_, h'⟩ | ⟨g, c, cur, rfl, _, _, h1, h2, _⟩
  · omega
  · exact ⟨g, c, rfl, h1, by unfold maxLen at h2; omega⟩
theorem own_lower {w : World} {B B' e s n : Nat} {v : Value} {xs : List Value} (h : w.ownsRow B e s v n xs) (hB : B' ≤ B) : w.ownsRow B' e s v n xs := by
  refine ⟨h.1, ?_⟩
  rcases h.2 with h0 | ⟨g, cap, cur, h1, h2, h3⟩
  · exact .inl h0
  · exact .inr ⟨g, cap, cur, h1, Nat.le_trans hB h2, h3⟩
theorem own_later {w w' : World} {B e s n : Nat} {v : Value} {xs : List Value} (h : w.ownsRow B e s v n xs) (hb : Below w.heap.size w w') : w'.ownsRow B e s v n xs :=
  h.kept (grown_later hb) (by cases v.ownBlock <;> simp)
theorem own_set {w : World} {B e s n g k : Nat} {v u : Value} {xs : List Value} (h : w.ownsRow B e s v n xs) (hne : v.ownBlock ≠ some g) : (w.setCell ⟨g, k, none⟩ u).ownsRow B e s v n xs :=
  h.kept (grown_set w g k u) (.inr hne)
theorem own_kept {w w' : World} {B e s n : Nat} {v : Value} {xs : List Value} {row : Option Nat} (h : w.ownsRow B e s v n xs) (hg : w.grownBy w' row) (hne : ∀ k, v.ownBlock = some k → row ≠ some k) : w'.ownsRow B e s v n xs :=
  h.kept hg (by
    cases hv : v.ownBlock with
    | none => exact .inl rfl
    | some k => exact .inr (fun e => hne k hv e.symm))


theorem info3 : (Try.prog.info? 3).map (fun i => (i.zero, i.size, i.bytes)) = some (some (.int .i64 0), 1, 8) := by kernel_rfl
/-! ### Rows of numbers -/
def zc (l : List Int) : List Value := l.map fun z => Value.int .i64 z
theorem zc_len (l : List Int) : (zc l).length = l.length := by simp [zc]
theorem zc_append (a b : List Int) : zc (a ++ b) = zc a ++ zc b := by simp [zc]
theorem zc_set (l : List Int) (i : Nat) (x : Int) : (zc l).set i (.int .i64 x) = zc (l.set i x) := by simp [zc, List.map_set]
theorem zc_at (l : List Int) (i : Nat) (h : i < l.length) : (zc l)[i]? = some (.int .i64 l[i]) := by simp [zc, h]
theorem zc_take (l : List Int) (n : Nat) : (zc l).take n = zc (l.take n) := by simp [zc, List.map_take]
theorem zc_one (l : List Int) : ∀ u ∈ zc l, u.oneCell' = true := by
  intro u hu
  simp only [zc, List.mem_map] at hu
  obtain ⟨b, _, rfl⟩ := hu
  rfl
/-- Numbers that are owned. -/
abbrev Rw (w : World) (B : Nat) (v : Value) (l : List Int) : Prop := w.ownsRow B 3 1 v l.length (zc l)
theorem Rw.at {w : World} {B g c : Nat} {l : List Int} (h : Rw w B (.slice (some ⟨g, 0, none⟩) l.length c) l) (i : Nat) (hi : i < l.length) : w.cell? ⟨g, i, none⟩ = some (.int .i64 l[i]) := by
  rw [h.cellAt i (by omega), zc_at l i hi]
theorem Rw.nil (w : World) (B : Nat) : Rw w B (.slice none 0 0) [] := ⟨rfl, .inl ⟨rfl, rfl⟩⟩
theorem Rw.set {w : World} {B g c : Nat} {l : List Int} (h : Rw w B (.slice (some ⟨g, 0, none⟩) l.length c) l) (i : Nat) (x : Int) : Rw (w.setCell ⟨g, i, none⟩ (.int .i64 x)) B (.slice (some ⟨g, 0, none⟩) l.length c) (l.set i x) := by
  have := (h.stored i (.int .i64 x)).1
  rw [zc_set] at this
  unfold Rw
  rw [List.length_set]
  exact this
theorem own_cut {w : World} {B g c m k e : Nat} {xs : List Value} (h : w.ownsRow B e 1 (.slice (some ⟨g, 0, none⟩) m c) m xs) (hk : k ≤ m) : w.ownsRow B e 1 (.slice (some ⟨g, 0, none⟩) k c) k (xs.take k) := by
  have hlen := h.1
  rcases h.2 with ⟨h', _⟩ | ⟨gv', c', cur, h', hb, hg, h1, h2, h3, h4⟩
  · simp at h'
  · simp only [Value.slice.injEq, Option.some.injEq, Addr.mk.injEq, and_true, true_and] at h'
    obtain ⟨rfl, rfl⟩ := h'
    refine ⟨by rw [List.length_take]; omega, .inr ⟨g, c, cur, rfl, hb, hg, by omega, h2, h3, ?_⟩⟩
    rw [← h4, List.take_take]
    congr 1
    omega
theorem Rw.cut {w : World} {B g c k : Nat} {l : List Int} (h : Rw w B (.slice (some ⟨g, 0, none⟩) l.length c) l) (hk : k ≤ l.length) : Rw w B (.slice (some ⟨g, 0, none⟩) k c) (l.take k) := by
  have := own_cut h hk
  rw [zc_take] at this
  unfold Rw
  rw [List.length_take, Nat.min_eq_left hk]
  exact this
/-- The world behind a row that was put in order. -/
theorem Rw.put {w : World} {g c q : Nat} {l l' : List Int} {os : Array Obj} (h : Rw w 0 (.slice (some ⟨g, 0, none⟩) l.length c) l) (hl : l'.length = l.length) :
    Rw (Sort.grow (Sort.putRow (Value.int .i64) (Sort.ahead w q) g 0 l'.toArray) os) 0 (.slice (some ⟨g, 0, none⟩) l'.length c) l' ∧ w.grownBy (Sort.grow (Sort.putRow (Value.int .i64) (Sort.ahead w q) g 0 l'.toArray) os) (some g) := by
  unfold Rw
  rw [hl]
  rcases h.2 with ⟨e0, _⟩ | ⟨g', cap', cur, e0, hb, hg, hn, hm, hs, ht⟩
  · cases e0
  · injection e0 with e1 _ e3
    injection e1 with e1
    injection e1 with e1
    subst e1; subst e3
    have hlt : g < w.heap.size := lt_of_block hg
    refine ⟨⟨by rw [zc_len, hl]; omega, .inr ⟨g, c, Sort.putCells (Value.int .i64) 0 l'.toArray cur, rfl, hb, ?_, hn, hm, by simpa [Sort.putCells] using hs, ?_⟩⟩, ⟨rfl, rfl, rfl, ?_, fun k hk hne => ?_⟩⟩
    · rw [Sort.heap_grow_old _ _ (by simpa [Sort.putRow, Sort.mapBlock, Sort.ahead] using hlt)]
      simp [Sort.putRow, Sort.mapBlock, Sort.ahead, Array.getElem?_modify, hg, Sort.onCells]
    · apply List.ext_getElem?
      intro j
      rw [List.getElem?_take, Array.getElem?_toList]
      by_cases hj : j < l.length * 1
      · have hjc : j < cur.size := by rw [hs]; omega
        have hj2 : j < l'.length := by omega
        simp only [if_pos hj, Sort.putCells, Array.getElem?_mapIdx, Array.getElem?_eq_getElem hjc, Option.map_some]
        rw [if_pos ⟨Nat.zero_le _, by simp; omega⟩, Nat.sub_zero, zc_at l' j hj2, getElem!_pos l'.toArray j (by simpa using hj2)]
        simp
      · rw [if_neg hj, List.getElem?_eq_none (by rw [zc_len]; omega)]
    · simp [Sort.grow, Sort.putRow, Sort.mapBlock, Sort.ahead]
    · have hne2 : ¬ g = k := fun e => hne (by rw [e])
      rw [Sort.heap_grow_old _ _ (by simpa [Sort.putRow, Sort.mapBlock, Sort.ahead] using hk)]
      simp [Sort.putRow, Sort.mapBlock, Sort.ahead, Array.getElem?_modify, hne2]
theorem Rw.holds {w : World} {g c : Nat} {l : List Int} (h : Rw w 0 (.slice (some ⟨g, 0, none⟩) l.length c) l) : Sort.Holds (Value.int .i64) w g 0 l.toArray := fun j hj => by
  have hj2 : j < l.length := by simpa using hj
  rw [Nat.zero_add, h.at j hj2, getElem!_pos l.toArray j hj]
  exact ⟨by simp, h.frozenAt j⟩
theorem clone_nums {w : World} {B : Nat} {v : Value} {l : List Int} (h : Rw w B v l) (hn : l.length ≤ 1000000) : Calls Try.prog 40 #[v] w fun e w' => ∃ v', e = .returned v' ∧ Rw w' w.heap.size v' l ∧ Below w.heap.size w w' := by
  rcases h.2 with ⟨rfl, hl⟩ | ⟨g, cap, cur, rfl, -⟩
  · obtain rfl := List.eq_nil_of_length_eq_zero hl
    refine (Try.slices_Clone_int_nil 0 0 w).mono ?_
    rintro e w' ⟨rfl, rfl⟩
    exact ⟨_, rfl, Rw.nil _ _, Below.refl _ _⟩
  · refine (Try.slices_Clone_int g 0 l.length cap l w (Nat.le_refl _) (by omega) (fun j hj => ?_)).mono ?_
    · rw [Nat.zero_add, h.at j hj, List.getD_eq_getElem?_getD, List.getElem?_eq_getElem hj]
      rfl
    · rintro e w' ⟨v', rfl, h1, _, h2⟩
      rw [List.take_length] at h1
      exact ⟨v', rfl, h1, h2⟩
def srt (l : List Int) : List Int := l.mergeSort fun x y => decide (x ≤ y)
theorem srt_len (l : List Int) : (srt l).length = l.length := List.length_mergeSort _
theorem srt_mem (l : List Int) (x : Int) : x ∈ srt l ↔ x ∈ l := List.mem_mergeSort
theorem srt_rise (l : List Int) : (srt l).Pairwise (· ≤ ·) := by
  have := List.pairwise_mergeSort (le := fun x y : Int => decide (x ≤ y)) (fun a b c h1 h2 => by simp at *; omega) (fun a b => by simp; omega) l
  refine List.Pairwise.imp (fun h => ?_) this
  simpa using h
theorem sort_nums {w : World} {v : Value} {l : List Int} (h : Rw w 0 v l) (hn : l.length ≤ 1000000) : Calls Try.prog 47 #[v] w fun e w' => e = .returned (.tuple #[]) ∧ Rw w' 0 v (srt l) ∧ w.grownBy w' v.ownBlock := by
  rcases h.2 with ⟨rfl, hl⟩ | ⟨g, cap, cur, rfl, hb, hg, -⟩
  · obtain rfl := List.eq_nil_of_length_eq_zero hl
    refine (Try.slices_Sort_int_none none 0 w).mono ?_
    rintro e w' ⟨rfl, rfl⟩
    refine ⟨rfl, ?_, grown_later (Below.refl _ _)⟩
    have : srt [] = [] := List.eq_nil_of_length_eq_zero (srt_len _)
    rw [this]
    exact h
  · refine (Try.slices_Sort_int g 0 cap l w h.holds (lt_of_block hg) (by omega)).mono ?_
    rintro e w' ⟨rfl, n, os, rfl⟩
    obtain ⟨k1, k2⟩ := Rw.put (q := n) (os := os) h (srt_len l)
    refine ⟨rfl, ?_, k2⟩
    unfold Rw at k1 ⊢
    rw [srt_len] at k1 ⊢
    exact k1
/-- Rising, each once. -/
def cmpL (l : List Int) : List Int := Lib.compact l
theorem cmpU_mem (l : List Int) : ∀ m, m ≤ l.length → ∀ x, x ∈ Lib.compactUpTo l.toArray m ↔ x ∈ l.take m
  | 0, _, x => by simp [Lib.compactUpTo]
  | m + 1, hm, x => by
    have ih := cmpU_mem l m (by omega) x
    have hg : l.toArray[m]! = l[m] := by rw [getElem!_pos _ m (by simp; omega)]; simp
    rw [Lib.compactUpTo_succ, List.mem_append, ih, List.take_succ_eq_append_getElem (by omega), List.mem_append, hg]
    by_cases hk : Lib.keeps l.toArray m = true
    · rw [if_pos hk]
    · rw [if_neg hk]
      have h0 : m ≠ 0 := fun e => hk (by subst e; simp [Lib.keeps])
      have heq : l.toArray[m]! = l.toArray[m - 1]! := by
        simp only [Lib.keeps, decide_eq_true_eq, not_or, Decidable.not_not] at hk
        exact hk.2
      have hg1 : l.toArray[m - 1]! = l[m - 1]'(by omega) := by rw [getElem!_pos _ (m - 1) (by simp; omega)]; simp
      rw [hg, hg1] at heq
      constructor
      · rintro (h | h)
        · exact .inl h
        · cases h
      · rintro (h | h)
        · exact .inl h
        · left
          rw [List.mem_singleton.1 h, heq]
          exact List.mem_take_iff_getElem.2 ⟨m - 1, by omega, rfl⟩
theorem cmpL_mem (l : List Int) (x : Int) : x ∈ cmpL l ↔ x ∈ l := by
  rw [cmpL, Lib.compact, cmpU_mem l _ (Nat.le_refl _), List.take_length]
theorem cmpU_rise {l : List Int} (h : l.Pairwise (· ≤ ·)) : ∀ m, m ≤ l.length → (Lib.compactUpTo l.toArray m).Pairwise (· < ·)
  | 0, _ => by simp [Lib.compactUpTo]
  | m + 1, hm => by
    have ih := cmpU_rise h m (by omega)
    have hg : l.toArray[m]! = l[m] := by rw [getElem!_pos _ m (by simp; omega)]; simp
    rw [Lib.compactUpTo_succ, hg]
    by_cases hk : Lib.keeps l.toArray m = true
    · rw [if_pos hk, List.pairwise_append]
      refine ⟨ih, by simp, fun x hx y hy => ?_⟩
      rw [List.mem_singleton.1 hy]
      rw [cmpU_mem l m (by omega)] at hx
      obtain ⟨i, hi, rfl⟩ := List.mem_take_iff_getElem.1 hx
      have hp := List.pairwise_iff_getElem.1 h
      have hne : m = 0 ∨ l[m] ≠ l[m - 1]'(by omega) := by
        have hg1 : l.toArray[m - 1]! = l[m - 1]'(by omega) := by rw [getElem!_pos _ (m - 1) (by simp; omega)]; simp
        simp only [Lib.keeps, decide_eq_true_eq] at hk
        rw [hg, hg1] at hk
        exact hk
      have h1 := hp (m - 1) m (by omega) (by omega) (by omega)
      have h2 : l[i] ≤ l[m - 1]'(by omega) := by
        by_cases e : i = m - 1
        · subst e; exact Int.le_refl _
        · exact hp i (m - 1) (by omega) (by omega) (by omega)
      rcases hne with hne | hne
      · omega
      · omega
    · rw [if_neg hk, List.append_nil]
      exact ih
theorem cmpL_rise {l : List Int} (h : l.Pairwise (· ≤ ·)) : (cmpL l).Pairwise (· < ·) := cmpU_rise h _ (Nat.le_refl _)
theorem cmpL_len (l : List Int) : (cmpL l).length ≤ l.length := by
  unfold cmpL Lib.compact Lib.compactUpTo
  rw [List.length_map]
  exact Nat.le_trans (List.length_filter_le _ _) (by simp)
theorem compact_nums {w : World} {v : Value} {l : List Int} (h : Rw w 0 v l) (hn : l.length ≤ 1000000) : Calls Try.prog 48 #[v] w fun e w' => ∃ v', e = .returned v' ∧ Rw w' 0 v' (cmpL l) ∧ v'.ownBlock = v.ownBlock ∧ w.grownBy w' v.ownBlock := by
  rcases h.2 with ⟨rfl, hl⟩ | ⟨g, cap, cur, rfl, hb, hg, hc, -⟩
  · obtain rfl := List.eq_nil_of_length_eq_zero hl
    refine (Try.slices_Compact_int_empty none 0 w).mono ?_
    rintro e w' ⟨rfl, rfl⟩
    exact ⟨_, rfl, Rw.nil _ _, rfl, grown_later (Below.refl _ _)⟩
  · refine (Try.slices_Compact_int g 0 cap l w h.holds (by omega) hc).mono ?_
    rintro e w' ⟨rfl, q, rfl⟩
    have hlen := cmpL_len l
    have k := Rw.put (q := q) (os := #[]) (l' := Lib.compact l ++ List.replicate (l.length - (Lib.compact l).length) 0) h (by
      simp only [List.length_append, List.length_replicate]
      have : (Lib.compact l).length ≤ l.length := hlen
      omega)
    simp only [Sort.grow_empty] at k
    refine ⟨_, rfl, ?_, rfl, k.2⟩
    have k3 := k.1.cut (k := (cmpL l).length) (by simp [cmpL])
    have e : (Lib.compact l ++ List.replicate (l.length - (Lib.compact l).length) (0 : Int)).take (cmpL l).length = cmpL l := by
      simp [cmpL]
    rw [e] at k3
    exact k3
def setL (l : List Int) : List Int := cmpL (srt l)
theorem setL_mem (l : List Int) (x : Int) : x ∈ setL l ↔ x ∈ l := (cmpL_mem _ _).trans (srt_mem _ _)
theorem setL_rise (l : List Int) : (setL l).Pairwise (· < ·) := cmpL_rise (srt_rise l)
theorem setL_len (l : List Int) : (setL l).length ≤ l.length := Nat.le_trans (cmpL_len _) (Nat.le_of_eq (srt_len l))
theorem Rw.val {w : World} {B : Nat} {v : Value} {l : List Int} (h : Rw w B v l) : ∃ ao c, v = .slice ao l.length c := own_len h
set_option maxHeartbeats 1000000 in
theorem setof_any {w : World} {B : Nat} {v : Value} {l : List Int} (h : Rw w B v l) (hn : l.length ≤ 1000000) : Calls Try.prog 43 #[v] w fun e w' => ∃ v', e = .returned v' ∧ Rw w' w.heap.size v' (setL l) ∧ Below w.heap.size w w' := by
  have J := hide (clone_nums h hn)
  obtain ⟨ao, c, rfl⟩ := own_len h
  go_enter Try.func43, Try.ntmps43
  clear h
  go_wp2_with fail
  refine J.out.mono ?_
  rintro e w1 ⟨v1, rfl, h1, b1⟩
  obtain ⟨a1, c1, rfl⟩ := own_len h1
  have K := hide (sort_nums (own_lower h1 (Nat.zero_le _)) hn)
  have B1 := hide b1
  have H1 := hide h1
  clear J h1 b1
  go_wp2_with fail
  refine K.out.mono ?_
  rintro e w2 ⟨rfl, h2, b2⟩
  have L := hide (compact_nums h2 (by rw [srt_len]; exact hn))
  have B2 := hide b2
  clear K h2 b2
  go_wp2_with fail
  refine L.out.mono ?_
  rintro e w3 ⟨v3, rfl, h3, e3, b3⟩
  obtain ⟨a3, c3, rfl⟩ := own_len h3
  have B3 := hide b3
  have H3 := hide h3
  have E3 := hide e3
  clear L h3 b3 e3
  go_wp2_with fail
  go_ret
  have hob : ∀ k, (Value.slice a1 l.length c1).ownBlock = some k → w.heap.size ≤ k := fun k hk => (H1.out.lt k hk).1
  have hB : Below w.heap.size w w3 := by
    refine (B1.out.grown B2.out B1.out.size (fun k hk => ?_)).grown B3.out (Nat.le_trans B1.out.size B2.out.size) (fun k hk => ?_)
    · exact hob k hk
    · exact hob k hk
  refine ⟨_, rfl, ⟨H3.out.1, ?_⟩, hB⟩
  rcases H3.out.2 with h0 | ⟨g, cap, cur, q1, q2, q3⟩
  · exact .inl h0
  · refine .inr ⟨g, cap, cur, q1, ?_, q3⟩
    refine hob g ?_
    rw [← E3.out, q1]
    rfl
end Go.Proofs.Ythgjdmomcpcolaa
