import Derived.Test.YtklamaibinjcmaaDoorProg
import Derived.WalkKit
import Derived.WalkSpells
import Derived.WalkLawsBesides
import Derived.Laws.CopyOwn
import Derived.Laws.AppendOwnNone
import Derived.Maps.AppendAt
import Derived.Laws.OwnMore
import Derived.Below
import Derived.RowKit
import Derived.Deep.DeepCutAuto
import Derived.Deep.RegionWith
import Derived.Deep.RegionLaw
import Derived.Deep.RegionHeld3
import Derived.Deep.QuietTactic
import Derived.Deep.CutBlock
import Derived.Deep.AppendLies
import Derived.BigQuiet
import Derived.BigRegion
import Derived.OrdersHeld
import Derived.Recover
import Derived.Laws.ResultCell
/-
  What changes, and what stays: what all texts of this seat share.
-/
namespace Go.Proofs.YtklamaibinjcmaaDoor
open Go.RowKit
set_option maxRecDepth 100000
theorem hide {p : Prop} (h : p) : Hid p := h
theorem ret_int {k : IntKind} {a b : Int} (h : a = b) : Ending.returned (.int k a) = .returned (.int k b) := by rw [h]
theorem val_int {k : IntKind} {a b : Int} (h : a = b) : Value.int k a = .int k b := by rw [h]


/-! ### What changes -/
theorem grown_later {w w' : World} (h : Below w.heap.size w w') : w.grownBy w' none := ⟨h.os, h.tape, h.output, h.size, fun k hk _ => h.block k hk⟩
theorem grown_set (w : World) (g k : Nat) (u : Value) : w.grownBy (w.setCell ⟨g, k, none⟩ u) (some g) :=
  ⟨rfl, rfl, rfl, by simp, fun q _ hq => heap_setCell_other w ⟨g, k, none⟩ q u (fun e => hq (by rw [e]))⟩
theorem lt_of_block {w : World} {g : Nat} {o : Obj} (h : w.heap[g]? = some o) : g < w.heap.size := (Array.getElem?_eq_some_iff.1 h).1
theorem below_drawn (w : World) : ∀ n, Below w.heap.size w (w.drewN n)
  | 0 => Below.refl _ _
  | n + 1 => by
    have := below_drawn w n
    simpa using this.drew
theorem below_drew (w : World) : Below w.heap.size w w.drew := (Below.refl _ w).drew
theorem below_alloc (w : World) (o : Obj) : Below w.heap.size w (w.alloc o) := (Below.refl _ w).alloc (Nat.le_refl _) o
theorem below_on {w0 w w' : World} (h : Below w0.heap.size w0 w) (k : Below w.heap.size w w') : Below w0.heap.size w0 w' := h.trans (k.mono h.size)
/-- But for some blocks all that was there is as it was. -/
def Mv (w w' : World) (S : Nat → Prop) : Prop := w'.os = w.os ∧ w'.tape = w.tape ∧ w'.output = w.output ∧ w.heap.size ≤ w'.heap.size ∧ ∀ k, k < w.heap.size → ¬ S k → w'.heap[k]? = w.heap[k]?
section
variable {w w' w2 : World} {S S' : Nat → Prop}
theorem Mv.refl (w : World) (S : Nat → Prop) : Mv w w S := ⟨rfl, rfl, rfl, Nat.le_refl _, fun _ _ _ => rfl⟩
theorem Mv.size (h : Mv w w' S) : w.heap.size ≤ w'.heap.size := h.2.2.2.1
theorem Mv.trans (h : Mv w w' S) (k : Mv w' w2 S') (hs : ∀ k, k < w.heap.size → S' k → S k) : Mv w w2 S :=
  ⟨k.1.trans h.1, k.2.1.trans h.2.1, k.2.2.1.trans h.2.2.1, Nat.le_trans h.2.2.2.1 k.2.2.2.1, fun q hq hn => (k.2.2.2.2 q (Nat.lt_of_lt_of_le hq h.2.2.2.1) (fun e => hn (hs q hq e))).trans (h.2.2.2.2 q hq hn)⟩
theorem Mv.grown {row : Option Nat} (h : Mv w w' S) (hg : w'.grownBy w2 row) (hr : ∀ k, k < w.heap.size → row = some k → S k) : Mv w w2 S :=
  ⟨hg.1.trans h.1, hg.2.trans h.2.1, hg.3.trans h.2.2.1, Nat.le_trans h.2.2.2.1 hg.size, fun k hk h1 => (hg.block k (Nat.lt_of_lt_of_le hk h.2.2.2.1) (fun e => h1 (hr k hk e.symm))).trans (h.2.2.2.2 k hk h1)⟩
theorem Mv.alloc (h : Mv w w' S) (o : Obj) : Mv w (w'.alloc o) S := h.grown (World.grownBy_alloc w' o none) (fun _ _ e => by cases e)
theorem Mv.set (h : Mv w w' S) {g : Nat} (hg : S g) (k : Nat) (u : Value) : Mv w (w'.setCell ⟨g, k, none⟩ u) S := h.grown (grown_set w' g k u) (fun q _ e => by cases e; exact hg)
theorem Mv.later (h : Mv w w' S) (hb : Below w'.heap.size w' w2) : Mv w w2 S := h.grown (grown_later hb) (fun _ _ e => by cases e)
theorem Mv.mono (h : Mv w w' S) (hs : ∀ k, k < w.heap.size → S k → S' k) : Mv w w' S' := ⟨h.1, h.2.1, h.2.2.1, h.2.2.2.1, fun k hk hn => h.2.2.2.2 k hk (fun e => hn (hs k hk e))⟩
theorem Mv.of_below (h : Below w.heap.size w w') (S : Nat → Prop) : Mv w w' S := (Mv.refl w S).later h
theorem Mv.own {v : Value} {B e s n : Nat} {xs : List Value} (h : Mv w w' S) (hv : w.ownsRow B e s v n xs) (h1 : ∀ k, v.ownBlock = some k → ¬ S k) : w'.ownsRow B e s v n xs := by
  refine ⟨hv.1, ?_⟩
  rcases hv.2 with h0 | ⟨g, cap, cur, rfl, hb, hg, hr⟩
  · exact .inl h0
  · exact .inr ⟨g, cap, cur, rfl, hb, (h.2.2.2.2 g (Array.getElem?_eq_some_iff.1 hg).1 (h1 g rfl)).trans hg, hr⟩
theorem Mv.at {g : Nat} {o : Obj} (h : Mv w w' S) (hg : w.heap[g]? = some o) (h1 : ¬ S g) : w'.heap[g]? = some o := (h.2.2.2.2 g (Array.getElem?_eq_some_iff.1 hg).1 h1).trans hg
theorem Mv.cell {a : Addr} {x : Value} (h : Mv w w' S) (hc : w.cell? a = some x) (h1 : ¬ S a.block) : w'.cell? a = some x :=
  (World.cell?_of_block (h.2.2.2.2 a.block (World.block_lt_of_cell? w a hc) h1)).trans hc
theorem Mv.below {B : Nat} (h : Mv w w' S) (hB : B ≤ w.heap.size) (hs : ∀ k, S k → B ≤ k) : Below B w w' :=
  ⟨h.1, h.2.1, h.2.2.1, h.2.2.2.1, fun k hk => h.2.2.2.2 k (Nat.lt_of_lt_of_le hk hB) (fun e => by have := hs k e; omega)⟩
end
/-- The blocks of S, and those that are new since w. -/
def Nw (w : World) (S : Nat → Prop) : Nat → Prop := fun k => S k ∨ w.heap.size ≤ k
theorem Nw.old {w : World} {S : Nat → Prop} {k : Nat} (h : S k) : Nw w S k := .inl h
theorem Nw.twice {w w' : World} {S : Nat → Prop} (h : w.heap.size ≤ w'.heap.size) : ∀ k, Nw w' (Nw w S) k → Nw w S k := fun k e => by
  rcases e with e | e
  · exact e
  · exact .inr (Nat.le_trans h e)
theorem Mv.step {w w' w2 : World} {S : Nat → Prop} (h : Mv w w' S) (k : Mv w' w2 (Nw w S)) : Mv w w2 S := h.trans k (fun q hq e => by
  rcases e with e | e
  · exact e
  · omega)
def In (S : Nat → Prop) (v : Value) : Prop := ∀ k, v.ownBlock = some k → S k
theorem In.mono {S S' : Nat → Prop} {v : Value} (h : In S v) (hs : ∀ k, S k → S' k) : In S' v := fun k e => hs k (h k e)
theorem In.nil (S : Nat → Prop) : In S (.slice none 0 0) := fun k e => by simp [Value.ownBlock] at e
/-- Two values that lie in no block together. -/
def Ap (u v : Value) : Prop := ∀ g, u.ownBlock = some g → v.ownBlock = some g → False
theorem Ap.symm {u v : Value} (h : Ap u v) : Ap v u := fun g h1 h2 => h g h2 h1
theorem own_len {w : World} {B e s n : Nat} {v : Value} {xs : List Value} (h : w.ownsRow B e s v n xs) : ∃ ao c, v = .slice ao n c := by
  rcases h.2 with ⟨rfl, rfl⟩ | ⟨g, cap, cur, rfl, _⟩
  · exact ⟨_, _, rfl⟩
  · exact ⟨_, _, rfl⟩
theorem own_cap {w : World} {B e s n c : Nat} {ao : Option Addr} {xs : List Value} (h : w.ownsRow B e s (.slice ao n c) n xs) : n ≤ c ∧ c ≤ 9223372036854775807 := by
  rcases h.2 with ⟨e, h0⟩ | ⟨g, c', cur, e, _, _, h1, h2, _⟩
  · simp only [Value.slice.injEq] at e
    obtain ⟨_, _, rfl⟩ := e
    exact ⟨by omega, by omega⟩
  · simp only [Value.slice.injEq] at e
    obtain ⟨_, _, rfl⟩ := e
    unfold maxLen at h2
    exact ⟨h1, by omega⟩
theorem own_form {w : World} {B e s n : Nat} {v : Value} {xs : List Value} (h : w.ownsRow B e s v n xs) (h0 : 0 < n) : ∃ g c, v = .slice (some ⟨g, 0, none⟩) n c ∧ n ≤ c ∧ c ≤ 9223372036854775807 := by
  rcases h.2 with ⟨_, h'⟩ | ⟨g, c, cur, rfl, _, _, h1, h2, _⟩
  · omega
  · exact ⟨g, c, rfl, h1, by unfold maxLen at h2; omega⟩
theorem own_lower {w : World} {B B' e s n : Nat} {v : Value} {xs : List Value} (h : w.ownsRow B e s v n xs) (hB : B' ≤ B) : w.ownsRow B' e s v n xs := by
  refine ⟨h.1, ?_⟩
  rcases h.2 with h0 | ⟨g, cap, cur, h1, h2, h3⟩
  · exact .inl h0
  · exact .inr ⟨g, cap, cur, h1, Nat.le_trans hB h2, h3⟩
theorem own_later {w w' : World} {B e s n : Nat} {v : Value} {xs : List Value} (h : w.ownsRow B e s v n xs) (hb : Below w.heap.size w w') : w'.ownsRow B e s v n xs :=
  h.kept (grown_later hb) (by cases v.ownBlock <;> simp)
theorem own_set {w : World} {B e s n g k : Nat} {v u : Value} {xs : List Value} (h : w.ownsRow B e s v n xs) (hne : v.ownBlock ≠ some g) : (w.setCell ⟨g, k, none⟩ u).ownsRow B e s v n xs :=
  h.kept (grown_set w g k u) (.inr hne)
theorem own_kept {w w' : World} {B e s n : Nat} {v : Value} {xs : List Value} {row : Option Nat} (h : w.ownsRow B e s v n xs) (hg : w.grownBy w' row) (hne : ∀ k, v.ownBlock = some k → row ≠ some k) : w'.ownsRow B e s v n xs :=
  h.kept hg (by
    cases hv : v.ownBlock with
    | none => exact .inl rfl
    | some k => exact .inr (fun e => hne k hv e.symm))

end Go.Proofs.YtklamaibinjcmaaDoor

/-
  The table of instructions, and programs, as plain values.
-/
namespace Go.Proofs.YtklamaibinjcmaaDoor
open Go.RowKit
set_option maxRecDepth 100000
def words : List (List UInt8) := [[], [112, 117, 115, 104], [108, 111, 97, 100], [115, 116, 111, 114, 101], [102, 105, 101, 108, 100], [112, 117, 116], [97, 100, 100], [115, 117, 98], [109, 117, 108], [100, 105, 118], [114, 101, 109], [110, 101, 103], [101, 113], [110, 101], [108, 116], [108, 101], [103, 116], [103, 101], [110, 111, 116], [106, 117, 109, 112], [122, 101, 114, 111], [99, 97, 108, 108], [114, 101, 116], [115, 116, 111, 112], [115, 116, 101, 112], [101, 109, 105, 116], [112, 97, 114, 116], [115, 112, 97, 119, 110], [103, 105, 118, 101], [116, 97, 107, 101], [100, 105, 101], [114, 97, 110, 100], [116, 105, 99, 107], [109, 101], [105, 110, 112, 117, 116], [104, 97, 115], [109, 105, 110], [109, 97, 120], [97, 98, 115], [100, 114, 111, 112]]
def nums : List Bool := [false, true, true, true, true, true, false, false, false, false, false, false, false, false, false, false, false, false, false, true, true, true, false, false, false, false, true, false, true, true, false, false, false, false, false, true, false, false, false, false]
def taks : List Nat := [0, 0, 0, 1, 0, 1, 2, 2, 2, 2, 2, 1, 2, 2, 2, 2, 2, 2, 1, 0, 1, 0, 1, 0, 0, 2, 0, 0, 0, 0, 0, 1, 0, 0, 2, 0, 2, 2, 1, 1]
def putl : List Nat := [0, 1, 1, 0, 1, 0, 1, 1, 1, 1, 1, 1, 1, 1, 1, 1, 1, 1, 1, 0, 0, 1, 0, 0, 0, 0, 0, 0, 0, 0, 0, 1, 1, 1, 1, 1, 1, 1, 1, 0]
def wdL (k : Nat) : List UInt8 := words.getD k []
def wd (k : Nat) : ByteArray := ⟨(wdL k).toArray⟩
def numb (k : Nat) : Bool := nums.getD k false
def tak (k : Nat) : Nat := taks.getD k 0
def pts (k : Nat) : Nat := putl.getD k 0
/-- The row of an op; 0, if it is none. -/
def opk (op : Int) : Nat := if 1 ≤ op ∧ op ≤ 39 then op.toNat else 0
theorem opk_lt (op : Int) : opk op < 40 := by unfold opk; split <;> omega
theorem opk_in {op : Int} (h : 1 ≤ op ∧ op ≤ 39) : opk op = op.toNat := by unfold opk; rw [if_pos h]
theorem opk_out {op : Int} (h : ¬ (1 ≤ op ∧ op ≤ 39)) : opk op = 0 := by unfold opk; rw [if_neg h]
/-- An instruction, a routine, a system, a program. -/
structure Ins where
  op : Int
  a : Int
structure Rt where
  name : ByteArray
  pa : Int
  lo : Int
  code : List Ins
structure Sy where
  wi : List Int
  wo : List Int
  re : List Int
  wr : List Int
  run : Rt
structure Pg where
  sys : List Sy
  fns : List Rt
def isIns (i : Ins) : Bool := decide (1 ≤ i.op ∧ i.op ≤ 39) && (i.a == 0 || numb (opk i.op))
def rtOk (r : Rt) : Bool := decide (1 ≤ r.name.size ∧ r.name.size ≤ 16) && decide (0 ≤ r.pa ∧ r.pa ≤ 4) && decide (r.pa ≤ r.lo ∧ r.lo ≤ 32) && decide (r.code.length ≤ 2000) && r.code.all isIns
def seen (b : UInt8) : Bool := decide (33 ≤ b.toNat ∧ b.toNat ≤ 126)
def lstOk (r : Rt) : Bool := rtOk r && r.name.data.toList.all seen
/-- A set of kinds, behind a last one. -/
def setFrom : Int → List Int → Bool
  | _, [] => true
  | last, k :: l => decide (last < k ∧ k ≤ 12) && setFrom k l
def setOk (l : List Int) : Bool := setFrom 0 l
def sysOk (s : Sy) : Bool := setOk s.wi && setOk s.wo && setOk s.re && setOk s.wr && rtOk s.run
def sizeOf (p : Pg) : Nat := (p.sys.map fun s => s.run.code.length).sum + (p.fns.map fun r => r.code.length).sum
def mayOk (p : Pg) : Bool := decide (p.sys.length ≤ 16 ∧ p.fns.length ≤ 16) && p.sys.all sysOk && p.fns.all rtOk && decide (sizeOf p ≤ 2000)
end Go.Proofs.YtklamaibinjcmaaDoor

/-
  The table in memory; isOp, rowOf.
-/
namespace Go.Proofs.YtklamaibinjcmaaDoor
open Go.RowKit
set_option maxRecDepth 100000
/-- The table of the code lies at its place. -/
def Tb (W : World) : Prop := ∀ k, k < 40 → W.cell? ⟨0, k * 4, none⟩ = some (.string (wd k)) ∧ W.cell? ⟨0, k * 4 + 1, none⟩ = some (.bool (numb k)) ∧ W.cell? ⟨0, k * 4 + 2, none⟩ = some (.int .i64 (tak k : Int)) ∧ W.cell? ⟨0, k * 4 + 3, none⟩ = some (.int .i64 (pts k : Int))
def rowV (k : Nat) : Value := .agg #[.string (wd k), .bool (numb k), .int .i64 (tak k : Int), .int .i64 (pts k : Int)]
theorem Tb.mv {W W' : World} {S : Nat → Prop} (h : Tb W) (hm : Mv W W' S) (h0 : ¬ S 0) : Tb W' := fun k hk => by
  obtain ⟨a, b, c, d⟩ := h k hk
  exact ⟨hm.cell a h0, hm.cell b h0, hm.cell c h0, hm.cell d h0⟩
theorem Tb.pos {W : World} (h : Tb W) : 0 < W.heap.size := World.block_lt_of_cell? W _ (h 0 (by omega)).1
theorem Tb.later {W W' : World} (h : Tb W) (hb : Below W.heap.size W W') : Tb W' := h.mv (Mv.of_below hb (fun _ => False)) (fun e => e)
theorem ret_bool {a b : Bool} (h : a = b) : Ending.returned (.bool a) = .returned (.bool b) := by rw [h]
theorem isop_any (op : Int) (w : World) : Calls Tryd.prog 59 #[.int .i64 op] w fun e w' => e = .returned (.bool (decide (1 ≤ op ∧ op ≤ 39))) ∧ w' = w := by
  by_cases h : 1 ≤ op
  · go_enter Tryd.func59, Tryd.ntmps59
    go_wp2_with fail
    go_ret
    exact ⟨ret_bool (by simp [h]), rfl⟩
  · go_enter Tryd.func59, Tryd.ntmps59
    go_wp2_with fail
    go_ret
    exact ⟨ret_bool (by simp; omega), rfl⟩
theorem undRow : (Tryd.prog.underlying 91).map (fun d => match d with | .struct _ | .array _ _ => true | _ => false) = some true := by kernel_rfl
theorem res_row {fn : Func} {p : Tmp} (hr : fn.results = #[.cell p 91]) {tmps : Array Value} {W : World} {g k : Nat} (hp : tmps.getD p undef = .pointer (some ⟨g, 0, none⟩)) (hg : W.heap[g]? = some (.cells #[.string (wd k), .bool (numb k), .int .i64 (tak k : Int), .int .i64 (pts k : Int)] 91 (0, 0))) : (results fn tmps).run Tryd.prog W = .ok (rowV k) W := by
  obtain ⟨d, hu, hd⟩ := Option.map_eq_some_iff.1 undRow
  exact results_cell_row hr tmps W g 91 _ (0, 0) d hp hg hu (by cases d <;> first | rfl | cases hd) (by kernel_rfl)
theorem row_any (op : Int) (w : World) (ht : Tb w) : Calls Tryd.prog 36 #[.int .i64 op] w fun e w' => e = .returned (rowV (opk op)) ∧ Below w.heap.size w w' := by
  by_cases h : 1 ≤ op ∧ op ≤ 39
  · rw [opk_in h]
    obtain ⟨a, b, c, d⟩ := ht op.toNat (by omega)
    have t1 : decide (1 ≤ op ∧ op ≤ 39) = true := by simp [h]
    have i1 := fun w => isop_any op w
    rw [t1] at i1
    have hp := ht.pos
    go_enter Tryd.func36, Tryd.ntmps36
    go_wp2_with (go_at_call 59; refine (i1 _).mono ?_; rintro e w' ⟨rfl, rfl⟩)
    have hb : (w.alloc (.cells #[.string (wd op.toNat), .bool (numb op.toNat), .int .i64 (tak op.toNat : Int), .int .i64 (pts op.toNat : Int)] 91)).heap[w.heap.size]? = some (.cells #[.string (wd op.toNat), .bool (numb op.toNat), .int .i64 (tak op.toNat : Int), .int .i64 (pts op.toNat : Int)] 91 (0, 0)) := heap_alloc_new w _
    refine bodyPost_ret (v := rowV op.toNat) (res_row rfl rfl hb) rfl ⟨rfl, below_alloc w _⟩
  · rw [opk_out h]
    have t1 : decide (1 ≤ op ∧ op ≤ 39) = false := by simp; omega
    have i1 := fun w => isop_any op w
    rw [t1] at i1
    go_enter Tryd.func36, Tryd.ntmps36
    go_wp2_with (go_at_call 59; refine (i1 _).mono ?_; rintro e w' ⟨rfl, rfl⟩)
    have hb : (w.alloc (.cells #[.string ⟨#[]⟩, .bool false, .int .i64 0, .int .i64 0] 91)).heap[w.heap.size]? = some (.cells #[.string (wd 0), .bool (numb 0), .int .i64 (tak 0 : Int), .int .i64 (pts 0 : Int)] 91 (0, 0)) := heap_alloc_new w _
    refine bodyPost_ret (v := rowV 0) (res_row rfl rfl hb) rfl ⟨rfl, below_alloc w _⟩
theorem fldR0 (k : Nat) (w : World) : (Instr.field 91 (.agg #[.string (wd k), .bool (numb k), .int .i64 (tak k : Int), .int .i64 (pts k : Int)]) 0).run Tryd.prog w = .ok (.string (wd k)) w := by kernel_rfl
theorem fldR1 (k : Nat) (w : World) : (Instr.field 91 (.agg #[.string (wd k), .bool (numb k), .int .i64 (tak k : Int), .int .i64 (pts k : Int)]) 1).run Tryd.prog w = .ok (.bool (numb k)) w := by kernel_rfl
theorem values_any (a : Int) (w : World) : Calls Tryd.prog 38 #[.int .i64 a] w fun e w' => e = .returned (.int .i64 (if a < 0 then 0 else a % 8)) ∧ w' = w := by
  by_cases h : a < 0
  · rw [if_pos h]
    go_enter Tryd.func38, Tryd.ntmps38
    go_wp2_with fail
    go_ret
    exact ⟨rfl, rfl⟩
  · rw [if_neg h]
    have h0 : 0 ≤ a := by omega
    go_enter Tryd.func38, Tryd.ntmps38
    go_wp2_with fail
    go_ret
    exact ⟨ret_int (by simp <;> omega), rfl⟩
end Go.Proofs.YtklamaibinjcmaaDoor

/-
  Number, paramsOf, Effect.
-/
namespace Go.Proofs.YtklamaibinjcmaaDoor
open Go.RowKit
set_option maxRecDepth 100000
/-- The op of a word; 0, if there is none. -/
def isWd (s : ByteArray) (k : Nat) : Bool := decide (1 ≤ k) && decide (wd k = s)
def numOf (s : ByteArray) : Nat := ((List.range 40).find? (isWd s)).getD 0
theorem numOf_at {s : ByteArray} {k : Nat} (h1 : 1 ≤ k) (h2 : k < 40) (h3 : wd k = s) (h4 : ∀ j, 1 ≤ j → j < k → wd j ≠ s) : numOf s = k := by
  have : (List.range 40).find? (isWd s) = some k := by
    rw [List.find?_range_eq_some]
    refine ⟨by simp [isWd, h1, h3], by simpa using h2, fun j hj => ?_⟩
    by_cases h : 1 ≤ j
    · simp [isWd, h4 j h hj]
    · simp [isWd]; omega
  unfold numOf
  rw [this]; rfl
theorem numOf_no {s : ByteArray} (h : ∀ j, 1 ≤ j → j < 40 → wd j ≠ s) : numOf s = 0 := by
  have : (List.range 40).find? (isWd s) = none := by
    rw [List.find?_range_eq_none]
    intro j hj
    by_cases h1 : 1 ≤ j
    · simp [isWd, h j h1 hj]
    · simp [isWd]; omega
  unfold numOf
  rw [this]; rfl
theorem numOf_lt (s : ByteArray) : numOf s < 40 := by
  unfold numOf
  cases h : (List.range 40).find? (isWd s) with
  | none => simp
  | some k =>
    rw [List.find?_range_eq_some] at h
    simpa using h.2.1
theorem beq_list (a b : ByteArray) : (a.toList == b.toList) = decide (a = b) := by
  have h : a.toList = b.toList ↔ a = b := by
    constructor
    · intro h
      rw [ByteArray.toList_eq, ByteArray.toList_eq] at h
      exact ByteArray.ext (Array.toList_inj.1 h)
    · rintro rfl; rfl
  rw [Bool.eq_iff_iff, beq_iff_eq, decide_eq_true_eq]
  exact h
end Go.Proofs.YtklamaibinjcmaaDoor

/-
  Instructions and routines in memory; paramsOf, Effect.
-/
namespace Go.Proofs.YtklamaibinjcmaaDoor
open Go.RowKit
set_option maxRecDepth 100000
def I6 (x : Int) : Prop := -9223372036854775808 ≤ x ∧ x ≤ 9223372036854775807
/-- Instructions as they are read, in blocks of Q. -/
def Il (Q : Nat → Prop) (W : World) (v : Value) (l : List Ins) : Prop :=
  ∃ ao c, v = .slice ao l.length c ∧ l.length ≤ c ∧ c ≤ maxLen ∧ (0 < l.length → ∃ g o, ao = some ⟨g, o, none⟩ ∧ Q g ∧ ∀ i (h : i < l.length), I6 l[i].op ∧ I6 l[i].a ∧ W.cell? ⟨g, o + i * 2, none⟩ = some (.int .i64 l[i].op) ∧ W.cell? ⟨g, o + i * 2 + 1, none⟩ = some (.int .i64 l[i].a))
def Rts (Q : Nat → Prop) (W : World) (v : Value) (l : List Rt) : Prop :=
  ∃ ao c, v = .slice ao l.length c ∧ l.length ≤ c ∧ c ≤ maxLen ∧ (0 < l.length → ∃ g o, ao = some ⟨g, o, none⟩ ∧ Q g ∧ ∀ i (h : i < l.length), I6 l[i].pa ∧ I6 l[i].lo ∧ ∃ vc, W.cell? ⟨g, o + i * 4, none⟩ = some (.string l[i].name) ∧ W.cell? ⟨g, o + i * 4 + 1, none⟩ = some (.int .i64 l[i].pa) ∧ W.cell? ⟨g, o + i * 4 + 2, none⟩ = some (.int .i64 l[i].lo) ∧ W.cell? ⟨g, o + i * 4 + 3, none⟩ = some vc ∧ Il Q W vc l[i].code)
section
variable {W W' : World} {S Q : Nat → Prop} {v : Value}
theorem Il.mv {l : List Ins} (h : Il Q W v l) (hm : Mv W W' S) (hs : ∀ j, Q j → ¬ S j) : Il Q W' v l := by
  obtain ⟨ao, c, h1, h2, h3, h4⟩ := h
  refine ⟨ao, c, h1, h2, h3, fun h0 => ?_⟩
  obtain ⟨g, o, h5, h6, h7⟩ := h4 h0
  refine ⟨g, o, h5, h6, fun i hi => ?_⟩
  obtain ⟨a, b, c, d⟩ := h7 i hi
  exact ⟨a, b, hm.cell c (hs g h6), hm.cell d (hs g h6)⟩
theorem Il.later {l : List Ins} (h : Il Q W v l) (hb : Below W.heap.size W W') : Il Q W' v l := h.mv (Mv.of_below hb (fun _ => False)) (fun _ _ e => e)
theorem Il.mono {Q' : Nat → Prop} {l : List Ins} (h : Il Q W v l) (hq : ∀ j, Q j → Q' j) : Il Q' W v l := by
  obtain ⟨ao, c, h1, h2, h3, h4⟩ := h
  refine ⟨ao, c, h1, h2, h3, fun h0 => ?_⟩
  obtain ⟨g, o, h5, h6, h7⟩ := h4 h0
  exact ⟨g, o, h5, hq g h6, h7⟩
theorem Rts.mv {l : List Rt} (h : Rts Q W v l) (hm : Mv W W' S) (hs : ∀ j, Q j → ¬ S j) : Rts Q W' v l := by
  obtain ⟨ao, c, h1, h2, h3, h4⟩ := h
  refine ⟨ao, c, h1, h2, h3, fun h0 => ?_⟩
  obtain ⟨g, o, h5, h6, h7⟩ := h4 h0
  refine ⟨g, o, h5, h6, fun i hi => ?_⟩
  obtain ⟨a, b, vc, c, d, e, f, k⟩ := h7 i hi
  exact ⟨a, b, vc, hm.cell c (hs g h6), hm.cell d (hs g h6), hm.cell e (hs g h6), hm.cell f (hs g h6), k.mv hm hs⟩
theorem Rts.later {l : List Rt} (h : Rts Q W v l) (hb : Below W.heap.size W W') : Rts Q W' v l := h.mv (Mv.of_below hb (fun _ => False)) (fun _ _ e => e)
end
/-- What a call takes. -/
def parE (fs : List Rt) (a : Int) : Int := if 0 ≤ a ∧ a < fs.length then max ((fs.map Rt.pa).getD a.toNat 0) 0 else 0
def takE (fs : List Rt) (i : Ins) : Int := if i.op = 21 then parE fs i.a else if i.op = 26 ∨ i.op = 28 then (if i.a < 0 then 0 else i.a % 8) else tak (opk i.op)
def putE (i : Ins) : Int := pts (opk i.op)

theorem params_any {Q : Nat → Prop} {W : World} {v : Value} {fs : List Rt} (h : Rts Q W v fs) (a : Int) : Calls Tryd.prog 37 #[.int .i64 a, v] W fun e w' => e = .returned (.int .i64 (parE fs a)) ∧ w' = W := by
  obtain ⟨ao, c, rfl, h2, h3, h4⟩ := h
  unfold maxLen at h3
  unfold parE
  by_cases ha : a < 0
  · rw [if_neg (by omega)]
    clear h4
    go_enter Tryd.func37, Tryd.ntmps37
    go_wp2_with fail
    go_ret
    exact ⟨rfl, rfl⟩
  · by_cases hb : a < fs.length
    · rw [if_pos ⟨by omega, hb⟩]
      obtain ⟨g, o, rfl, -, h5⟩ := h4 (by omega)
      obtain ⟨-, -, vc, -, c1, -⟩ := h5 a.toNat (by omega)
      have e1 : (fs.map Rt.pa).getD a.toNat 0 = (fs[a.toNat]'(by omega)).pa := by
        rw [List.getD_eq_getElem?_getD, List.getElem?_map, List.getElem?_eq_getElem (by omega)]; rfl
      rw [e1]
      clear h4 h5 e1
      generalize (fs[a.toNat]'(by omega)).pa = x at *
      generalize fs.length = n at *
      have h1 : (0 : Int) ≤ a := by omega
      go_enter Tryd.func37, Tryd.ntmps37
      go_wp2_with fail
      all_goals go_ret
      all_goals exact ⟨ret_int (by omega), rfl⟩
    · rw [if_neg (by omega)]
      clear h4
      go_enter Tryd.func37, Tryd.ntmps37
      go_wp2_with fail
      go_ret
      exact ⟨rfl, rfl⟩
theorem ret_ints {k k' : IntKind} {a b a' b' : Int} (h : a = a') (h' : b = b') : Ending.returned (.tuple #[.int k a, .int k' b]) = .returned (.tuple #[.int k a', .int k' b']) := by rw [h, h']
def insV (i : Ins) : Value := .agg #[.int .i64 i.op, .int .i64 i.a]
theorem Rts.drewN {W : World} {Q : Nat → Prop} {v : Value} {l : List Rt} (h : Rts Q W v l) (n : Nat) : Rts Q (W.drewN n) v l := h.later (below_drawn W n)
set_option maxHeartbeats 1000000 in
theorem effect_any {Q : Nat → Prop} {W : World} {v : Value} {fs : List Rt} (h : Rts Q W v fs) (ht : Tb W) (i : Ins) : Calls Tryd.prog 18 #[insV i, v] W fun e w' => e = .returned (.tuple #[.int .i64 (takE fs i), .int .i64 (putE i)]) ∧ Below W.heap.size W w' := by
  obtain ⟨op, a⟩ := i
  obtain ⟨w0, hw0⟩ : ∃ X, X = W.alloc (.cells #[.int .i64 op, .int .i64 a] 47) := ⟨_, rfl⟩
  have B0 : Below W.heap.size W w0 := hw0 ▸ below_alloc W _
  have J1 := hide (row_any op w0 (ht.later B0))
  have n1 : w0.heap[W.heap.size]? = some (.cells #[.int .i64 op, .int .i64 a] 47 (0, 0)) := by rw [hw0]; exact heap_alloc_new W _
  have HW := hide hw0
  have N1 := hide n1
  have HB := hide B0
  have H := hide h
  clear hw0 n1 B0 h ht
  obtain ⟨te, hte⟩ : ∃ t, t = takE fs ⟨op, a⟩ := ⟨_, rfl⟩
  rw [← hte]
  have TE := hide hte
  clear hte
  unfold takE at TE
  unfold putE insV
  dsimp only at TE ⊢
  generalize hk : opk op = k at *
  clear hk
  obtain ⟨B, hB⟩ : ∃ B, B = W.heap.size := ⟨_, rfl⟩
  have EB := hide hB
  rw [← hB] at N1
  have c0 : w0.cell? ⟨B, 0, none⟩ = some (.int .i64 op) := by rw [cell_of_row w0 _ _ _ 47 (0, 0) N1.out]; rfl
  go_enter Tryd.func18, Tryd.ntmps18
  go_upto_region 1 with fail
  rw [← HW.out, ← EB.out]
  clear hB
  go_wp2_with fail
  refine J1.out.mono ?_
  rintro e w1 ⟨rfl, hb1⟩
  have n2 : w1.heap[B]? = some (.cells #[.int .i64 op, .int .i64 a] 47 (0, 0)) := (hb1.block _ (lt_of_block N1.out)).trans N1.out
  unfold rowV
  obtain ⟨w2, hw2⟩ : ∃ X, X = w1.alloc (.cells #[.string (wd k), .bool (numb k), .int .i64 (tak k : Int), .int .i64 (pts k : Int)] 91) := ⟨_, rfl⟩
  obtain ⟨r, hr⟩ : ∃ r, r = w1.heap.size := ⟨_, rfl⟩
  have B2 : Below w1.heap.size w1 w2 := hw2 ▸ below_alloc w1 _
  have n3 : w2.heap[r]? = some (.cells #[.string (wd k), .bool (numb k), .int .i64 (tak k : Int), .int .i64 (pts k : Int)] 91 (0, 0)) := by rw [hw2, hr]; exact heap_alloc_new w1 _
  have n4 := (B2.block _ (lt_of_block n2)).trans n2
  have y0 : w2.cell? ⟨B, 0, none⟩ = some (.int .i64 op) := by rw [cell_of_row w2 _ _ _ 47 (0, 0) n4]; rfl
  have y1 : w2.cell? ⟨B, 1, none⟩ = some (.int .i64 a) := by rw [cell_of_row w2 _ _ _ 47 (0, 0) n4]; rfl
  have y2 : w2.cell? ⟨r, 2, none⟩ = some (.int .i64 (tak k : Int)) := by rw [cell_of_row w2 _ _ _ 91 (0, 0) n3]; rfl
  have y3 : w2.cell? ⟨r, 3, none⟩ = some (.int .i64 (pts k : Int)) := by rw [cell_of_row w2 _ _ _ 91 (0, 0) n3]; rfl
  have HF := hide (below_on HB.out (below_on hb1 B2))
  have H2 := hide (H.out.later (below_on HB.out (below_on hb1 B2)))
  have K1 := hide (fun n => params_any (H2.out.drewN n) a)
  have K2 := hide (fun n => values_any a (w2.drewN n))
  have HW2 := hide hw2
  have HR := hide hr
  clear hb1 n2 n3 n4 c0 J1 B2 N1
  go_upto_region 2 with fail
  rw [← hw2, ← hr]
  clear hw2 hr
  by_cases h21 : op = 21
  · subst h21
    go_upto_region 4 with fail
    go_quiet (exact Calls.quiet_of_same (K1.out _))
    obtain rfl : te = parE fs a := by rw [TE.out]; simp
    go_wp2_with fail
    go_ret2
    exact ⟨rfl, HF.out.trans ((below_drawn w2 nq).mono HF.out.size)⟩
  · have t21 : (op == 21) = false := by simp [h21]
    by_cases h26 : op = 26
    · subst h26
      go_upto_region 7 with fail
      go_quiet (exact Calls.quiet_of_same (K2.out _))
      have E : Hid (te = if a < 0 then 0 else a % 8) := by unfold Hid; rw [TE.out]; simp
      clear K1 K2
      go_wp2_with fail
      all_goals go_ret2
      · exact ⟨ret_ints (by rw [E.out, if_pos (by assumption)]) rfl, HF.out.trans ((below_drawn w2 nq).mono HF.out.size)⟩
      · exact ⟨ret_ints (by rw [E.out, if_neg (by omega)]) rfl, HF.out.trans ((below_drawn w2 nq).mono HF.out.size)⟩
    · have t26 : (op == 26) = false := by simp [h26]
      by_cases h28 : op = 28
      · subst h28
        go_upto_region 7 with fail
        go_quiet (exact Calls.quiet_of_same (K2.out _))
        have E : Hid (te = if a < 0 then 0 else a % 8) := by unfold Hid; rw [TE.out]; simp
        clear K1 K2
        go_wp2_with fail
        all_goals go_ret2
        · exact ⟨ret_ints (by rw [E.out, if_pos (by assumption)]) rfl, HF.out.trans ((below_drawn w2 nq).mono HF.out.size)⟩
        · exact ⟨ret_ints (by rw [E.out, if_neg (by omega)]) rfl, HF.out.trans ((below_drawn w2 nq).mono HF.out.size)⟩
      · have t28 : (op == 28) = false := by simp [h28]
        obtain rfl : te = (tak k : Int) := by rw [TE.out]; simp [h21, h26, h28]
        clear h21 h26 h28
        go_upto_region 8 with fail
        go_quiet (fail)
        go_wp2_with fail
        go_ret2
        exact ⟨rfl, HF.out.trans ((below_drawn w2 nq).mono HF.out.size)⟩
end Go.Proofs.YtklamaibinjcmaaDoor
