import Derived.Test.YtfkhhplcogedmaaGreatDoorProg
import Derived.WalkKit
import Derived.WalkSpells
import Derived.WalkLawsBesides
import Derived.Laws.CopyOwn
import Derived.Laws.AppendOwnNone
import Derived.Maps.AppendAt
import Derived.Laws.OwnMore
import Derived.Below
import Derived.RowKit
import Derived.Deep.DeepCutAuto
import Derived.Deep.RegionWith
import Derived.Deep.RegionLaw
import Derived.Deep.RegionHeld3
import Derived.Deep.QuietTactic
import Derived.Deep.CutBlock
import Derived.Deep.AppendLies
import Derived.BigQuiet
import Derived.BigRegion
import Derived.OrdersHeld
import Derived.Recover
import Derived.Laws.ResultCell
/-
  What changes, and what stays: what all texts of this seat share.
-/
namespace Go.Proofs.YtfkhhplcogedmaaGreatDoor
open Go.RowKit
set_option maxRecDepth 100000
theorem hide {p : Prop} (h : p) : Hid p := h
theorem ret_int {k : IntKind} {a b : Int} (h : a = b) : Ending.returned (.int k a) = .returned (.int k b) := by rw [h]
theorem val_int {k : IntKind} {a b : Int} (h : a = b) : Value.int k a = .int k b := by rw [h]


/-! ### What changes -/
theorem grown_later {w w' : World} (h : Below w.heap.size w w') : w.grownBy w' none := ⟨h.os, h.tape, h.output, h.size, fun k hk _ => h.block k hk⟩
theorem grown_set (w : World) (g k : Nat) (u : Value) : w.grownBy (w.setCell ⟨g, k, none⟩ u) (some g) :=
  ⟨rfl, rfl, rfl, by simp, fun q _ hq => heap_setCell_other w ⟨g, k, none⟩ q u (fun e => hq (by rw [e]))⟩
theorem lt_of_block {w : World} {g : Nat} {o : Obj} (h : w.heap[g]? = some o) : g < w.heap.size := (Array.getElem?_eq_some_iff.1 h).1
theorem below_drawn (w : World) : ∀ n, Below w.heap.size w (w.drewN n)
  | 0 => Below.refl _ _
  | n + 1 => by
    have := below_drawn w n
    simpa using this.drew
theorem below_drew (w : World) : Below w.heap.size w w.drew := (Below.refl _ w).drew
theorem below_alloc (w : World) (o : Obj) : Below w.heap.size w (w.alloc o) := (Below.refl _ w).alloc (Nat.le_refl _) o
theorem below_on {w0 w w' : World} (h : Below w0.heap.size w0 w) (k : Below w.heap.size w w') : Below w0.heap.size w0 w' := h.trans (k.mono h.size)
/-- But for some blocks all that was there is as it was. -/
def Mv (w w' : World) (S : Nat → Prop) : Prop := w'.os = w.os ∧ w'.tape = w.tape ∧ w'.output = w.output ∧ w.heap.size ≤ w'.heap.size ∧ ∀ k, k < w.heap.size → ¬ S k → w'.heap[k]? = w.heap[k]?
section
variable {w w' w2 : World} {S S' : Nat → Prop}
theorem Mv.refl (w : World) (S : Nat → Prop) : Mv w w S := ⟨rfl, rfl, rfl, Nat.le_refl _, fun _ _ _ => rfl⟩
theorem Mv.size (h : Mv w w' S) : w.heap.size ≤ w'.heap.size := h.2.2.2.1
theorem Mv.trans (h : Mv w w' S) (k : Mv w' w2 S') (hs : ∀ k, k < w.heap.size → S' k → S k) : Mv w w2 S :=
  ⟨k.1.trans h.1, k.2.1.trans h.2.1, k.2.2.1.trans h.2.2.1, Nat.le_trans h.2.2.2.1 k.2.2.2.1, fun q hq hn => (k.2.2.2.2 q (Nat.lt_of_lt_of_le hq h.2.2.2.1) (fun e => hn (hs q hq e))).trans (h.2.2.2.2 q hq hn)⟩
theorem Mv.grown {row : Option Nat} (h : Mv w w' S) (hg : w'.grownBy w2 row) (hr : ∀ k, k < w.heap.size → row = some k → S k) : Mv w w2 S :=
  ⟨hg.1.trans h.1, hg.2.trans h.2.1, hg.3.trans h.2.2.1, Nat.le_trans h.2.2.2.1 hg.size, fun k hk h1 => (hg.block k (Nat.lt_of_lt_of_le hk h.2.2.2.1) (fun e => h1 (hr k hk e.symm))).trans (h.2.2.2.2 k hk h1)⟩
theorem Mv.alloc (h : Mv w w' S) (o : Obj) : Mv w (w'.alloc o) S := h.grown (World.grownBy_alloc w' o none) (fun _ _ e => by cases e)
theorem Mv.set (h : Mv w w' S) {g : Nat} (hg : S g) (k : Nat) (u : Value) : Mv w (w'.setCell ⟨g, k, none⟩ u) S := h.grown (grown_set w' g k u) (fun q _ e => by cases e; exact hg)
theorem Mv.later (h : Mv w w' S) (hb : Below w'.heap.size w' w2) : Mv w w2 S := h.grown (grown_later hb) (fun _ _ e => by cases e)
theorem Mv.mono (h : Mv w w' S) (hs : ∀ k, k < w.heap.size → S k → S' k) : Mv w w' S' := ⟨h.1, h.2.1, h.2.2.1, h.2.2.2.1, fun k hk hn => h.2.2.2.2 k hk (fun e => hn (hs k hk e))⟩
theorem Mv.of_below (h : Below w.heap.size w w') (S : Nat → Prop) : Mv w w' S := (Mv.refl w S).later h
theorem Mv.own {v : Value} {B e s n : Nat} {xs : List Value} (h : Mv w w' S) (hv : w.ownsRow B e s v n xs) (h1 : ∀ k, v.ownBlock = some k → ¬ S k) : w'.ownsRow B e s v n xs := by
  refine ⟨hv.1, ?_⟩
  rcases hv.2 with h0 | ⟨g, cap, cur, rfl, hb, hg, hr⟩
  · exact .inl h0
  · exact .inr ⟨g, cap, cur, rfl, hb, (h.2.2.2.2 g (Array.getElem?_eq_some_iff.1 hg).1 (h1 g rfl)).trans hg, hr⟩
theorem Mv.at {g : Nat} {o : Obj} (h : Mv w w' S) (hg : w.heap[g]? = some o) (h1 : ¬ S g) : w'.heap[g]? = some o := (h.2.2.2.2 g (Array.getElem?_eq_some_iff.1 hg).1 h1).trans hg
theorem Mv.cell {a : Addr} {x : Value} (h : Mv w w' S) (hc : w.cell? a = some x) (h1 : ¬ S a.block) : w'.cell? a = some x :=
  (World.cell?_of_block (h.2.2.2.2 a.block (World.block_lt_of_cell? w a hc) h1)).trans hc
theorem Mv.below {B : Nat} (h : Mv w w' S) (hB : B ≤ w.heap.size) (hs : ∀ k, S k → B ≤ k) : Below B w w' :=
  ⟨h.1, h.2.1, h.2.2.1, h.2.2.2.1, fun k hk => h.2.2.2.2 k (Nat.lt_of_lt_of_le hk hB) (fun e => by have := hs k e; omega)⟩
end
/-- The blocks of S, and those that are new since w. -/
def Nw (w : World) (S : Nat → Prop) : Nat → Prop := fun k => S k ∨ w.heap.size ≤ k
theorem Nw.old {w : World} {S : Nat → Prop} {k : Nat} (h : S k) : Nw w S k := .inl h
theorem Nw.twice {w w' : World} {S : Nat → Prop} (h : w.heap.size ≤ w'.heap.size) : ∀ k, Nw w' (Nw w S) k → Nw w S k := fun k e => by
  rcases e with e | e
  · exact e
  · exact .inr (Nat.le_trans h e)
theorem Mv.step {w w' w2 : World} {S : Nat → Prop} (h : Mv w w' S) (k : Mv w' w2 (Nw w S)) : Mv w w2 S := h.trans k (fun q hq e => by
  rcases e with e | e
  · exact e
  · omega)
def In (S : Nat → Prop) (v : Value) : Prop := ∀ k, v.ownBlock = some k → S k
theorem In.mono {S S' : Nat → Prop} {v : Value} (h : In S v) (hs : ∀ k, S k → S' k) : In S' v := fun k e => hs k (h k e)
theorem In.nil (S : Nat → Prop) : In S (.slice none 0 0) := fun k e => by simp [Value.ownBlock] at e
/-- Two values that lie in no block together. -/
def Ap (u v : Value) : Prop := ∀ g, u.ownBlock = some g → v.ownBlock = some g → False
theorem Ap.symm {u v : Value} (h : Ap u v) : Ap v u := fun g h1 h2 => h g h2 h1
theorem own_len {w : World} {B e s n : Nat} {v : Value} {xs : List Value} (h : w.ownsRow B e s v n xs) : ∃ ao c, v = .slice ao n c := by
  rcases h.2 with ⟨rfl, rfl⟩ | ⟨g, cap, cur, rfl, _⟩
  · exact ⟨_, _, rfl⟩
  · exact ⟨_, _, rfl⟩
theorem own_cap {w : World} {B e s n c : Nat} {ao : Option Addr} {xs : List Value} (h : w.ownsRow B e s (.slice ao n c) n xs) : n ≤ c ∧ c ≤ 9223372036854775807 := by
  rcases h.2 with ⟨e, h0⟩ | ⟨g, c', cur, e, _, _, h1, h2, _⟩
  · simp only [Value.slice.injEq] at e
    obtain ⟨_, _, rfl⟩ := e
    exact ⟨by omega, by omega⟩
  · simp only [Value.slice.injEq] at e
    obtain ⟨_, _, rfl⟩ := e
    unfold maxLen at h2
    exact ⟨h1, by omega⟩
theorem own_form {w : World} {B e s n : Nat} {v : Value} {xs : List Value} (h : w.ownsRow B e s v n xs) (h0 : 0 < n) : ∃ g c, v = .slice (some ⟨g, 0, none⟩) n c ∧ n ≤ c ∧ c ≤ 9223372036854775807 := by
  rcases h.2 with ⟨_, h'⟩ | ⟨g, c, cur, rfl, _, _, h1, h2, _⟩
  · omega
  · exact ⟨g, c, rfl, h1, by unfold maxLen at h2; omega⟩
theorem own_lower {w : World} {B B' e s n : Nat} {v : Value} {xs : List Value} (h : w.ownsRow B e s v n xs) (hB : B' ≤ B) : w.ownsRow B' e s v n xs := by
  refine ⟨h.1, ?_⟩
  rcases h.2 with h0 | ⟨g, cap, cur, h1, h2, h3⟩
  · exact .inl h0
  · exact .inr ⟨g, cap, cur, h1, Nat.le_trans hB h2, h3⟩
theorem own_later {w w' : World} {B e s n : Nat} {v : Value} {xs : List Value} (h : w.ownsRow B e s v n xs) (hb : Below w.heap.size w w') : w'.ownsRow B e s v n xs :=
  h.kept (grown_later hb) (by cases v.ownBlock <;> simp)
theorem own_set {w : World} {B e s n g k : Nat} {v u : Value} {xs : List Value} (h : w.ownsRow B e s v n xs) (hne : v.ownBlock ≠ some g) : (w.setCell ⟨g, k, none⟩ u).ownsRow B e s v n xs :=
  h.kept (grown_set w g k u) (.inr hne)
theorem own_kept {w w' : World} {B e s n : Nat} {v : Value} {xs : List Value} {row : Option Nat} (h : w.ownsRow B e s v n xs) (hg : w.grownBy w' row) (hne : ∀ k, v.ownBlock = some k → row ≠ some k) : w'.ownsRow B e s v n xs :=
  h.kept hg (by
    cases hv : v.ownBlock with
    | none => exact .inl rfl
    | some k => exact .inr (fun e => hne k hv e.symm))

end Go.Proofs.YtfkhhplcogedmaaGreatDoor

/-
  The table of instructions, and programs, as plain values.
-/
namespace Go.Proofs.YtfkhhplcogedmaaGreatDoor
open Go.RowKit
set_option maxRecDepth 100000
def words : List (List UInt8) := [[], [112, 117, 115, 104], [108, 111, 97, 100], [115, 116, 111, 114, 101], [102, 105, 101, 108, 100], [112, 117, 116], [97, 100, 100], [115, 117, 98], [109, 117, 108], [100, 105, 118], [114, 101, 109], [110, 101, 103], [101, 113], [110, 101], [108, 116], [108, 101], [103, 116], [103, 101], [110, 111, 116], [106, 117, 109, 112], [122, 101, 114, 111], [99, 97, 108, 108], [114, 101, 116], [115, 116, 111, 112], [115, 116, 101, 112], [101, 109, 105, 116], [112, 97, 114, 116], [115, 112, 97, 119, 110], [103, 105, 118, 101], [116, 97, 107, 101], [100, 105, 101], [114, 97, 110, 100], [116, 105, 99, 107], [109, 101], [105, 110, 112, 117, 116], [104, 97, 115], [109, 105, 110], [109, 97, 120], [97, 98, 115], [100, 114, 111, 112]]
def nums : List Bool := [false, true, true, true, true, true, false, false, false, false, false, false, false, false, false, false, false, false, false, true, true, true, false, false, false, false, true, false, true, true, false, false, false, false, false, true, false, false, false, false]
def taks : List Nat := [0, 0, 0, 1, 0, 1, 2, 2, 2, 2, 2, 1, 2, 2, 2, 2, 2, 2, 1, 0, 1, 0, 1, 0, 0, 2, 0, 0, 0, 0, 0, 1, 0, 0, 2, 0, 2, 2, 1, 1]
def putl : List Nat := [0, 1, 1, 0, 1, 0, 1, 1, 1, 1, 1, 1, 1, 1, 1, 1, 1, 1, 1, 0, 0, 1, 0, 0, 0, 0, 0, 0, 0, 0, 0, 1, 1, 1, 1, 1, 1, 1, 1, 0]
def wdL (k : Nat) : List UInt8 := words.getD k []
def wd (k : Nat) : ByteArray := ⟨(wdL k).toArray⟩
def numb (k : Nat) : Bool := nums.getD k false
def tak (k : Nat) : Nat := taks.getD k 0
def pts (k : Nat) : Nat := putl.getD k 0
/-- The row of an op; 0, if it is none. -/
def opk (op : Int) : Nat := if 1 ≤ op ∧ op ≤ 39 then op.toNat else 0
theorem opk_lt (op : Int) : opk op < 40 := by unfold opk; split <;> omega
theorem opk_in {op : Int} (h : 1 ≤ op ∧ op ≤ 39) : opk op = op.toNat := by unfold opk; rw [if_pos h]
theorem opk_out {op : Int} (h : ¬ (1 ≤ op ∧ op ≤ 39)) : opk op = 0 := by unfold opk; rw [if_neg h]
/-- An instruction, a routine, a system, a program. -/
structure Ins where
  op : Int
  a : Int
structure Rt where
  name : ByteArray
  pa : Int
  lo : Int
  code : List Ins
structure Sy where
  wi : List Int
  wo : List Int
  re : List Int
  wr : List Int
  run : Rt
structure Pg where
  sys : List Sy
  fns : List Rt
def isIns (i : Ins) : Bool := decide (1 ≤ i.op ∧ i.op ≤ 39) && (i.a == 0 || numb (opk i.op))
def rtOk (r : Rt) : Bool := decide (1 ≤ r.name.size ∧ r.name.size ≤ 16) && decide (0 ≤ r.pa ∧ r.pa ≤ 4) && decide (r.pa ≤ r.lo ∧ r.lo ≤ 32) && decide (r.code.length ≤ 2000) && r.code.all isIns
def seen (b : UInt8) : Bool := decide (33 ≤ b.toNat ∧ b.toNat ≤ 126)
def lstOk (r : Rt) : Bool := rtOk r && r.name.data.toList.all seen
/-- A set of kinds, behind a last one. -/
def setFrom : Int → List Int → Bool
  | _, [] => true
  | last, k :: l => decide (last < k ∧ k ≤ 12) && setFrom k l
def setOk (l : List Int) : Bool := setFrom 0 l
def sysOk (s : Sy) : Bool := setOk s.wi && setOk s.wo && setOk s.re && setOk s.wr && rtOk s.run
def sizeOf (p : Pg) : Nat := (p.sys.map fun s => s.run.code.length).sum + (p.fns.map fun r => r.code.length).sum
def mayOk (p : Pg) : Bool := decide (p.sys.length ≤ 16 ∧ p.fns.length ≤ 16) && p.sys.all sysOk && p.fns.all rtOk && decide (sizeOf p ≤ 2000)
end Go.Proofs.YtfkhhplcogedmaaGreatDoor

/-
  The table in memory; isOp, rowOf.
-/
namespace Go.Proofs.YtfkhhplcogedmaaGreatDoor
open Go.RowKit
set_option maxRecDepth 100000
/-- The table of the code lies at its place. -/
def Tb (W : World) : Prop := ∀ k, k < 40 → W.cell? ⟨0, k * 4, none⟩ = some (.string (wd k)) ∧ W.cell? ⟨0, k * 4 + 1, none⟩ = some (.bool (numb k)) ∧ W.cell? ⟨0, k * 4 + 2, none⟩ = some (.int .i64 (tak k : Int)) ∧ W.cell? ⟨0, k * 4 + 3, none⟩ = some (.int .i64 (pts k : Int))
def rowV (k : Nat) : Value := .agg #[.string (wd k), .bool (numb k), .int .i64 (tak k : Int), .int .i64 (pts k : Int)]
theorem Tb.mv {W W' : World} {S : Nat → Prop} (h : Tb W) (hm : Mv W W' S) (h0 : ¬ S 0) : Tb W' := fun k hk => by
  obtain ⟨a, b, c, d⟩ := h k hk
  exact ⟨hm.cell a h0, hm.cell b h0, hm.cell c h0, hm.cell d h0⟩
theorem Tb.pos {W : World} (h : Tb W) : 0 < W.heap.size := World.block_lt_of_cell? W _ (h 0 (by omega)).1
theorem Tb.later {W W' : World} (h : Tb W) (hb : Below W.heap.size W W') : Tb W' := h.mv (Mv.of_below hb (fun _ => False)) (fun e => e)
theorem ret_bool {a b : Bool} (h : a = b) : Ending.returned (.bool a) = .returned (.bool b) := by rw [h]
theorem isop_any (op : Int) (w : World) : Calls Tryz.prog 107 #[.int .i64 op] w fun e w' => e = .returned (.bool (decide (1 ≤ op ∧ op ≤ 39))) ∧ w' = w := by
  by_cases h : 1 ≤ op
  · go_enter Tryz.func107, Tryz.ntmps107
    go_wp2_with fail
    go_ret
    exact ⟨ret_bool (by simp [h]), rfl⟩
  · go_enter Tryz.func107, Tryz.ntmps107
    go_wp2_with fail
    go_ret
    exact ⟨ret_bool (by simp; omega), rfl⟩
theorem undRow : (Tryz.prog.underlying 162).map (fun d => match d with | .struct _ | .array _ _ => true | _ => false) = some true := by kernel_rfl
theorem res_row {fn : Func} {p : Tmp} (hr : fn.results = #[.cell p 162]) {tmps : Array Value} {W : World} {g k : Nat} (hp : tmps.getD p undef = .pointer (some ⟨g, 0, none⟩)) (hg : W.heap[g]? = some (.cells #[.string (wd k), .bool (numb k), .int .i64 (tak k : Int), .int .i64 (pts k : Int)] 162 (0, 0))) : (results fn tmps).run Tryz.prog W = .ok (rowV k) W := by
  obtain ⟨d, hu, hd⟩ := Option.map_eq_some_iff.1 undRow
  exact results_cell_row hr tmps W g 162 _ (0, 0) d hp hg hu (by cases d <;> first | rfl | cases hd) (by kernel_rfl)
theorem row_any (op : Int) (w : World) (ht : Tb w) : Calls Tryz.prog 91 #[.int .i64 op] w fun e w' => e = .returned (rowV (opk op)) ∧ Below w.heap.size w w' := by
  by_cases h : 1 ≤ op ∧ op ≤ 39
  · rw [opk_in h]
    obtain ⟨a, b, c, d⟩ := ht op.toNat (by omega)
    have t1 : decide (1 ≤ op ∧ op ≤ 39) = true := by simp [h]
    have i1 := fun w => isop_any op w
    rw [t1] at i1
    have hp := ht.pos
    go_enter Tryz.func91, Tryz.ntmps91
    go_wp2_with (go_at_call 107; refine (i1 _).mono ?_; rintro e w' ⟨rfl, rfl⟩)
    have hb : (w.alloc (.cells #[.string (wd op.toNat), .bool (numb op.toNat), .int .i64 (tak op.toNat : Int), .int .i64 (pts op.toNat : Int)] 162)).heap[w.heap.size]? = some (.cells #[.string (wd op.toNat), .bool (numb op.toNat), .int .i64 (tak op.toNat : Int), .int .i64 (pts op.toNat : Int)] 162 (0, 0)) := heap_alloc_new w _
    refine bodyPost_ret (v := rowV op.toNat) (res_row rfl rfl hb) rfl ⟨rfl, below_alloc w _⟩
  · rw [opk_out h]
    have t1 : decide (1 ≤ op ∧ op ≤ 39) = false := by simp; omega
    have i1 := fun w => isop_any op w
    rw [t1] at i1
    go_enter Tryz.func91, Tryz.ntmps91
    go_wp2_with (go_at_call 107; refine (i1 _).mono ?_; rintro e w' ⟨rfl, rfl⟩)
    have hb : (w.alloc (.cells #[.string ⟨#[]⟩, .bool false, .int .i64 0, .int .i64 0] 162)).heap[w.heap.size]? = some (.cells #[.string (wd 0), .bool (numb 0), .int .i64 (tak 0 : Int), .int .i64 (pts 0 : Int)] 162 (0, 0)) := heap_alloc_new w _
    refine bodyPost_ret (v := rowV 0) (res_row rfl rfl hb) rfl ⟨rfl, below_alloc w _⟩
theorem fldR0 (k : Nat) (w : World) : (Instr.field 162 (.agg #[.string (wd k), .bool (numb k), .int .i64 (tak k : Int), .int .i64 (pts k : Int)]) 0).run Tryz.prog w = .ok (.string (wd k)) w := by kernel_rfl
theorem fldR1 (k : Nat) (w : World) : (Instr.field 162 (.agg #[.string (wd k), .bool (numb k), .int .i64 (tak k : Int), .int .i64 (pts k : Int)]) 1).run Tryz.prog w = .ok (.bool (numb k)) w := by kernel_rfl
theorem values_any (a : Int) (w : World) : Calls Tryz.prog 112 #[.int .i64 a] w fun e w' => e = .returned (.int .i64 (if a < 0 then 0 else a % 8)) ∧ w' = w := by
  by_cases h : a < 0
  · rw [if_pos h]
    go_enter Tryz.func112, Tryz.ntmps112
    go_wp2_with fail
    go_ret
    exact ⟨rfl, rfl⟩
  · rw [if_neg h]
    have h0 : 0 ≤ a := by omega
    go_enter Tryz.func112, Tryz.ntmps112
    go_wp2_with fail
    go_ret
    exact ⟨ret_int (by simp <;> omega), rfl⟩
end Go.Proofs.YtfkhhplcogedmaaGreatDoor

/-
  Number, paramsOf, Effect.
-/
namespace Go.Proofs.YtfkhhplcogedmaaGreatDoor
open Go.RowKit
set_option maxRecDepth 100000
/-- The op of a word; 0, if there is none. -/
def isWd (s : ByteArray) (k : Nat) : Bool := decide (1 ≤ k) && decide (wd k = s)
def numOf (s : ByteArray) : Nat := ((List.range 40).find? (isWd s)).getD 0
theorem numOf_at {s : ByteArray} {k : Nat} (h1 : 1 ≤ k) (h2 : k < 40) (h3 : wd k = s) (h4 : ∀ j, 1 ≤ j → j < k → wd j ≠ s) : numOf s = k := by
  have : (List.range 40).find? (isWd s) = some k := by
    rw [List.find?_range_eq_some]
    refine ⟨by simp [isWd, h1, h3], by simpa using h2, fun j hj => ?_⟩
    by_cases h : 1 ≤ j
    · simp [isWd, h4 j h hj]
    · simp [isWd]; omega
  unfold numOf
  rw [this]; rfl
theorem numOf_no {s : ByteArray} (h : ∀ j, 1 ≤ j → j < 40 → wd j ≠ s) : numOf s = 0 := by
  have : (List.range 40).find? (isWd s) = none := by
    rw [List.find?_range_eq_none]
    intro j hj
    by_cases h1 : 1 ≤ j
    · simp [isWd, h j h1 hj]
    · simp [isWd]; omega
  unfold numOf
  rw [this]; rfl
theorem numOf_lt (s : ByteArray) : numOf s < 40 := by
  unfold numOf
  cases h : (List.range 40).find? (isWd s) with
  | none => simp
  | some k =>
    rw [List.find?_range_eq_some] at h
    simpa using h.2.1
theorem beq_list (a b : ByteArray) : (a.toList == b.toList) = decide (a = b) := by
  have h : a.toList = b.toList ↔ a = b := by
    constructor
    · intro h
      rw [ByteArray.toList_eq, ByteArray.toList_eq] at h
      exact ByteArray.ext (Array.toList_inj.1 h)
    · rintro rfl; rfl
  rw [Bool.eq_iff_iff, beq_iff_eq, decide_eq_true_eq]
  exact h
end Go.Proofs.YtfkhhplcogedmaaGreatDoor
