import Derived.Test.YtkcalcbefhgmcaaDoorRows
import Derived.Test.YtkcalcbefhgmcaaDoorShelf
import Derived.WalkKit
import Derived.WalkSpells
import Derived.WalkLawsBesides
import Derived.Lib.QuietBelow
namespace Go.Proofs.YtkcalcbefhgmcaaDoor
open Go.RowKit Go.Sort
abbrev Tab (w : World) : Prop := Lib.TabIs Tryd.prog w "internal/strconv.uint64pow10" .u64 Lib.pow10Tab
theorem hide {p : Prop} (h : p) : Hid p := h
theorem gPow : Tryd.prog.globalNamed "internal/strconv.uint64pow10" = some 0 := by kernel_rfl
theorem Tab.below {B : Nat} {w w' : World} (h : Tab w) (hb : Below B w w') (hB : 0 < B) : Tab w' := var?_below hb gPow hB h
theorem below_grow (w : World) (k : Nat) (os : Array Obj) : Below w.heap.size w (grow (w.drewN k) os) := by
  refine ⟨rfl, rfl, rfl, by simp [grow], fun i hi => ?_⟩
  show (w.heap ++ os)[i]? = _
  rw [Array.getElem?_append_left hi]

/-- The three texts of numbers that are met. -/
def t100 : ByteArray := ⟨(Lib.itoa 100).toArray⟩
def t1 : ByteArray := ⟨(Lib.decDigits 1).toArray⟩
def t7 : ByteArray := ⟨(Lib.decDigits 7).toArray⟩
theorem t100_size : t100.size = 3 := by decide +kernel
theorem t1_size : t1.size = 1 := by decide +kernel
theorem t7_size : t7.size = 1 := by decide +kernel
theorem itoa100 (w : World) (ht : Tab w) : Calls Tryd.prog 8 #[.int .i64 100] w fun e w' => e = .returned (.string t100) ∧ ∃ k os, w' = grow (w.drewN k) os := Tryd.strconv_Itoa 100 (by omega) (by omega) w ht
theorem itoa1 (w : World) : Calls Tryd.prog 8 #[.int .i64 1] w fun e w' => e = .returned (.string t1) ∧ w' = w := Tryd.strconv_Itoa_small 1 (by omega) w
theorem itoa7 (w : World) : Calls Tryd.prog 8 #[.int .i64 7] w fun e w' => e = .returned (.string t7) ∧ w' = w := Tryd.strconv_Itoa_small 7 (by omega) w

/-- What Errno's Error says ahead of the number. -/
def pre : ByteArray := ⟨#[104, 105, 110, 100, 99, 97, 115, 116, 58, 32, 101, 114, 114, 111, 114, 32]⟩
def e100 : ByteArray := pre ++ t100
theorem e100_size : e100.size = 19 := by unfold e100; rw [ByteArray.size_append, t100_size]; rfl
def e1 : ByteArray := pre ++ t1
theorem e1_size : e1.size = 17 := by unfold e1; rw [ByteArray.size_append, t1_size]; rfl

set_option maxHeartbeats 400000 in
set_option maxRecDepth 100000 in
theorem errno100 (w : World) (ht : Tab w) :
    Calls Tryd.prog 7 #[.int .i64 100] w fun e w' => e = .returned (.string e100) ∧ Below w.heap.size w w' := by
  have hc := itoa100 w ht
  have hs := t100_size
  clear ht
  go_enter Tryd.func7, Tryd.ntmps7
  go_wp2_with (go_at_call 8; refine hc.mono ?_; rintro e w' ⟨rfl, k, os, rfl⟩)
  go_ret
  exact ⟨rfl, below_grow w k os⟩

set_option maxHeartbeats 400000 in
set_option maxRecDepth 100000 in
theorem errno1 (w : World) :
    Calls Tryd.prog 7 #[.int .i64 1] w fun e w' => e = .returned (.string e1) ∧ w' = w := by
  have hs := t1_size
  go_enter Tryd.func7, Tryd.ntmps7
  go_wp2_with (go_at_call 8; refine (itoa1 _).mono ?_; rintro e w' ⟨rfl, rfl⟩)
  go_ret
  exact ⟨rfl, rfl⟩

def f100 : ByteArray := e100 ++ ⟨#[32, 97, 116, 32]⟩ ++ t7
theorem f100_size : f100.size = 24 := by unfold f100; rw [ByteArray.size_append, ByteArray.size_append, e100_size, t7_size]; rfl

set_option maxHeartbeats 400000 in
set_option maxRecDepth 100000 in
theorem fault (b : Nat) (w : World) (ht : Tab w) (hw : 0 < w.heap.size) (c0 : w.cell? ⟨b, 0, none⟩ = some (.int .i64 7)) (c1 : w.cell? ⟨b, 1, none⟩ = some (.int .i64 100)) :
    Calls Tryd.prog 6 #[.pointer (some ⟨b, 0, none⟩)] w fun e w' => e = .returned (.string f100) ∧ Below w.heap.size w w' := by
  have k0 := cell_regrown c0
  have k1 := cell_regrown c1
  have cE : ∀ d os, Calls Tryd.prog 7 #[.int .i64 100] (grow (redrawn w d) os) fun e w'' => e = .returned (.string e100) ∧ ∃ p : Regrown, w'' = grow (redrawn w p.d) p.os :=
    fun d os => Calls.regrown_of (errno100 _ (ht.below (below_regrown w d os) hw))
  have cI : ∀ d os, Calls Tryd.prog 8 #[.int .i64 7] (grow (redrawn w d) os) fun e w'' => e = .returned (.string t7) ∧ ∃ p : Regrown, w'' = grow (redrawn w p.d) p.os :=
    fun d os => Calls.regrown_of ((itoa7 _).mono fun _ _ ⟨a, b⟩ => ⟨a, b ▸ Below.refl _ _⟩)
  have hs := e100_size
  have hs7 := t7_size
  clear c0 c1 ht
  go_enter Tryd.func6, Tryd.ntmps6
  go_wp2
  refine wp_region_quiet_below (by kernel_rfl) (by kernel_rfl) ?_
  repeat (quiet_step (first | exact cE _ _ | exact cI _ _))
  refine wpQuiet_nil ?_
  intro _ hw'
  obtain ⟨⟨dq, osq⟩, hw''⟩ := hw'
  subst hw''
  go_wp2
  go_ret
  exact ⟨rfl, below_regrown w dq osq⟩

theorem some_of_size {s : ByteArray} (h : 0 < s.size) : s.toList.isEmpty = false := by
  have e : s.toList.length = s.size := by rw [ByteArray.toList_eq]; simp
  cases hl : s.toList with
  | nil => rw [hl] at e; simp at e; omega
  | cons a l => rfl
theorem f100_some : f100.toList.isEmpty = false := some_of_size (by rw [f100_size]; omega)
theorem e1_some : e1.toList.isEmpty = false := some_of_size (by rw [e1_size]; omega)
/-- The two errors are one number of one type. -/
theorem eq_hundred (w : World) : (binOp .eql 27 (.iface 23 (.int .i64 100)) (.iface 23 (.int .i64 100))).run Tryd.prog w = .ok (.bool true) w := by kernel_rfl

set_option maxHeartbeats 400000 in
set_option maxRecDepth 100000 in
theorem names_any (w : World) (ht : Tab w) (hw : 0 < w.heap.size) :
    Calls Tryd.prog 3 #[] w fun e w' => e = .returned (.bool true) ∧ Below w.heap.size w w' := by
  have hn := f100_some
  have hn1 := e1_some
  have hf : ∀ W : World, Below w.heap.size w W → w.heap.size < W.heap.size → W.cell? ⟨w.heap.size, 0, none⟩ = some (.int .i64 7) → W.cell? ⟨w.heap.size, 1, none⟩ = some (.int .i64 100) → Calls Tryd.prog 6 #[.pointer (some ⟨w.heap.size, 0, none⟩)] W fun e w' => e = .returned (.string f100) ∧ (w'.cell? ⟨w.heap.size, 0, none⟩ = some (.int .i64 7)) ∧ Below w.heap.size w w' :=
    fun W hb hz c0 c1 => (fault _ W (ht.below hb hw) (by omega) c0 c1).mono fun _ _ ⟨a, b⟩ => ⟨a, (b.cell (p := ⟨w.heap.size, 0, none⟩) hz).trans c0, hb.trans (b.mono (by omega))⟩
  have HF := hide hf
  clear hf ht
  have he := eq_hundred
  go_enter Tryd.func3, Tryd.ntmps3
  go_wp2_with (first | (go_at_call 6; refine (HF.out _ ?_ ?_ ?_ ?_).mono ?_; exact (Below.refl _ _).alloc (Nat.le_refl _) _; simp; simp; simp; rintro e w1 ⟨rfl, hc1, hb1⟩) | (go_at_call 7; refine (errno1 _).mono ?_; rintro e w2 ⟨rfl, rfl⟩) | go_in)
  go_ret
  exact ⟨rfl, hb1⟩
end Go.Proofs.YtkcalcbefhgmcaaDoor
