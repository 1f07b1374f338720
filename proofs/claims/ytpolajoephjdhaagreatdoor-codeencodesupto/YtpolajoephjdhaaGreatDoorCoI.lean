/-
  What the library's variables must hold; Itoa, FormatInt; headLine, instrLine.
-/
import Derived.Test.YtpolajoephjdhaaGreatDoorCoH
import Derived.Lib.SmallJoins
import Derived.Lib.ItoaLen
namespace Go.Proofs.YtpolajoephjdhaaGreatDoor
open Go.RowKit
set_option maxRecDepth 100000
theorem below_grow (w : World) (k : Nat) (os : Array Obj) : Below w.heap.size w (Go.Sort.grow (w.drewN k) os) := by
  have h := below_drawn w k
  refine ⟨h.os, h.tape, h.output, ?_, fun j hj => ?_⟩
  · have := h.size
    show w.heap.size ≤ ((w.drewN k).heap ++ os).size
    rw [Array.size_append]; omega
  · show ((w.drewN k).heap ++ os)[j]? = _
    rw [Array.getElem?_append_left (by have := h.size; omega)]
    exact h.block j hj
def Pw (W : World) : Prop := Lib.TabIs Tryz.prog W "internal/strconv.uint64pow10" .u64 Lib.pow10Tab
theorem gPow : Tryz.prog.globalNamed "internal/strconv.uint64pow10" = some 2 := by kernel_rfl
theorem Pw.later {W W' : World} (h : Pw W) (hb : Below W.heap.size W W') : Pw W' := Joins.tab_stays gPow h hb (Nat.le_refl _)
/-- The library's two errors have their values. -/
def Wd (w : World) : Prop := ∀ g, g = 3 ∨ g = 4 → ∃ ev, w.cell? ⟨g, 0, none⟩ = some ev ∧ (ev = .nilIface ∨ ∃ te pe, ev = .iface te pe)
theorem Wd.mv {W W' : World} {S : Nat → Prop} (h : Wd W) (hm : Mv W W' S) (h0 : ¬ S 3 ∧ ¬ S 4) : Wd W' := fun g hg => by
  obtain ⟨ev, h1, h2⟩ := h g hg
  refine ⟨ev, hm.cell h1 ?_, h2⟩
  rcases hg with rfl | rfl
  · exact h0.1
  · exact h0.2
def Kd (W : World) : Prop := Tb W ∧ Pw W ∧ Wd W
theorem Kd.later {W W' : World} (h : Kd W) (hb : Below W.heap.size W W') : Kd W' := ⟨h.1.later hb, h.2.1.later hb, h.2.2.mv (Mv.of_below hb (fun _ => False)) ⟨fun e => e, fun e => e⟩⟩
def itB (n : Int) : ByteArray := ⟨(Lib.itoa n).toArray⟩
theorem itoa_any (n : Int) (hn : I6 n) (w : World) (hp : Pw w) : Calls Tryz.prog 77 #[.int .i64 n] w fun e w' => e = .returned (.string (itB n)) ∧ Below w.heap.size w w' := by
  refine (Tryz.strconv_Itoa n hn.1 hn.2 w hp).mono ?_
  rintro e w' ⟨rfl, k, os, rfl⟩
  exact ⟨rfl, below_grow w k os⟩
theorem format_any (n : Int) (hn : I6 n) (w : World) (hp : Pw w) : Calls Tryz.prog 78 #[.int .i64 n, .int .i64 10] w fun e w' => e = .returned (.string (itB n)) ∧ Below w.heap.size w w' := by
  refine (Tryz.strconv_FormatInt_10 n hn.1 hn.2 w hp).mono ?_
  rintro e w' ⟨rfl, k, os, rfl⟩
  exact ⟨rfl, below_grow w k os⟩
theorem wd_all : ∀ k : Fin 40, (wd k.val).size ≤ 5 := by decide +kernel
theorem wd_size (k : Nat) : (wd k).size ≤ 5 := by
  by_cases h : k < 40
  · exact wd_all ⟨k, h⟩
  · unfold wd wdL
    rw [List.getD_eq_getElem?_getD, List.getElem?_eq_none (by show 40 ≤ k; omega)]
    simp [ByteArray.size]
theorem itB_size {n : Int} (h : I6 n) : (itB n).size ≤ 21 := by
  have := Lib.itoa_length_le n h.1 h.2
  show (Lib.itoa n).toArray.size ≤ 21
  simpa using this
theorem cat_any (a b : ByteArray) (h : a.size + b.size ≤ 9223372036854775807) : ∀ w, (Op.stringOp .add a b).run Tryz.prog w = .ok (.string (a ++ b)) w := fun w => run_string_add_sum w a b h
/-- The line of an instruction. -/
def lineB (i : Ins) : ByteArray := if numb (opk i.op) then wd (opk i.op) ++ ⟨#[32]⟩ ++ itB i.a else wd (opk i.op)
def headB (nm : ByteArray) (pa lo : Int) : ByteArray := nm ++ ⟨#[32]⟩ ++ itB pa ++ ⟨#[32]⟩ ++ itB lo
set_option maxHeartbeats 1000000 in
theorem instrline_any (i : Ins) (ha : I6 i.a) (W : World) (hk : Kd W) : Calls Tryz.prog 44 #[insV i] W fun e w' => e = .returned (.string (lineB i)) ∧ Below W.heap.size W w' := by
  obtain ⟨op, a⟩ := i
  dsimp only at ha
  obtain ⟨w0, hw0⟩ : ∃ X, X = W.alloc (.cells #[.int .i64 op, .int .i64 a] 56) := ⟨_, rfl⟩
  have B0 : Below W.heap.size W w0 := hw0 ▸ below_alloc W _
  have J1 := hide (row_any op w0 (hk.1.later B0))
  have n1 : w0.heap[W.heap.size]? = some (.cells #[.int .i64 op, .int .i64 a] 56 (0, 0)) := by rw [hw0]; exact heap_alloc_new W _
  obtain ⟨B, hB⟩ : ∃ B, B = W.heap.size := ⟨_, rfl⟩
  rw [← hB] at n1
  have c0 : w0.cell? ⟨B, 0, none⟩ = some (.int .i64 op) := by rw [cell_of_row w0 _ _ _ 56 (0, 0) n1]; rfl
  obtain ⟨te, hte⟩ : ∃ t, t = lineB ⟨op, a⟩ := ⟨_, rfl⟩
  rw [← hte]
  have TE := hide hte
  have HW := hide hw0
  have HB := hide B0
  have EB := hide hB
  have N1 := hide n1
  have HK := hide hk
  have HA := hide ha
  clear hte n1 B0 hk ha
  unfold lineB at TE
  unfold insV
  dsimp only at TE ⊢
  generalize hkk : opk op = k at *
  clear hkk
  go_enter Tryz.func44, Tryz.ntmps44
  go_upto_region 1 with fail
  rw [← hw0, ← hB]
  clear hw0 hB
  go_wp2_with fail
  refine J1.out.mono ?_
  rintro e w1 ⟨rfl, hb1⟩
  have n2 : w1.heap[B]? = some (.cells #[.int .i64 op, .int .i64 a] 56 (0, 0)) := (hb1.block _ (lt_of_block N1.out)).trans N1.out
  unfold rowV
  obtain ⟨w2, hw2⟩ : ∃ X, X = w1.alloc (.cells #[.string (wd k), .bool (numb k), .int .i64 (tak k : Int), .int .i64 (pts k : Int)] 112) := ⟨_, rfl⟩
  obtain ⟨r, hr⟩ : ∃ r, r = w1.heap.size := ⟨_, rfl⟩
  have B2 : Below w1.heap.size w1 w2 := hw2 ▸ below_alloc w1 _
  have n3 : w2.heap[r]? = some (.cells #[.string (wd k), .bool (numb k), .int .i64 (tak k : Int), .int .i64 (pts k : Int)] 112 (0, 0)) := by rw [hw2, hr]; exact heap_alloc_new w1 _
  have n4 := (B2.block _ (lt_of_block n2)).trans n2
  have y1 : w2.cell? ⟨B, 1, none⟩ = some (.int .i64 a) := by rw [cell_of_row w2 _ _ _ 56 (0, 0) n4]; rfl
  have y2 : w2.cell? ⟨r, 0, none⟩ = some (.string (wd k)) := by rw [cell_of_row w2 _ _ _ 112 (0, 0) n3]; rfl
  have y3 : w2.cell? ⟨r, 1, none⟩ = some (.bool (numb k)) := by rw [cell_of_row w2 _ _ _ 112 (0, 0) n3]; rfl
  have HF := hide (below_on HB.out (below_on hb1 B2))
  have HK2 := hide (HK.out.later (below_on HB.out (below_on hb1 B2)))
  have HW2 := hide hw2
  have HR := hide hr
  clear hb1 n2 n3 n4 c0 J1 B2 N1
  go_upto_region 2 with fail
  rw [← hw2, ← hr]
  clear hw2 hr
  cases hb : numb k with
  | false =>
    rw [hb] at y3
    obtain rfl : te = wd k := by rw [TE.out, hb]; rfl
    go_wp2_with fail
    go_ret
    exact ⟨rfl, HF.out⟩
  | true =>
    rw [hb] at y3
    obtain rfl : te = wd k ++ ⟨#[32]⟩ ++ itB a := by rw [TE.out, hb]; rfl
    have J2 := hide (fun n => format_any a HA.out (w2.drewN n) (HK2.out.2.1.later (below_drawn w2 n)))
    have z1 := wd_size k
    have z2 := itB_size HA.out
    have k1 := cat_any (wd k) ⟨#[32]⟩ (by show _ + 1 ≤ _; omega)
    have k2 := cat_any (wd k ++ ⟨#[32]⟩) (itB a) (by rw [ByteArray.size_append]; show _ + 1 + _ ≤ _; omega)
    have KL : Hid (∀ w3, Below (w2.drewN 1).heap.size (w2.drewN 1) w3 → w3.cell? ⟨B, 1, none⟩ = some (.int .i64 a) ∧ w3.cell? ⟨r, 0, none⟩ = some (.string (wd k))) := fun w3 h => by
      have m := Mv.of_below (below_on (below_drawn w2 1) h) (fun _ => False)
      exact ⟨m.cell y1 (fun e => e), m.cell y2 (fun e => e)⟩
    go_upto_region 4 with fail
    go_region_held3 (fun V => V.cell? ⟨B, 1, none⟩ = some (.int .i64 a) ∧ V.cell? ⟨r, 0, none⟩ = some (.string (wd k))) (first | exact ⟨y1, y2⟩ | exact KL.out _ hb3) ((go_at_call 78; refine (J2.out 1).mono ?_; rintro e w3 ⟨rfl, hb3⟩))
    go_wp2_with fail
    go_ret
    exact ⟨rfl, below_on HF.out (below_on (below_drawn w2 1) hb3)⟩
set_option maxHeartbeats 1000000 in
theorem headline_any (nm : ByteArray) (pa lo : Int) (vc : Value) (hnm : nm.size ≤ 9223372036854775000) (h1 : I6 pa) (h2 : I6 lo) (W : World) (hk : Kd W) : Calls Tryz.prog 43 #[.agg #[.string nm, .int .i64 pa, .int .i64 lo, vc]] W fun e w' => e = .returned (.string (headB nm pa lo)) ∧ Below W.heap.size W w' := by
  obtain ⟨w0, hw0⟩ : ∃ X, X = W.alloc (.cells #[.string nm, .int .i64 pa, .int .i64 lo, vc] 45) := ⟨_, rfl⟩
  have B0 : Below W.heap.size W w0 := hw0 ▸ below_alloc W _
  have n1 : w0.heap[W.heap.size]? = some (.cells #[.string nm, .int .i64 pa, .int .i64 lo, vc] 45 (0, 0)) := by rw [hw0]; exact heap_alloc_new W _
  obtain ⟨B, hB⟩ : ∃ B, B = W.heap.size := ⟨_, rfl⟩
  rw [← hB] at n1
  have c0 : w0.cell? ⟨B, 0, none⟩ = some (.string nm) := by rw [cell_of_row w0 _ _ _ 45 (0, 0) n1]; rfl
  have c1 : w0.cell? ⟨B, 1, none⟩ = some (.int .i64 pa) := by rw [cell_of_row w0 _ _ _ 45 (0, 0) n1]; rfl
  have c2 : w0.cell? ⟨B, 2, none⟩ = some (.int .i64 lo) := by rw [cell_of_row w0 _ _ _ 45 (0, 0) n1]; rfl
  obtain ⟨te, hte⟩ : ∃ t, t = headB nm pa lo := ⟨_, rfl⟩
  have z1 := itB_size h1
  have z2 := itB_size h2
  have k1 := cat_any nm ⟨#[32]⟩ (by show _ + 1 ≤ _; omega)
  have k2 := cat_any (nm ++ ⟨#[32]⟩) (itB pa) (by rw [ByteArray.size_append]; show _ + 1 + _ ≤ _; omega)
  have k3 := cat_any (nm ++ ⟨#[32]⟩ ++ itB pa) ⟨#[32]⟩ (by rw [ByteArray.size_append, ByteArray.size_append]; show _ + 1 + _ + 1 ≤ _; omega)
  have k4 := cat_any (nm ++ ⟨#[32]⟩ ++ itB pa ++ ⟨#[32]⟩) (itB lo) (by rw [ByteArray.size_append, ByteArray.size_append, ByteArray.size_append]; show _ + 1 + _ + 1 + _ ≤ _; omega)
  have KL : Hid (∀ w3, Below w0.heap.size w0 w3 → w3.cell? ⟨B, 0, none⟩ = some (.string nm) ∧ w3.cell? ⟨B, 1, none⟩ = some (.int .i64 pa) ∧ w3.cell? ⟨B, 2, none⟩ = some (.int .i64 lo)) := fun w3 h => by
    have m := Mv.of_below h (fun _ => False)
    exact ⟨m.cell c0 (fun e => e), m.cell c1 (fun e => e), m.cell c2 (fun e => e)⟩
  have K0 := hk.later B0
  have J1 := hide (itoa_any pa h1 (w0.drewN 1) (K0.2.1.later (below_drawn w0 1)))
  have J2 : Hid (∀ w3, Below w0.heap.size w0 w3 → Calls Tryz.prog 77 #[.int .i64 lo] w3 fun e w' => e = .returned (.string (itB lo)) ∧ Below w3.heap.size w3 w') := fun w3 h => itoa_any lo h2 w3 (K0.2.1.later h)
  have D0 := hide (below_drawn w0 1)
  unfold headB at hte ⊢
  have HB := hide B0
  have HW := hide hw0
  clear hte n1 B0 hk h1 h2 K0
  go_enter Tryz.func43, Tryz.ntmps43
  go_upto_region 1 with fail
  rw [← hw0, ← hB]
  clear hw0 hB
  go_region_held3 (fun V => V.cell? ⟨B, 0, none⟩ = some (.string nm) ∧ V.cell? ⟨B, 1, none⟩ = some (.int .i64 pa) ∧ V.cell? ⟨B, 2, none⟩ = some (.int .i64 lo)) (first | exact ⟨c0, c1, c2⟩ | exact KL.out _ H3.out | exact KL.out _ H4.out) ((first | (go_at_call_of 77 (Value.int .i64 pa); refine J1.out.mono ?_; rintro e w3 ⟨rfl, hb3⟩; have H3 := hide (below_on D0.out hb3); clear hb3) | (go_at_call_of 77 (Value.int .i64 lo); refine (J2.out _ H3.out).mono ?_; rintro e w4 ⟨rfl, hb4⟩; have H4 := hide (below_on H3.out hb4); clear hb4)))
  go_wp2_with fail
  go_ret
  exact ⟨rfl, below_on HB.out H4.out⟩
end Go.Proofs.YtpolajoephjdhaaGreatDoor
