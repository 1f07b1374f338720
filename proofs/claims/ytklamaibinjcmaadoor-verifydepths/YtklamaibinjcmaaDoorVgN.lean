/-
  Verify: the law's shown.
-/
import Derived.Test.YtklamaibinjcmaaDoorMgI
import Derived.Test.YtklamaibinjcmaaDoorVgG
import Derived.Test.YtklamaibinjcmaaDoorVgF
namespace Go.Proofs.YtklamaibinjcmaaDoor
open Go.RowKit
set_option maxRecDepth 100000
/-- The instructions of the first two programs. -/
def Ic (W : World) (q : Nat) (x : Int) : Prop := W.heap[q]? = some (.cells #[.int .i64 24, .int .i64 0, .int .i64 4, .int .i64 8, .int .i64 4, .int .i64 16, .int .i64 6, .int .i64 0, .int .i64 5, .int .i64 x, .int .i64 23, .int .i64 0] 47 (0, 0))
theorem Ic.il {W : World} {q : Nat} {x : Int} (h : Ic W q x) (hx : I6 x) : Il (fun _ => True) W (.slice (some ⟨q, 0, none⟩) 6 6) [⟨24, 0⟩, ⟨4, 8⟩, ⟨4, 16⟩, ⟨6, 0⟩, ⟨5, x⟩, ⟨23, 0⟩] := by
  refine ⟨_, 6, rfl, Nat.le_refl 6, by decide, fun _ => ⟨q, 0, rfl, trivial, fun i hi => ?_⟩⟩
  have k : ∀ j, W.cell? ⟨q, j, none⟩ = (#[Value.int .i64 24, .int .i64 0, .int .i64 4, .int .i64 8, .int .i64 4, .int .i64 16, .int .i64 6, .int .i64 0, .int .i64 5, .int .i64 x, .int .i64 23, .int .i64 0] : Array Value)[j]? := fun j => cell_of_row W _ _ _ 47 (0, 0) h
  match i, hi with
  | 0, _ => exact ⟨(⟨by decide, by decide⟩ : I6 24), (⟨by decide, by decide⟩ : I6 0), k _, k _⟩
  | 1, _ => exact ⟨(⟨by decide, by decide⟩ : I6 4), (⟨by decide, by decide⟩ : I6 8), k _, k _⟩
  | 2, _ => exact ⟨(⟨by decide, by decide⟩ : I6 4), (⟨by decide, by decide⟩ : I6 16), k _, k _⟩
  | 3, _ => exact ⟨(⟨by decide, by decide⟩ : I6 6), (⟨by decide, by decide⟩ : I6 0), k _, k _⟩
  | 4, _ => exact ⟨(⟨by decide, by decide⟩ : I6 5), hx, k _, k _⟩
  | 5, _ => exact ⟨(⟨by decide, by decide⟩ : I6 23), (⟨by decide, by decide⟩ : I6 0), k _, k _⟩
theorem il3 {W : World} {q : Nat} (h : W.heap[q]? = some (.cells #[.int .i64 19, .int .i64 0] 47 (0, 0))) : Il (fun _ => True) W (.slice (some ⟨q, 0, none⟩) 1 1) cd3 := by
  refine ⟨_, 1, rfl, Nat.le_refl 1, by decide, fun _ => ⟨q, 0, rfl, trivial, fun i hi => ?_⟩⟩
  match i, hi with
  | 0, _ => exact ⟨(⟨by decide, by decide⟩ : I6 19), (⟨by decide, by decide⟩ : I6 0), by rw [cell_of_row W _ _ _ 47 (0, 0) h]; rfl, by rw [cell_of_row W _ _ _ 47 (0, 0) h]; rfl⟩
/-- A program in its variable. -/
structure Vr (N : Nat) (W : World) (t g : Nat) (vc : Value) (c : List Ins) : Prop where
  le : N ≤ t
  var : W.heap[t]? = some (.cells #[.slice (some ⟨g, 0, none⟩) 1 1, .slice none 0 0] 25 (0, 0))
  on : On N W g vc
  il : Il (fun _ => True) W vc c
section
variable {N : Nat} {W W' : World} {t g : Nat} {vc vk : Value} {c : List Ins}
theorem Vr.later (h : Vr N W t g vc c) (hb : Below W.heap.size W W') : Vr N W' t g vc c := ⟨h.le, (hb.block _ (lt_of_block h.var)).trans h.var, h.on.later hb, h.il.later hb⟩
theorem Vr.cells (h : Vr N W t g vc c) : W.cell? ⟨t, 0, none⟩ = some (.slice (some ⟨g, 0, none⟩) 1 1) ∧ W.cell? ⟨t, 1, none⟩ = some (.slice none 0 0) := by
  refine ⟨?_, ?_⟩ <;> rw [cell_of_row W _ _ _ 25 (0, 0) h.var] <;> rfl
theorem Vr.all (h : Vr N W t g vc c) : W.cell? ⟨t, 0, none⟩ = some (.slice (some ⟨g, 0, none⟩) 1 1) ∧ W.cell? ⟨t, 1, none⟩ = some (.slice none 0 0) ∧ W.cell? ⟨g, 4, none⟩ = some (.string ⟨#[115]⟩) ∧ W.cell? ⟨g, 5, none⟩ = some (.int .i64 0) ∧ W.cell? ⟨g, 6, none⟩ = some (.int .i64 0) ∧ W.cell? ⟨g, 7, none⟩ = some vc := ⟨h.cells.1, h.cells.2, h.on.cell⟩
theorem Vr.verify (h : Vr N W t g vc c) (hk : Kr W vk smK) (ht : Tb W) : Calls Tryd.prog 15 #[.agg #[.slice (some ⟨g, 0, none⟩) 1 1, .slice none 0 0], vk] W fun e w' => ∃ v o, e = .returned v ∧ Vo (onP c) smK o ∧ Flt w' v o ∧ Below W.heap.size W w' := verify_any (h.on.pgm h.il) hk ht
theorem rts_nil : Rts (fun _ => True) W (.slice none 0 0) [] := ⟨_, 0, rfl, Nat.le_refl 0, by decide, fun h0 => absurd h0 (Nat.lt_irrefl 0)⟩
theorem Vr.depths (h : Vr N W t g vc c) (ht : Tb W) : Calls Tryd.prog 9 #[.agg #[.slice (some ⟨g, 0, none⟩) 1 1, .slice none 0 0], .agg #[.string ⟨#[115]⟩, .int .i64 0, .int .i64 0, vc]] W fun e w' => ∃ v ve, e = .returned (.tuple #[v, ve]) ∧ DpsOut W.heap.size [] c w' v ve ∧ Below W.heap.size W w' := depthsof_any ⟨#[115]⟩ 0 0 ⟨_, _, _, rfl⟩ h.il rts_nil ht
/-- The depths that are wanted. -/
def Dw (N : Nat) (W : World) (g : Nat) : Prop := N ≤ g ∧ W.cell? ⟨g, 3, none⟩ = some (.int .i64 2) ∧ W.cell? ⟨g, 5, none⟩ = some (.int .i64 0)
theorem Dw.later (h : Dw N W g) (hb : Below W.heap.size W W') : Dw N W' g := ⟨h.1, (hb.cell (World.block_lt_of_cell? W _ h.2.1)).trans h.2.1, (hb.cell (World.block_lt_of_cell? W _ h.2.2)).trans h.2.2⟩
theorem Dw.mv {q : Nat} (h : Dw N W g) (hm : Mv W W' (fun k => k = q)) (hq : q < N) : Dw N W' g := ⟨h.1, hm.cell h.2.1 (fun e => by have := h.1; dsimp only at e; omega), hm.cell h.2.2 (fun e => by have := h.1; dsimp only at e; omega)⟩
theorem dps1 {v ve : Value} (h : DpsOut N [] cd1 W v ve) : ve = .nilIface ∧ ∃ g c, v = .slice (some ⟨g, 0, none⟩) 6 c ∧ 6 ≤ c ∧ c ≤ 9223372036854775807 ∧ Dw N W g := by
  rcases h with ⟨h, -⟩ | ⟨h, -⟩ | ⟨-, -, p, h, -⟩ | ⟨-, -, h, h1, h2⟩
  · exact absurd h (by decide)
  · cases h
  · cases (dp1 h).1
  · refine ⟨h1, ?_⟩
    obtain ⟨-, d3, d5⟩ := dp1 h
    have h3 := h2
    rcases h2.2 with ⟨-, e⟩ | ⟨g, cap, cur, rfl, hb, -⟩
    · cases e
    · obtain ⟨q1, q2⟩ := own_cap h3
      refine ⟨g, cap, rfl, q1, q2, hb, ?_, ?_⟩
      · rw [h3.cellAt 3 (by decide)]
        show some (Value.int .i64 (dpR [] cd1 3)) = _
        rw [d3]
      · rw [h3.cellAt 5 (by decide)]
        show some (Value.int .i64 (dpR [] cd1 5)) = _
        rw [d5]
end
set_option maxHeartbeats 8000000 in
theorem shown_any (W : World) (ht : Tb W) : Calls Tryd.prog 6 #[] W fun e w' => e = .returned (.bool true) ∧ Below W.heap.size W w' := by
  have HT : Hid (∀ V, Below W.heap.size W V → Tb V) := fun V hV => ht.later hV
  have JS := hide small_any
  have JO := hide one_any
  obtain ⟨w1, hw1⟩ : ∃ X, X = W.alloc (.cells #[.int .i64 24, .int .i64 0, .int .i64 4, .int .i64 8, .int .i64 4, .int .i64 16, .int .i64 6, .int .i64 0, .int .i64 5, .int .i64 8, .int .i64 23, .int .i64 0] 47) := ⟨_, rfl⟩
  have B1 := hide (hw1 ▸ below_alloc W _ : Below W.heap.size W w1)
  obtain ⟨q, hq⟩ : ∃ x, x = W.heap.size := ⟨_, rfl⟩
  have ic : Ic w1 q 8 := by rw [hq, hw1]; exact heap_alloc_new W _
  have HQ := hide hq
  have IC := hide ic
  have J1 := hide (JO.out w1 (some ⟨q, 0, none⟩) 6 6)
  clear ic ht
  go_enter Tryd.func6, Tryd.ntmps6
  go_wp2_with fail
  rw [← hw1, ← hq]
  clear hw1 hq
  refine J1.out.mono ?_
  rintro e w2 ⟨⟨g1, rfl, on1⟩, c2⟩
  obtain ⟨w3, hw3⟩ : ∃ X, X = w2.alloc (.cells #[.slice (some ⟨g1, 0, none⟩) 1 1, .slice none 0 0] 25) := ⟨_, rfl⟩
  obtain ⟨t1, ht1⟩ : ∃ x, x = w2.heap.size := ⟨_, rfl⟩
  have c3 : Below w2.heap.size w2 w3 := hw3 ▸ below_alloc w2 _
  have B3 := hide (below_on (below_on B1.out c2) c3)
  have ic3 : Ic w3 q 8 := ((below_on c2 c3).block _ (lt_of_block IC.out)).trans IC.out
  have vr3 : Vr w1.heap.size w3 t1 g1 (.slice (some ⟨q, 0, none⟩) 6 6) cd1 := ⟨by rw [ht1]; exact c2.size, by rw [ht1, hw3]; exact heap_alloc_new w2 _, on1.later c3, ic3.il ⟨by decide, by decide⟩⟩
  have IC3 := hide ic3
  have VR3 := hide vr3
  have DQ : Hid (q < w1.heap.size) := lt_of_block IC.out
  have NW : Hid (w1.heap.size ≤ w3.heap.size) := (below_on c2 c3).size
  clear J1 IC on1 c2 c3 ic3 vr3
  go_upto_region 2 with fail
  rw [← hw3, ← ht1]
  clear hw3 ht1
  have S3 : Hid (w3.drew.cell? ⟨t1, 0, none⟩ = some (.slice (some ⟨g1, 0, none⟩) 1 1) ∧ w3.drew.cell? ⟨t1, 1, none⟩ = some (.slice none 0 0)) := VR3.out.cells
  have J3 := hide (JS.out w3.drew)
  have JF1 : Hid (∀ V, Calls Tryd.prog 13 #[.nilIface] V fun e w' => e = .returned (.tuple #[.int .i64 0, .int .i64 0, .bool true]) ∧ Below V.heap.size V w') := fun V => lfault_any (o := none) rfl
  go_region_held3 (fun V => V.cell? ⟨t1, 0, none⟩ = some (.slice (some ⟨g1, 0, none⟩) 1 1) ∧ V.cell? ⟨t1, 1, none⟩ = some (.slice none 0 0)) (first | exact S3.out | exact S4 | exact S5 | exact S6) ((first | (go_at_call 21; refine J3.out.mono ?_; rintro e w4 ⟨⟨g4, rfl, k4⟩, b4⟩; have C4 := hide (below_on (below_drew w3) b4); have K4 := hide k4; have S4 := (VR3.out.later C4.out).cells; clear b4 k4) | (go_at_call 15; refine ((VR3.out.later C4.out).verify K4.out (HT.out _ (below_on B3.out C4.out))).mono ?_; rintro e w5 ⟨v5, o5, rfl, vo5, f5, b5⟩; obtain rfl := vo1 vo5; obtain rfl : v5 = .nilIface := f5; have C5 := hide (below_on C4.out b5); have S5 := (VR3.out.later C5.out).cells; clear b5 vo5) | (go_at_call 13; refine (JF1.out _).mono ?_; rintro e w6 ⟨rfl, b6⟩; have C6 := hide (below_on C5.out b6); have S6 := (VR3.out.later C6.out).cells; clear b6)))
  have IC6 : Hid (Ic w6 q 8) := (C6.out.block _ (lt_of_block IC3.out)).trans IC3.out
  have VR6 := hide (VR3.out.later C6.out)
  have B6 := hide (below_on B3.out C6.out)
  have N6 : Hid (w1.heap.size ≤ w6.heap.size) := Nat.le_trans NW.out C6.out.size
  clear S3 J3 K4 C4 S4 C5 S5 S6 C6 IC3 VR3 B3 NW
  go_upto_region 3 with fail
  have S6 : Hid (w6.drew.cell? ⟨t1, 0, none⟩ = some (.slice (some ⟨g1, 0, none⟩) 1 1) ∧ w6.drew.cell? ⟨t1, 1, none⟩ = some (.slice none 0 0) ∧ w6.drew.cell? ⟨g1, 4, none⟩ = some (.string ⟨#[115]⟩) ∧ w6.drew.cell? ⟨g1, 5, none⟩ = some (.int .i64 0) ∧ w6.drew.cell? ⟨g1, 6, none⟩ = some (.int .i64 0) ∧ w6.drew.cell? ⟨g1, 7, none⟩ = some (.slice (some ⟨q, 0, none⟩) 6 6)) := VR6.out.all
  have J6 := hide ((VR6.out.later (below_drew w6)).depths (HT.out _ (below_on B6.out (below_drew w6))))
  go_region_held3 (fun V => V.cell? ⟨t1, 0, none⟩ = some (.slice (some ⟨g1, 0, none⟩) 1 1) ∧ V.cell? ⟨t1, 1, none⟩ = some (.slice none 0 0) ∧ V.cell? ⟨g1, 4, none⟩ = some (.string ⟨#[115]⟩) ∧ V.cell? ⟨g1, 5, none⟩ = some (.int .i64 0) ∧ V.cell? ⟨g1, 6, none⟩ = some (.int .i64 0) ∧ V.cell? ⟨g1, 7, none⟩ = some (.slice (some ⟨q, 0, none⟩) 6 6)) (first | exact S6.out | exact S7) ((go_at_call 9; refine J6.out.mono ?_; rintro e w7 ⟨v7, ve7, rfl, d7, b7⟩; obtain ⟨rfl, gd, cd, rfl, hcd1, hcd2, dw7⟩ := dps1 d7; have C7 := hide (below_on (below_drew w6) b7); have DW7 := hide dw7; have S7 := (VR6.out.later C7.out).all; clear b7 d7 dw7))
  have B7 := hide (below_on B6.out C7.out)
  have ic7 : Ic w7 q 8 := (C7.out.block _ (lt_of_block IC6.out)).trans IC6.out
  have vr7 := VR6.out.later C7.out
  have dw7 : Dw w1.heap.size w7 gd := ⟨Nat.le_trans N6.out DW7.out.1, DW7.out.2⟩
  obtain ⟨w8, hw8⟩ : ∃ X, X = w7.setCell ⟨q, 9, none⟩ (.int .i64 16) := ⟨_, rfl⟩
  have m8 : Mv w7 w8 (fun k => k = q) := hw8 ▸ (Mv.refl w7 (fun k => k = q)).set (g := q) rfl 9 _
  have ic8 : Ic w8 q 16 := by rw [hw8]; exact heap_setCell_same w7 q 9 _ 47 (.int .i64 16) ic7
  have B8 : Hid (Below W.heap.size W w8) := B7.out.trans (m8.below B7.out.size (fun k e => by have := HQ.out; omega))
  have VR8 : Hid (Vr w1.heap.size w8 t1 g1 (.slice (some ⟨q, 0, none⟩) 6 6) cd2) := ⟨vr7.le, m8.at vr7.var (fun e => by have := vr7.le; have := DQ.out; omega), vr7.on.mv m8 DQ.out, ic8.il ⟨by decide, by decide⟩⟩
  have DW8 := hide (dw7.mv m8 DQ.out)
  have x9 : w7.cell? ⟨q, 9, none⟩ = some (.int .i64 8) := by rw [cell_of_row w7 _ _ _ 47 (0, 0) ic7]; rfl
  have xf : ∀ j, w7.frozen? ⟨q, j, none⟩ = false := fun j => frozen_of_row w7 q j _ 47 ic7
  obtain ⟨x0, -, -, -, -, x7⟩ := S7
  clear S6 J6 C7 DW7 IC6 VR6 B6 N6 vr7 dw7 m8 ic8 ic7 B7
  go_upto_region 5 with fail
  rw [← hw8]
  clear hw8 x0 x7 x9 xf
  have S8 : Hid (w8.drew.cell? ⟨t1, 0, none⟩ = some (.slice (some ⟨g1, 0, none⟩) 1 1) ∧ w8.drew.cell? ⟨t1, 1, none⟩ = some (.slice none 0 0)) := VR8.out.cells
  have J8 := hide (JS.out w8.drew)
  have JF2 : Hid (∀ V v, Flt V v (some (4, 152)) → Calls Tryd.prog 13 #[v] V fun e w' => e = .returned (.tuple #[.int .i64 4, .int .i64 152, .bool true]) ∧ Below V.heap.size V w') := fun V v h => lfault_any h
  go_region_held3 (fun V => V.cell? ⟨t1, 0, none⟩ = some (.slice (some ⟨g1, 0, none⟩) 1 1) ∧ V.cell? ⟨t1, 1, none⟩ = some (.slice none 0 0)) (first | exact S8.out | exact S9 | exact S10 | exact S11) ((first | (go_at_call 21; refine J8.out.mono ?_; rintro e w9 ⟨⟨g9, rfl, k9⟩, b9⟩; have C9 := hide (below_on (below_drew w8) b9); have K9 := hide k9; have S9 := (VR8.out.later C9.out).cells; clear b9 k9) | (go_at_call 15; refine ((VR8.out.later C9.out).verify K9.out (HT.out _ (below_on B8.out C9.out))).mono ?_; rintro e w10 ⟨v10, o10, rfl, vo10, f10, b10⟩; obtain rfl := vo2 vo10; obtain ⟨gy, rfl, ky⟩ := f10; have C10 := hide (below_on C9.out b10); have F10 : Hid (Flt w10 (.iface 73 (.pointer (some ⟨gy, 0, none⟩))) (some (4, 152))) := ⟨gy, rfl, ky⟩; have S10 := (VR8.out.later C10.out).cells; clear b10 vo10 ky) | (go_at_call 13; refine (JF2.out _ _ F10.out).mono ?_; rintro e w11 ⟨rfl, b11⟩; have C11 := hide (below_on C10.out b11); have S11 := (VR8.out.later C11.out).cells; clear b11)))
  have DW11 := hide (DW8.out.later C11.out)
  have B11 := hide (below_on B8.out C11.out)
  clear S8 J8 K9 C9 S9 C10 S10 S11 C11 VR8 B8 DW8 F10 JF2 JF1
  rename_i hHeld11
  clear hHeld11
  obtain ⟨w12, hw12⟩ : ∃ X, X = w11.alloc (.cells #[.int .i64 19, .int .i64 0] 47) := ⟨_, rfl⟩
  have c12 : Below w11.heap.size w11 w12 := hw12 ▸ below_alloc w11 _
  obtain ⟨q2, hq2⟩ : ∃ x, x = w11.heap.size := ⟨_, rfl⟩
  have ic12 : w12.heap[q2]? = some (.cells #[.int .i64 19, .int .i64 0] 47 (0, 0)) := by rw [hq2, hw12]; exact heap_alloc_new w11 _
  have DW12 := hide (DW11.out.later c12)
  have B12 := hide (below_on B11.out c12)
  have IC12 := hide ic12
  have J12 := hide (JO.out w12 (some ⟨q2, 0, none⟩) 1 1)
  clear ic12 c12 DW11 B11
  go_wp2_with fail
  rw [← hw12, ← hq2]
  clear hw12 hq2
  refine J12.out.mono ?_
  rintro e w13 ⟨⟨g3, rfl, on3⟩, c13⟩
  obtain ⟨w14, hw14⟩ : ∃ X, X = w13.alloc (.cells #[.slice (some ⟨g3, 0, none⟩) 1 1, .slice none 0 0] 25) := ⟨_, rfl⟩
  obtain ⟨t3, ht3⟩ : ∃ x, x = w13.heap.size := ⟨_, rfl⟩
  have c14 : Below w13.heap.size w13 w14 := hw14 ▸ below_alloc w13 _
  have c24 := below_on c13 c14
  have B14 := hide (below_on B12.out c24)
  have DW14 := hide (DW12.out.later c24)
  have VR14 : Hid (Vr w12.heap.size w14 t3 g3 (.slice (some ⟨q2, 0, none⟩) 1 1) cd3) := ⟨by rw [ht3]; exact c13.size, by rw [ht3, hw14]; exact heap_alloc_new w13 _, on3.later c14, il3 ((c24.block _ (lt_of_block IC12.out)).trans IC12.out)⟩
  clear J12 IC12 on3 c13 c14 c24 B12 DW12
  go_upto_region 7 with fail
  rw [← hw14, ← ht3]
  clear hw14 ht3
  have S14 : Hid (w14.drew.cell? ⟨t3, 0, none⟩ = some (.slice (some ⟨g3, 0, none⟩) 1 1) ∧ w14.drew.cell? ⟨t3, 1, none⟩ = some (.slice none 0 0)) := VR14.out.cells
  have J14 := hide (JS.out w14.drew)
  have JF3 : Hid (∀ V v, Flt V v (some (0, 153)) → Calls Tryd.prog 13 #[v] V fun e w' => e = .returned (.tuple #[.int .i64 0, .int .i64 153, .bool true]) ∧ Below V.heap.size V w') := fun V v h => lfault_any h
  go_region_held3 (fun V => V.cell? ⟨t3, 0, none⟩ = some (.slice (some ⟨g3, 0, none⟩) 1 1) ∧ V.cell? ⟨t3, 1, none⟩ = some (.slice none 0 0)) (first | exact S14.out | exact S15 | exact S16 | exact S17) ((first | (go_at_call 21; refine J14.out.mono ?_; rintro e w15 ⟨⟨g15, rfl, k15⟩, b15⟩; have C15 := hide (below_on (below_drew w14) b15); have K15 := hide k15; have S15 := (VR14.out.later C15.out).cells; clear b15 k15) | (go_at_call 15; refine ((VR14.out.later C15.out).verify K15.out (HT.out _ (below_on B14.out C15.out))).mono ?_; rintro e w16 ⟨v16, o16, rfl, vo16, f16, b16⟩; obtain rfl := vo3 vo16; obtain ⟨gz, rfl, kz⟩ := f16; have C16 := hide (below_on C15.out b16); have F16 : Hid (Flt w16 (.iface 73 (.pointer (some ⟨gz, 0, none⟩))) (some (0, 153))) := ⟨gz, rfl, kz⟩; have S16 := (VR14.out.later C16.out).cells; clear b16 vo16 kz) | (go_at_call 13; refine (JF3.out _ _ F16.out).mono ?_; rintro e w17 ⟨rfl, b17⟩; have C17 := hide (below_on C16.out b17); have S17 := (VR14.out.later C17.out).cells; clear b17)))
  rename_i hHeld17
  obtain ⟨-, d3, d5⟩ := DW14.out.later C17.out
  have B17 := hide (below_on B14.out C17.out)
  clear hHeld17 S14 J14 K15 C15 S15 C16 S16 S17 C17 VR14 B14 DW14 F16 JF3 JS JO HT DQ HQ
  go_wp2_with fail
  go_ret
  exact ⟨rfl, B17.out⟩
end Go.Proofs.YtklamaibinjcmaaDoor
