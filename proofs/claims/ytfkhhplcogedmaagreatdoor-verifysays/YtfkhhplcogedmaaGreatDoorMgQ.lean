import Derived.Test.YtfkhhplcogedmaaGreatDoorMgP
import Derived.Test.YtfkhhplcogedmaaGreatDoorVgF
/-
  Verify: the law's shown.
-/
namespace Go.Proofs.YtfkhhplcogedmaaGreatDoor
open Go.RowKit
set_option maxRecDepth 100000
/-- The instructions of the first two programs. -/
def Ic (W : World) (q : Nat) (x : Int) : Prop := W.heap[q]? = some (.cells #[.int .i64 24, .int .i64 0, .int .i64 4, .int .i64 8, .int .i64 4, .int .i64 16, .int .i64 6, .int .i64 0, .int .i64 5, .int .i64 x, .int .i64 23, .int .i64 0] 28 (0, 0))
theorem Ic.il {W : World} {q : Nat} {x : Int} (h : Ic W q x) (hx : I6 x) : Il (fun _ => True) W (.slice (some ⟨q, 0, none⟩) 6 6) [⟨24, 0⟩, ⟨4, 8⟩, ⟨4, 16⟩, ⟨6, 0⟩, ⟨5, x⟩, ⟨23, 0⟩] := by
  refine ⟨_, 6, rfl, Nat.le_refl 6, by decide, fun _ => ⟨q, 0, rfl, trivial, fun i hi => ?_⟩⟩
  have k : ∀ j, W.cell? ⟨q, j, none⟩ = (#[Value.int .i64 24, .int .i64 0, .int .i64 4, .int .i64 8, .int .i64 4, .int .i64 16, .int .i64 6, .int .i64 0, .int .i64 5, .int .i64 x, .int .i64 23, .int .i64 0] : Array Value)[j]? := fun j => cell_of_row W _ _ _ 28 (0, 0) h
  match i, hi with
  | 0, _ => exact ⟨(⟨by decide, by decide⟩ : I6 24), (⟨by decide, by decide⟩ : I6 0), k _, k _⟩
  | 1, _ => exact ⟨(⟨by decide, by decide⟩ : I6 4), (⟨by decide, by decide⟩ : I6 8), k _, k _⟩
  | 2, _ => exact ⟨(⟨by decide, by decide⟩ : I6 4), (⟨by decide, by decide⟩ : I6 16), k _, k _⟩
  | 3, _ => exact ⟨(⟨by decide, by decide⟩ : I6 6), (⟨by decide, by decide⟩ : I6 0), k _, k _⟩
  | 4, _ => exact ⟨(⟨by decide, by decide⟩ : I6 5), hx, k _, k _⟩
  | 5, _ => exact ⟨(⟨by decide, by decide⟩ : I6 23), (⟨by decide, by decide⟩ : I6 0), k _, k _⟩
theorem il3 {W : World} {q : Nat} (h : W.heap[q]? = some (.cells #[.int .i64 19, .int .i64 0] 28 (0, 0))) : Il (fun _ => True) W (.slice (some ⟨q, 0, none⟩) 1 1) cd3 := by
  refine ⟨_, 1, rfl, Nat.le_refl 1, by decide, fun _ => ⟨q, 0, rfl, trivial, fun i hi => ?_⟩⟩
  match i, hi with
  | 0, _ => exact ⟨(⟨by decide, by decide⟩ : I6 19), (⟨by decide, by decide⟩ : I6 0), by rw [cell_of_row W _ _ _ 28 (0, 0) h]; rfl, by rw [cell_of_row W _ _ _ 28 (0, 0) h]; rfl⟩
/-- A program in its variable. -/
structure Vr (N : Nat) (W : World) (t g : Nat) (vc : Value) (c : List Ins) : Prop where
  le : N ≤ t
  var : W.heap[t]? = some (.cells #[.slice (some ⟨g, 0, none⟩) 1 1, .slice none 0 0] 25 (0, 0))
  on : On N W g vc
  il : Il (fun _ => True) W vc c
section
variable {N : Nat} {W W' : World} {t g : Nat} {vc vk : Value} {c : List Ins}
theorem Vr.later (h : Vr N W t g vc c) (hb : Below W.heap.size W W') : Vr N W' t g vc c := ⟨h.le, (hb.block _ (lt_of_block h.var)).trans h.var, h.on.later hb, h.il.later hb⟩
theorem Vr.cells (h : Vr N W t g vc c) : W.cell? ⟨t, 0, none⟩ = some (.slice (some ⟨g, 0, none⟩) 1 1) ∧ W.cell? ⟨t, 1, none⟩ = some (.slice none 0 0) := by
  refine ⟨?_, ?_⟩ <;> rw [cell_of_row W _ _ _ 25 (0, 0) h.var] <;> rfl
theorem Vr.all (h : Vr N W t g vc c) : W.cell? ⟨t, 0, none⟩ = some (.slice (some ⟨g, 0, none⟩) 1 1) ∧ W.cell? ⟨t, 1, none⟩ = some (.slice none 0 0) ∧ W.cell? ⟨g, 4, none⟩ = some (.string ⟨#[115]⟩) ∧ W.cell? ⟨g, 5, none⟩ = some (.int .i64 0) ∧ W.cell? ⟨g, 6, none⟩ = some (.int .i64 0) ∧ W.cell? ⟨g, 7, none⟩ = some vc := ⟨h.cells.1, h.cells.2, h.on.cell⟩
theorem Vr.verify (h : Vr N W t g vc c) (hk : Kr W vk smK) (ht : Tb W) : Calls Tryz.prog 10 #[.agg #[.slice (some ⟨g, 0, none⟩) 1 1, .slice none 0 0], vk] W fun e w' => ∃ v o, e = .returned v ∧ Vo (onP c) smK o ∧ Flt w' v o ∧ Below W.heap.size W w' := verify_any (h.on.pgm h.il) hk ht
theorem rts_nil : Rts (fun _ => True) W (.slice none 0 0) [] := ⟨_, 0, rfl, Nat.le_refl 0, by decide, fun h0 => absurd h0 (Nat.lt_irrefl 0)⟩
theorem Vr.depths (h : Vr N W t g vc c) (ht : Tb W) : Calls Tryz.prog 12 #[.agg #[.slice (some ⟨g, 0, none⟩) 1 1, .slice none 0 0], .agg #[.string ⟨#[115]⟩, .int .i64 0, .int .i64 0, vc]] W fun e w' => ∃ v ve, e = .returned (.tuple #[v, ve]) ∧ DpsOut W.heap.size [] c w' v ve ∧ Below W.heap.size W w' := depthsof_any ⟨#[115]⟩ 0 0 ⟨_, _, _, rfl⟩ h.il rts_nil ht
/-- The depths that are wanted. -/
def Dw (N : Nat) (W : World) (g : Nat) : Prop := N ≤ g ∧ W.cell? ⟨g, 3, none⟩ = some (.int .i64 2) ∧ W.cell? ⟨g, 5, none⟩ = some (.int .i64 0)
theorem Dw.later (h : Dw N W g) (hb : Below W.heap.size W W') : Dw N W' g := ⟨h.1, (hb.cell (World.block_lt_of_cell? W _ h.2.1)).trans h.2.1, (hb.cell (World.block_lt_of_cell? W _ h.2.2)).trans h.2.2⟩
theorem Dw.mv {q : Nat} (h : Dw N W g) (hm : Mv W W' (fun k => k = q)) (hq : q < N) : Dw N W' g := ⟨h.1, hm.cell h.2.1 (fun e => by have := h.1; dsimp only at e; omega), hm.cell h.2.2 (fun e => by have := h.1; dsimp only at e; omega)⟩
theorem dps1 {v ve : Value} (h : DpsOut N [] cd1 W v ve) : ve = .nilIface ∧ ∃ g c, v = .slice (some ⟨g, 0, none⟩) 6 c ∧ 6 ≤ c ∧ c ≤ 9223372036854775807 ∧ Dw N W g := by
  rcases h with ⟨h, -⟩ | ⟨h, -⟩ | ⟨-, -, p, h, -⟩ | ⟨-, -, h, h1, h2⟩
  · exact absurd h (by decide)
  · cases h
  · cases (dp1 h).1
  · refine ⟨h1, ?_⟩
    obtain ⟨-, d3, d5⟩ := dp1 h
    have h3 := h2
    rcases h2.2 with ⟨-, e⟩ | ⟨g, cap, cur, rfl, hb, -⟩
    · cases e
    · obtain ⟨q1, q2⟩ := own_cap h3
      refine ⟨g, cap, rfl, q1, q2, hb, ?_, ?_⟩
      · rw [h3.cellAt 3 (by decide)]
        show some (Value.int .i64 (dpR [] cd1 3)) = _
        rw [d3]
      · rw [h3.cellAt 5 (by decide)]
        show some (Value.int .i64 (dpR [] cd1 5)) = _
        rw [d5]
end
set_option maxHeartbeats 8000000 in
theorem shown_any (W : World) (ht : Tb W) : Calls Tryz.prog 4 #[] W fun e w' => e = .returned (.bool true) ∧ Below W.heap.size W w' := by
  have HT : Hid (∀ V, Below W.heap.size W V → Tb V) := fun V hV => ht.later hV
  have JS := hide small_any
  have JO := hide one_any
  obtain ⟨w1, hw1⟩ : ∃ X, X = W.alloc (.cells #[.int .i64 24, .int .i64 0, .int .i64 4, .int .i64 8, .int .i64 4, .int .i64 16, .int .i64 6, .int .i64 0, .int .i64 5, .int .i64 8, .int .i64 23, .int .i64 0] 28) := ⟨_, rfl⟩
  have B1 := hide (hw1 ▸ below_alloc W _ : Below W.heap.size W w1)
  obtain ⟨q, hq⟩ : ∃ x, x = W.heap.size := ⟨_, rfl⟩
  have ic : Ic w1 q 8 := by rw [hq, hw1]; exact heap_alloc_new W _
  have HQ := hide hq
  have IC := hide ic
  have J1 := hide (JO.out w1 (some ⟨q, 0, none⟩) 6 6)
  clear ic ht
  go_enter Tryz.func4, Tryz.ntmps4
  go_wp2_with fail
  rw [← hw1, ← hq]
  clear hw1 hq
  refine J1.out.mono ?_
  rintro e w2 ⟨⟨g1, rfl, on1⟩, c2⟩
  obtain ⟨w3, hw3⟩ : ∃ X, X = w2.alloc (.cells #[.slice (some ⟨g1, 0, none⟩) 1 1, .slice none 0 0] 25) := ⟨_, rfl⟩
  obtain ⟨t1, ht1⟩ : ∃ x, x = w2.heap.size := ⟨_, rfl⟩
  have c3 : Below w2.heap.size w2 w3 := hw3 ▸ below_alloc w2 _
  have B3 := hide (below_on (below_on B1.out c2) c3)
  have ic3 : Ic w3 q 8 := ((below_on c2 c3).block _ (lt_of_block IC.out)).trans IC.out
  have vr3 : Vr w1.heap.size w3 t1 g1 (.slice (some ⟨q, 0, none⟩) 6 6) cd1 := ⟨by rw [ht1]; exact c2.size, by rw [ht1, hw3]; exact heap_alloc_new w2 _, on1.later c3, ic3.il ⟨by decide, by decide⟩⟩
  have IC3 := hide ic3
  have VR3 := hide vr3
  have DQ : Hid (q < w1.heap.size) := lt_of_block IC.out
  have NW : Hid (w1.heap.size ≤ w3.heap.size) := (below_on c2 c3).size
  clear J1 IC on1 c2 c3 ic3 vr3
  go_upto_region 2 with fail
  rw [← hw3, ← ht1]
  clear hw3 ht1
  have S3 : Hid (w3.drew.cell? ⟨t1, 0, none⟩ = some (.slice (some ⟨g1, 0, none⟩) 1 1) ∧ w3.drew.cell? ⟨t1, 1, none⟩ = some (.slice none 0 0)) := VR3.out.cells
  have J3 := hide (JS.out w3.drew)
  have JF1 : Hid (∀ V, Calls Tryz.prog 9 #[.nilIface] V fun e w' => e = .returned (.tuple #[.int .i64 0, .int .i64 0, .bool true]) ∧ Below V.heap.size V w') := fun V => lfault_any (o := none) rfl
  go_region_held3 (fun V => V.cell? ⟨t1, 0, none⟩ = some (.slice (some ⟨g1, 0, none⟩) 1 1) ∧ V.cell? ⟨t1, 1, none⟩ = some (.slice none 0 0)) (first | exact S3.out | exact S4 | exact S5 | exact S6) ((first | (go_at_call 11; refine J3.out.mono ?_; rintro e w4 ⟨⟨g4, rfl, k4⟩, b4⟩; have C4 := hide (below_on (below_drew w3) b4); have K4 := hide k4; have S4 := (VR3.out.later C4.out).cells; clear b4 k4) | (go_at_call 10; refine ((VR3.out.later C4.out).verify K4.out (HT.out _ (below_on B3.out C4.out))).mono ?_; rintro e w5 ⟨v5, o5, rfl, vo5, f5, b5⟩; obtain rfl := vo1 vo5; obtain rfl : v5 = .nilIface := f5; have C5 := hide (below_on C4.out b5); have S5 := (VR3.out.later C5.out).cells; clear b5 vo5) | (go_at_call 9; refine (JF1.out _).mono ?_; rintro e w6 ⟨rfl, b6⟩; have C6 := hide (below_on C5.out b6); have S6 := (VR3.out.later C6.out).cells; clear b6)))
  have IC6 : Hid (Ic w6 q 8) := (C6.out.block _ (lt_of_block IC3.out)).trans IC3.out
  have VR6 := hide (VR3.out.later C6.out)
  have B6 := hide (below_on B3.out C6.out)
  have N6 : Hid (w1.heap.size ≤ w6.heap.size) := Nat.le_trans NW.out C6.out.size
  clear S3 J3 K4 C4 S4 C5 S5 S6 C6 IC3 VR3 B3 NW
  go_upto_region 3 with fail
  have S6 : Hid (w6.drew.cell? ⟨t1, 0, none⟩ = some (.slice (some ⟨g1, 0, none⟩) 1 1) ∧ w6.drew.cell? ⟨t1, 1, none⟩ = some (.slice none 0 0) ∧ w6.drew.cell? ⟨g1, 4, none⟩ = some (.string ⟨#[115]⟩) ∧ w6.drew.cell? ⟨g1, 5, none⟩ = some (.int .i64 0) ∧ w6.drew.cell? ⟨g1, 6, none⟩ = some (.int .i64 0) ∧ w6.drew.cell? ⟨g1, 7, none⟩ = some (.slice (some ⟨q, 0, none⟩) 6 6)) := VR6.out.all
  have J6 := hide ((VR6.out.later (below_drew w6)).depths (HT.out _ (below_on B6.out (below_drew w6))))
  go_region_held3 (fun V => V.cell? ⟨t1, 0, none⟩ = some (.slice (some ⟨g1, 0, none⟩) 1 1) ∧ V.cell? ⟨t1, 1, none⟩ = some (.slice none 0 0) ∧ V.cell? ⟨g1, 4, none⟩ = some (.string ⟨#[115]⟩) ∧ V.cell? ⟨g1, 5, none⟩ = some (.int .i64 0) ∧ V.cell? ⟨g1, 6, none⟩ = some (.int .i64 0) ∧ V.cell? ⟨g1, 7, none⟩ = some (.slice (some ⟨q, 0, none⟩) 6 6)) (first | exact S6.out | exact S7) ((go_at_call 12; refine J6.out.mono ?_; rintro e w7 ⟨v7, ve7, rfl, d7, b7⟩; obtain ⟨rfl, gd, cd, rfl, hcd1, hcd2, dw7⟩ := dps1 d7; have C7 := hide (below_on (below_drew w6) b7); have DW7 := hide dw7; have S7 := (VR6.out.later C7.out).all; clear b7 d7 dw7))
  have B7 := hide (below_on B6.out C7.out)
  have ic7 : Ic w7 q 8 := (C7.out.block _ (lt_of_block IC6.out)).trans IC6.out
  have vr7 := VR6.out.later C7.out
  have dw7 : Dw w1.heap.size w7 gd := ⟨Nat.le_trans N6.out DW7.out.1, DW7.out.2⟩
  obtain ⟨w8, hw8⟩ : ∃ X, X = w7.setCell ⟨q, 9, none⟩ (.int .i64 16) := ⟨_, rfl⟩
  have m8 : Mv w7 w8 (fun k => k = q) := hw8 ▸ (Mv.refl w7 (fun k => k = q)).set (g := q) rfl 9 _
  have ic8 : Ic w8 q 16 := by rw [hw8]; exact heap_setCell_same w7 q 9 _ 28 (.int .i64 16) ic7
  have B8 : Hid (Below W.heap.size W w8) := B7.out.trans (m8.below B7.out.size (fun k e => by have := HQ.out; omega))
  have VR8 : Hid (Vr w1.heap.size w8 t1 g1 (.slice (some ⟨q, 0, none⟩) 6 6) cd2) := ⟨vr7.le, m8.at vr7.var (fun e => by have := vr7.le; have := DQ.out; omega), vr7.on.mv m8 DQ.out, ic8.il ⟨by decide, by decide⟩⟩
  have DW8 := hide (dw7.mv m8 DQ.out)
  have x9 : w7.cell? ⟨q, 9, none⟩ = some (.int .i64 8) := by rw [cell_of_row w7 _ _ _ 28 (0, 0) ic7]; rfl
  have xf : ∀ j, w7.frozen? ⟨q, j, none⟩ = false := fun j => frozen_of_row w7 q j _ 28 ic7
  obtain ⟨x0, -, -, -, -, x7⟩ := S7
  clear S6 J6 C7 DW7 IC6 VR6 B6 N6 vr7 dw7 m8 ic8 ic7 B7
  go_upto_region 5 with fail
  rw [← hw8]
  clear hw8 x0 x7 x9 xf
  have S8 : Hid (w8.drew.cell? ⟨t1, 0, none⟩ = some (.slice (some ⟨g1, 0, none⟩) 1 1) ∧ w8.drew.cell? ⟨t1, 1, none⟩ = some (.slice none 0 0)) := VR8.out.cells
  have J8 := hide (JS.out w8.drew)
  have JF2 : Hid (∀ V v, Flt V v (some (4, 152)) → Calls Tryz.prog 9 #[v] V fun e w' => e = .returned (.tuple #[.int .i64 4, .int .i64 152, .bool true]) ∧ Below V.heap.size V w') := fun V v h => lfault_any h
  go_region_held3 (fun V => V.cell? ⟨t1, 0, none⟩ = some (.slice (some ⟨g1, 0, none⟩) 1 1) ∧ V.cell? ⟨t1, 1, none⟩ = some (.slice none 0 0)) (first | exact S8.out | exact S9 | exact S10 | exact S11) ((first | (go_at_call 11; refine J8.out.mono ?_; rintro e w9 ⟨⟨g9, rfl, k9⟩, b9⟩; have C9 := hide (below_on (below_drew w8) b9); have K9 := hide k9; have S9 := (VR8.out.later C9.out).cells; clear b9 k9) | (go_at_call 10; refine ((VR8.out.later C9.out).verify K9.out (HT.out _ (below_on B8.out C9.out))).mono ?_; rintro e w10 ⟨v10, o10, rfl, vo10, f10, b10⟩; obtain rfl := vo2 vo10; obtain ⟨gy, rfl, ky⟩ := f10; have C10 := hide (below_on C9.out b10); have F10 : Hid (Flt w10 (.iface 57 (.pointer (some ⟨gy, 0, none⟩))) (some (4, 152))) := ⟨gy, rfl, ky⟩; have S10 := (VR8.out.later C10.out).cells; clear b10 vo10 ky) | (go_at_call 9; refine (JF2.out _ _ F10.out).mono ?_; rintro e w11 ⟨rfl, b11⟩; have C11 := hide (below_on C10.out b11); have S11 := (VR8.out.later C11.out).cells; clear b11)))
  have DW11 := hide (DW8.out.later C11.out)
  have B11 := hide (below_on B8.out C11.out)
  clear S8 J8 K9 C9 S9 C10 S10 S11 C11 VR8 B8 DW8 F10 JF2 JF1
  rename_i hHeld11
  clear hHeld11
  obtain ⟨w12, hw12⟩ : ∃ X, X = w11.alloc (.cells #[.int .i64 19, .int .i64 0] 28) := ⟨_, rfl⟩
  have c12 : Below w11.heap.size w11 w12 := hw12 ▸ below_alloc w11 _
  obtain ⟨q2, hq2⟩ : ∃ x, x = w11.heap.size := ⟨_, rfl⟩
  have ic12 : w12.heap[q2]? = some (.cells #[.int .i64 19, .int .i64 0] 28 (0, 0)) := by rw [hq2, hw12]; exact heap_alloc_new w11 _
  have DW12 := hide (DW11.out.later c12)
  have B12 := hide (below_on B11.out c12)
  have IC12 := hide ic12
  have J12 := hide (JO.out w12 (some ⟨q2, 0, none⟩) 1 1)
  clear ic12 c12 DW11 B11
  go_wp2_with fail
  rw [← hw12, ← hq2]
  clear hw12 hq2
  refine J12.out.mono ?_
  rintro e w13 ⟨⟨g3, rfl, on3⟩, c13⟩
  obtain ⟨w14, hw14⟩ : ∃ X, X = w13.alloc (.cells #[.slice (some ⟨g3, 0, none⟩) 1 1, .slice none 0 0] 25) := ⟨_, rfl⟩
  obtain ⟨t3, ht3⟩ : ∃ x, x = w13.heap.size := ⟨_, rfl⟩
  have c14 : Below w13.heap.size w13 w14 := hw14 ▸ below_alloc w13 _
  have c24 := below_on c13 c14
  have B14 := hide (below_on B12.out c24)
  have DW14 := hide (DW12.out.later c24)
  have VR14 : Hid (Vr w12.heap.size w14 t3 g3 (.slice (some ⟨q2, 0, none⟩) 1 1) cd3) := ⟨by rw [ht3]; exact c13.size, by rw [ht3, hw14]; exact heap_alloc_new w13 _, on3.later c14, il3 ((c24.block _ (lt_of_block IC12.out)).trans IC12.out)⟩
  clear J12 IC12 on3 c13 c14 c24 B12 DW12
  go_upto_region 7 with fail
  rw [← hw14, ← ht3]
  clear hw14 ht3
  have S14 : Hid (w14.drew.cell? ⟨t3, 0, none⟩ = some (.slice (some ⟨g3, 0, none⟩) 1 1) ∧ w14.drew.cell? ⟨t3, 1, none⟩ = some (.slice none 0 0)) := VR14.out.cells
  have J14 := hide (JS.out w14.drew)
  have JF3 : Hid (∀ V v, Flt V v (some (0, 153)) → Calls Tryz.prog 9 #[v] V fun e w' => e = .returned (.tuple #[.int .i64 0, .int .i64 153, .bool true]) ∧ Below V.heap.size V w') := fun V v h => lfault_any h
  go_region_held3 (fun V => V.cell? ⟨t3, 0, none⟩ = some (.slice (some ⟨g3, 0, none⟩) 1 1) ∧ V.cell? ⟨t3, 1, none⟩ = some (.slice none 0 0)) (first | exact S14.out | exact S15 | exact S16 | exact S17) ((first | (go_at_call 11; refine J14.out.mono ?_; rintro e w15 ⟨⟨g15, rfl, k15⟩, b15⟩; have C15 := hide (below_on (below_drew w14) b15); have K15 := hide k15; have S15 := (VR14.out.later C15.out).cells; clear b15 k15) | (go_at_call 10; refine ((VR14.out.later C15.out).verify K15.out (HT.out _ (below_on B14.out C15.out))).mono ?_; rintro e w16 ⟨v16, o16, rfl, vo16, f16, b16⟩; obtain rfl := vo3 vo16; obtain ⟨gz, rfl, kz⟩ := f16; have C16 := hide (below_on C15.out b16); have F16 : Hid (Flt w16 (.iface 57 (.pointer (some ⟨gz, 0, none⟩))) (some (0, 153))) := ⟨gz, rfl, kz⟩; have S16 := (VR14.out.later C16.out).cells; clear b16 vo16 kz) | (go_at_call 9; refine (JF3.out _ _ F16.out).mono ?_; rintro e w17 ⟨rfl, b17⟩; have C17 := hide (below_on C16.out b17); have S17 := (VR14.out.later C17.out).cells; clear b17)))
  rename_i hHeld17
  obtain ⟨-, d3, d5⟩ := DW14.out.later C17.out
  have B17 := hide (below_on B14.out C17.out)
  clear hHeld17 S14 J14 K15 C15 S15 C16 S16 S17 C17 VR14 B14 DW14 F16 JF3 JS JO HT DQ HQ
  go_wp2_with fail
  go_ret
  exact ⟨rfl, B17.out⟩
end Go.Proofs.YtfkhhplcogedmaaGreatDoor

/-
  Verify: the document's own reckoning of depths, plain.
-/
namespace Go.Proofs.YtfkhhplcogedmaaGreatDoor
/-- What the document calls next. -/
def nextD (c : List Ins) (p : Nat) : List Int :=
  if (iat c p).op = 22 ∨ (iat c p).op = 23 then [] else if (iat c p).op = 19 then (if thereI c (iat c p).a then [(iat c p).a] else []) else if (iat c p).op = 20 then (if thereI c (iat c p).a then [(iat c p).a, (p : Int) + 1] else [(p : Int) + 1]) else [(p : Int) + 1]
theorem nextD_nn {c : List Ins} {p : Nat} : ∀ x ∈ nextD c p, 0 ≤ x ∧ x ≤ (c.length : Int) + p + 1 := fun x hx => by
  unfold nextD thereI at hx
  repeat' split at hx
  all_goals (try simp only [decide_eq_true_eq] at *)
  all_goals (simp only [List.mem_cons, List.not_mem_nil, or_false] at hx)
  all_goals (try omega)
theorem nextD_len (c : List Ins) (p : Nat) : (nextD c p).length ≤ 2 := by
  unfold nextD
  repeat' split
  all_goals simp
theorem onwI_iff {c : List Ins} {p y : Nat} : y ∈ onwI c p ↔ (y : Int) ∈ nextI c p ∧ y < c.length := by
  unfold onwI
  rw [List.mem_map]
  constructor
  · rintro ⟨x, hx, rfl⟩
    obtain ⟨h1, h2⟩ := List.mem_filter.1 hx
    rw [decide_eq_true_iff] at h2
    have e : ((x.toNat : Nat) : Int) = x := by omega
    rw [e]
    exact ⟨h1, by omega⟩
  · rintro ⟨h1, h2⟩
    exact ⟨(y : Int), List.mem_filter.2 ⟨h1, decide_eq_true ⟨by omega, by omega⟩⟩, by omega⟩
theorem onwD_iff {c : List Ins} {p y : Nat} : y ∈ onwI c p ↔ (y : Int) ∈ nextD c p ∧ y < c.length := by
  rw [onwI_iff]
  constructor
  · rintro ⟨h1, h2⟩
    refine ⟨?_, h2⟩
    unfold nextI at h1
    unfold nextD thereI
    by_cases a1 : (iat c p).op = 22 ∨ (iat c p).op = 23
    · rw [if_pos a1] at h1
      cases h1
    · rw [if_neg a1] at h1 ⊢
      by_cases a2 : (iat c p).op = 20
      · rw [if_pos a2] at h1
        rw [if_neg (by omega), if_pos a2]
        simp only [List.mem_cons, List.not_mem_nil, or_false] at h1
        rcases h1 with h1 | h1
        · split <;> simp [h1]
        · rw [if_pos (by rw [decide_eq_true_iff]; omega)]
          simp [h1]
      · rw [if_neg a2] at h1
        by_cases a3 : (iat c p).op = 19
        · rw [if_pos a3] at h1 ⊢
          simp only [List.mem_cons, List.not_mem_nil, or_false] at h1
          rw [if_pos (by rw [decide_eq_true_iff]; omega)]
          simp [h1]
        · rw [if_neg a3] at h1 ⊢
          rw [if_neg a2]
          exact h1
  · rintro ⟨h1, h2⟩
    refine ⟨?_, h2⟩
    unfold nextD thereI at h1
    unfold nextI
    by_cases a1 : (iat c p).op = 22 ∨ (iat c p).op = 23
    · rw [if_pos a1] at h1
      cases h1
    · rw [if_neg a1] at h1 ⊢
      by_cases a2 : (iat c p).op = 20
      · rw [if_pos a2]
        rw [if_neg (by omega), if_pos a2] at h1
        split at h1
        · simp only [List.mem_cons, List.not_mem_nil, or_false] at h1 ⊢
          omega
        · simp only [List.mem_cons, List.not_mem_nil, or_false] at h1 ⊢
          omega
      · rw [if_neg a2]
        by_cases a3 : (iat c p).op = 19
        · rw [if_pos a3] at h1 ⊢
          split at h1
          · exact h1
          · cases h1
        · rw [if_neg a3] at h1 ⊢
          rw [if_neg a2] at h1
          exact h1
theorem onw_less {c : List Ins} {p : Nat} : (onwI c p).length < (nextI c p).length ↔ ∃ x ∈ nextI c p, ¬ (0 ≤ x ∧ x < (c.length : Int)) := by
  unfold onwI
  rw [List.length_map]
  have hle := List.length_filter_le (fun x : Int => decide (0 ≤ x ∧ x < (c.length : Int))) (nextI c p)
  constructor
  · intro h
    apply Classical.byContradiction
    intro hc
    have : ((nextI c p).filter fun x : Int => decide (0 ≤ x ∧ x < (c.length : Int))).length = (nextI c p).length := List.length_filter_eq_length_iff.2 (fun x hx => decide_eq_true (Classical.byContradiction fun e => hc ⟨x, hx, e⟩))
    omega
  · rintro ⟨x, hx, hn⟩
    apply Classical.byContradiction
    intro hc
    have := List.length_filter_eq_length_iff.1 (show ((nextI c p).filter fun x : Int => decide (0 ≤ x ∧ x < (c.length : Int))).length = (nextI c p).length by omega) x hx
    exact hn (of_decide_eq_true this)
theorem endD_iff {c : List Ins} {p : Nat} (hj : (isJ (iat c p) && !thereI c (iat c p).a) = false) : (onwI c p).length < (nextI c p).length ↔ ∃ x ∈ nextD c p, (c.length : Int) ≤ x := by
  rw [onw_less]
  have hj' : ((iat c p).op = 19 ∨ (iat c p).op = 20) → 0 ≤ (iat c p).a ∧ (iat c p).a < (c.length : Int) := fun e => by
    unfold isJ thereI at hj
    rw [decide_eq_true e] at hj
    simp at hj
    omega
  unfold nextI nextD thereI
  by_cases a1 : (iat c p).op = 22 ∨ (iat c p).op = 23
  · rw [if_pos a1, if_pos a1]
    simp
  · rw [if_neg a1, if_neg a1]
    by_cases a2 : (iat c p).op = 20
    · have := hj' (.inr a2)
      rw [if_pos a2, if_neg (by omega), if_pos a2, if_pos (by rw [decide_eq_true_iff]; omega)]
      simp only [List.mem_cons, List.not_mem_nil, or_false, exists_eq_or_imp, exists_eq_left]
      omega
    · rw [if_neg a2]
      by_cases a3 : (iat c p).op = 19
      · have := hj' (.inl a3)
        rw [if_pos a3, if_pos a3, if_pos (by rw [decide_eq_true_iff]; omega)]
        simp only [List.mem_cons, List.not_mem_nil, or_false, exists_eq_left]
        omega
      · rw [if_neg a3, if_neg a3, if_neg a2]
        simp only [List.mem_cons, List.not_mem_nil, or_false, exists_eq_left]
        omega
/-- A table of places and depths, one more of them told. -/
def putT (T : Nat → Nat → Bool) (p d : Nat) : Nat → Nat → Bool := fun q e => T q e || (decide (q = p) && decide (e = d))
theorem putT_iff {T : Nat → Nat → Bool} {p d q e : Nat} : putT T p d q e = true ↔ T q e = true ∨ (q = p ∧ e = d) := by
  unfold putT
  simp
def unT (T : Nat → Nat → Bool) (p k : Nat) : Nat := ((List.range k).filter fun d => !T p d).length
theorem unT_succ (T : Nat → Nat → Bool) (p k : Nat) : unT T p (k + 1) = unT T p k + if T p k then 0 else 1 := by
  unfold unT
  rw [List.range_succ, List.filter_append, List.length_append]
  cases h : T p k <;> simp [h]
theorem unT_le (T : Nat → Nat → Bool) (p k : Nat) : unT T p k ≤ k := by
  unfold unT
  exact Nat.le_trans (List.length_filter_le _ _) (by simp)
theorem unT_put {T : Nat → Nat → Bool} {p d : Nat} (h : T p d = false) : ∀ k, unT (putT T p d) p k + (if d < k then 1 else 0) = unT T p k
  | 0 => by simp [unT]
  | k + 1 => by
    have ih := unT_put h k
    rw [unT_succ, unT_succ]
    by_cases e : k = d
    · subst e
      have h1 : putT T p k p k = true := putT_iff.2 (.inr ⟨rfl, rfl⟩)
      rw [h1, h]
      simp at ih ⊢
      omega
    · have h1 : putT T p d p k = T p k := by unfold putT; simp [e]
      rw [h1]
      have h2 : (d < k + 1) ↔ d < k := by omega
      simp only [h2]
      omega
theorem unT_other {T : Nat → Nat → Bool} {p d q k : Nat} (h : q ≠ p) : unT (putT T p d) q k = unT T q k := by
  unfold unT putT
  simp [h]
section
variable {fs : List Rt} {c : List Ins}
/-- What the document's search holds. -/
structure Dke (fs : List Rt) (c : List Ins) (T : Nat → Nat → Bool) (op : List (Nat × Nat)) : Prop where
  sound : ∀ p d, T p d = true → Rch fs c p d
  osound : ∀ m ∈ op, T m.1 m.2 = true
  first : T 0 0 = true
  next : ∀ p d, T p d = true → (p, d) ∈ op ∨ ∀ m ∈ momI fs c p d, T m.1 m.2 = true
/-- Within a turn of it: the places that are still to be looked at. -/
structure Dje (fs : List Rt) (c : List Ins) (T : Nat → Nat → Bool) (op : List (Nat × Nat)) (p d b : Nat) (ys : List Int) : Prop where
  sound : ∀ p d, T p d = true → Rch fs c p d
  osound : ∀ m ∈ op, T m.1 m.2 = true
  first : T 0 0 = true
  next : ∀ p' d', T p' d' = true → (p', d') ∈ op ∨ (∀ m ∈ momI fs c p' d', T m.1 m.2 = true) ∨ (p' = p ∧ d' = d)
  cur : ∀ m ∈ momI fs c p d, T m.1 m.2 = true ∨ (m.1 : Int) ∈ ys
  beh : behI fs c p d = some b
  here : Rch fs c p d
  sub : ∀ y ∈ ys, 0 ≤ y ∧ (y < c.length → y.toNat ∈ onwI c p)
def Tz0 : Nat → Nat → Bool := fun p d => decide (p = 0) && decide (d = 0)
theorem Dke.init : Dke fs c Tz0 [(0, 0)] where
  sound := fun p d h => by
    simp [Tz0] at h
    obtain ⟨rfl, rfl⟩ := h
    exact Rch.zero
  osound := fun m hm => by rw [List.mem_singleton.1 hm]; rfl
  first := rfl
  next := fun p d h => by
    simp [Tz0] at h
    obtain ⟨rfl, rfl⟩ := h
    exact .inl (by simp)
theorem Dke.none {T : Nat → Nat → Bool} {op : List (Nat × Nat)} {p d : Nat} (h : Dke fs c T ((p, d) :: op)) (hb : behI fs c p d = none) : Dke fs c T op where
  sound := h.sound
  osound := fun m hm => h.osound m (by simp [hm])
  first := h.first
  next := fun p' d' hT => by
    rcases h.next p' d' hT with e | e
    · rw [List.mem_cons, Prod.mk.injEq] at e
      rcases e with ⟨rfl, rfl⟩ | e
      · refine .inr fun m hm => ?_
        unfold momI at hm
        rw [hb] at hm
        cases hm
      · exact .inl e
    · exact .inr e
theorem Dke.enter {T : Nat → Nat → Bool} {op : List (Nat × Nat)} {p d b : Nat} (h : Dke fs c T ((p, d) :: op)) (hb : behI fs c p d = some b) : Dje fs c T op p d b (nextD c p) where
  sound := h.sound
  osound := fun m hm => h.osound m (by simp [hm])
  first := h.first
  next := fun p' d' hT => by
    rcases h.next p' d' hT with e | e
    · rw [List.mem_cons, Prod.mk.injEq] at e
      rcases e with e | e
      · exact .inr (.inr e)
      · exact .inl e
    · exact .inr (.inl e)
  cur := fun m hm => .inr (onwD_iff.1 (momI_mem hm).2).1
  beh := hb
  here := h.sound p d (h.osound (p, d) (by simp))
  sub := fun y hy => ⟨(nextD_nn y hy).1, fun h2 => onwD_iff.2 ⟨by have := (nextD_nn y hy).1; rw [show ((y.toNat : Nat) : Int) = y by omega]; exact hy, by have := (nextD_nn y hy).1; omega⟩⟩
theorem Dje.skip {T : Nat → Nat → Bool} {op : List (Nat × Nat)} {p d b : Nat} {y : Int} {ys : List Int} (h : Dje fs c T op p d b (y :: ys)) (hy : (c.length : Int) ≤ y ∨ T y.toNat b = true) : Dje fs c T op p d b ys where
  sound := h.sound
  osound := h.osound
  first := h.first
  next := h.next
  cur := fun m hm => by
    rcases h.cur m hm with e | e
    · exact .inl e
    · rw [List.mem_cons] at e
      rcases e with e | e
      · obtain ⟨h1, h2⟩ := momI_mem hm
        have hlt := onwI_lt h2
        rcases hy with hy | hy
        · omega
        · left
          have hb := h.beh
          rw [h1] at hb
          obtain rfl : m.2 = b := by injection hb
          rw [← e] at hy
          exact hy
      · exact .inr e
  beh := h.beh
  here := h.here
  sub := fun z hz => h.sub z (by simp [hz])
theorem Dje.put {T : Nat → Nat → Bool} {op : List (Nat × Nat)} {p d b : Nat} {y : Int} {ys : List Int} (h : Dje fs c T op p d b (y :: ys)) (hy : y < (c.length : Int)) : Dje fs c (putT T y.toNat b) (op ++ [(y.toNat, b)]) p d b ys where
  sound := fun q e he => by
    rcases putT_iff.1 he with he | ⟨rfl, rfl⟩
    · exact h.sound q e he
    · exact h.here.on h.beh ((h.sub y (by simp)).2 hy)
  osound := fun m hm => by
    rw [List.mem_append, List.mem_singleton] at hm
    rcases hm with hm | rfl
    · exact putT_iff.2 (.inl (h.osound m hm))
    · exact putT_iff.2 (.inr ⟨rfl, rfl⟩)
  first := putT_iff.2 (.inl h.first)
  next := fun q e he => by
    rcases putT_iff.1 he with he | ⟨rfl, rfl⟩
    · rcases h.next q e he with x | x | x
      · exact .inl (by simp [x])
      · exact .inr (.inl fun m hm => putT_iff.2 (.inl (x m hm)))
      · exact .inr (.inr x)
    · exact .inl (by simp)
  cur := fun m hm => by
    rcases h.cur m hm with e | e
    · exact .inl (putT_iff.2 (.inl e))
    · rw [List.mem_cons] at e
      rcases e with e | e
      · left
        obtain ⟨h1, h2⟩ := momI_mem hm
        have hb := h.beh
        rw [h1] at hb
        refine putT_iff.2 (.inr ⟨by omega, by injection hb⟩)
      · exact .inr e
  beh := h.beh
  here := h.here
  sub := fun z hz => h.sub z (by simp [hz])
theorem Dje.leave {T : Nat → Nat → Bool} {op : List (Nat × Nat)} {p d b : Nat} (h : Dje fs c T op p d b []) : Dke fs c T op where
  sound := h.sound
  osound := h.osound
  first := h.first
  next := fun q e he => by
    rcases h.next q e he with x | x | ⟨rfl, rfl⟩
    · exact .inl x
    · exact .inr x
    · refine .inr fun m hm => ?_
      rcases h.cur m hm with x | x
      · exact x
      · cases x
theorem Dke.done {T : Nat → Nat → Bool} (h : Dke fs c T []) {p d : Nat} : T p d = true ↔ Rch fs c p d := by
  have all : ∀ k p d, rch fs c k p d → T p d = true := by
    intro k
    induction k with
    | zero =>
      rintro p d ⟨rfl, rfl⟩
      exact h.first
    | succ k ih =>
      rintro p d ⟨p', d', h1, h2, h3⟩
      rcases h.next p' d' (ih p' d' h1) with e | e
      · cases e
      · exact e (p, d) (momI_of h2 h3)
  exact ⟨h.sound p d, fun ⟨k, hk⟩ => all k p d hk⟩
/-- How much is left to do. -/
def dkM (c : List Ins) (T : Nat → Nat → Bool) (op : List (Nat × Nat)) : Nat := 2 * sumU c.length (fun p => unT T p 65) + op.length
theorem dkM_put {T : Nat → Nat → Bool} {op : List (Nat × Nat)} {p d : Nat} (hp : p < c.length) (hd : d < 65) (h : T p d = false) : dkM c (putT T p d) (op ++ [(p, d)]) + 1 = dkM c T op := by
  unfold dkM
  have := sumU_less (n := c.length) (x := p) (c := 1) (f := fun p => unT T p 65) (g := fun q => unT (putT T p d) q 65) hp (fun y hy => (unT_other hy).symm) (by have := unT_put h 65; rw [if_pos hd] at this; exact this)
  rw [List.length_append, List.length_singleton]
  omega
theorem dkM_le (T : Nat → Nat → Bool) (op : List (Nat × Nat)) : dkM c T op ≤ 130 * c.length + op.length := by
  have h : ∀ n, sumU n (fun p => unT T p 65) ≤ n * 65 := by
    intro n
    induction n with
    | zero => simp [sumU]
    | succ n ih =>
      rw [sumU_succ]
      have := unT_le T n 65
      omega
  have := h c.length
  unfold dkM
  omega
/-- How many depths of a place are told, of the first so many. -/
def cnT (T : Nat → Bool) (k : Nat) : Nat := ((List.range k).filter fun d => T d).length
theorem cnT_succ (T : Nat → Bool) (k : Nat) : cnT T (k + 1) = cnT T k + if T k then 1 else 0 := by
  unfold cnT
  rw [List.range_succ, List.filter_append, List.length_append]
  cases h : T k <;> simp [h]
theorem cnT_zero {T : Nat → Bool} : ∀ {k : Nat}, cnT T k = 0 ↔ ∀ d, d < k → T d = false
  | 0 => by simp [cnT]
  | k + 1 => by
    rw [cnT_succ]
    have ih := cnT_zero (T := T) (k := k)
    constructor
    · intro h d hd
      have h1 : cnT T k = 0 := by omega
      by_cases e : d = k
      · subst e
        cases hT : T d with
        | false => rfl
        | true => rw [hT] at h; simp at h
      · exact ih.1 h1 d (by omega)
    · intro h
      rw [ih.2 (fun d hd => h d (by omega)), h k (by omega)]
      rfl
theorem cnT_two {T : Nat → Bool} : ∀ {k : Nat}, 1 < cnT T k ↔ ∃ a b, a < k ∧ b < k ∧ a ≠ b ∧ T a = true ∧ T b = true
  | 0 => by simp [cnT]
  | k + 1 => by
    have ih := cnT_two (T := T) (k := k)
    have iz := cnT_zero (T := T) (k := k)
    rw [cnT_succ]
    cases hT : T k with
    | false =>
      simp only [Bool.false_eq_true, if_false, Nat.add_zero]
      rw [ih]
      constructor
      · rintro ⟨a, b, h1, h2, h3⟩
        exact ⟨a, b, by omega, by omega, h3⟩
      · rintro ⟨a, b, h1, h2, h3, h4, h5⟩
        refine ⟨a, b, ?_, ?_, h3, h4, h5⟩
        · by_cases e : a = k
          · subst e; rw [hT] at h4; cases h4
          · omega
        · by_cases e : b = k
          · subst e; rw [hT] at h5; cases h5
          · omega
    | true =>
      simp only [if_true]
      constructor
      · intro h
        have : ¬ cnT T k = 0 := by omega
        rw [iz] at this
        obtain ⟨d, hd⟩ := Classical.not_forall.1 this
        obtain ⟨hd1, hd2⟩ := Classical.not_imp.1 hd
        exact ⟨d, k, by omega, by omega, by omega, by simpa using hd2, hT⟩
      · rintro ⟨a, b, h1, h2, h3, h4, h5⟩
        have : ¬ cnT T k = 0 := fun e => by
          rw [iz] at e
          by_cases x : a = k
          · have := e b (by omega)
            rw [h5] at this
            cases this
          · have := e a (by omega)
            rw [h4] at this
            cases this
        omega
theorem cnT_le (T : Nat → Bool) (k : Nat) : cnT T k ≤ k := by
  unfold cnT
  exact Nat.le_trans (List.length_filter_le _ _) (by simp)
/-- The stack is wrong there, by the table. -/
theorem bad_iff {T : Nat → Nat → Bool} (hT : ∀ p d, T p d = true ↔ Rch fs c p d) (h0 : 0 < c.length) (p : Nat) : Bad fs c p ↔ (∃ d, d < 65 ∧ T p d = true ∧ behI fs c p d = none) ∨ 1 < cnT (T p) 65 := by
  unfold Bad
  rw [cnT_two]
  constructor
  · rintro (⟨d, h1, h2⟩ | ⟨d, d', h1, h2, h3⟩)
    · exact .inl ⟨d, by have := (h1.lt h0).2; omega, (hT p d).2 h1, h2⟩
    · exact .inr ⟨d, d', by have := (h1.lt h0).2; omega, by have := (h2.lt h0).2; omega, h3, (hT p d).2 h1, (hT p d').2 h2⟩
  · rintro (⟨d, -, h1, h2⟩ | ⟨d, d', -, -, h3, h1, h2⟩)
    · exact .inl ⟨d, (hT p d).1 h1, h2⟩
    · exact .inr ⟨d, d', (hT p d).1 h1, (hT p d').1 h2, h3⟩
/-- The least depth from k on that is told, or none: as the document looks for it, from 64 downwards. -/
def lowT (T : Nat → Bool) : Nat → Nat → Int
  | 0, _ => -1
  | n + 1, k => if T k then (k : Int) else lowT T n (k + 1)
/-- What Depths answers: the place, the error, the depths. -/
def DA (fs : List Rt) (c : List Ins) (at_ er : Int) (l : List Int) : Prop :=
  (2000 < c.length ∧ at_ = 0 ∧ er = 130 ∧ l = []) ∨ (c = [] ∧ at_ = 0 ∧ er = 153 ∧ l = []) ∨
  (c.length ≤ 2000 ∧ c ≠ [] ∧ ∃ p, Dpo 150 151 153 fs c (some p) ∧ at_ = (p : Int) ∧ er = wrR 150 151 153 fs c p ∧ l = []) ∨
  (c.length ≤ 2000 ∧ c ≠ [] ∧ Dpo 150 151 153 fs c none ∧ at_ = 0 ∧ er = 0 ∧ l = (List.range c.length).map fun p => dpR fs c p)
theorem DA.unique {a e a' e' : Int} {l l' : List Int} (h : DA fs c a e l) (h' : DA fs c a' e' l') : a = a' ∧ e = e' ∧ l = l' := by
  have hz : ∀ {x : List Ins}, x = [] → ¬ 2000 < x.length := fun e => by subst e; simp
  rcases h with ⟨h1, h2, h3, h4⟩ | ⟨h1, h2, h3, h4⟩ | ⟨h1, h0, p, hp, h2, h3, h4⟩ | ⟨h1, h0, hp, h2, h3, h4⟩ <;> rcases h' with ⟨k1, k2, k3, k4⟩ | ⟨k1, k2, k3, k4⟩ | ⟨k1, k0, p', kp, k2, k3, k4⟩ | ⟨k1, k0, kp, k2, k3, k4⟩
  · exact ⟨h2.trans k2.symm, h3.trans k3.symm, h4.trans k4.symm⟩
  · exact absurd h1 (hz k1)
  · omega
  · omega
  · exact absurd k1 (hz h1)
  · exact ⟨h2.trans k2.symm, h3.trans k3.symm, h4.trans k4.symm⟩
  · exact absurd h1 k0
  · exact absurd h1 k0
  · omega
  · exact absurd k1 h0
  · have e := Fst.unique hp kp (fun i _ => Iff.rfl)
    injection e with e
    subst e
    exact ⟨h2.trans k2.symm, h3.trans k3.symm, h4.trans k4.symm⟩
  · cases Fst.unique hp kp (fun i _ => Iff.rfl)
  · omega
  · exact absurd k1 h0
  · cases Fst.unique hp kp (fun i _ => Iff.rfl)
  · exact ⟨h2.trans k2.symm, h3.trans k3.symm, h4.trans k4.symm⟩
theorem wrR_mem (p : Nat) : wrR 150 151 153 fs c p = 150 ∨ wrR 150 151 153 fs c p = 151 ∨ wrR 150 151 153 fs c p = 153 ∨ wrR 150 151 153 fs c p = 0 := by
  unfold wrR
  repeat' split
  all_goals simp
theorem dpR_le (h0 : 0 < c.length) (p : Nat) : -1 ≤ dpR fs c p ∧ dpR fs c p ≤ 64 := by
  unfold dpR
  split
  next h =>
    have := (h.choose_spec.lt h0).2
    omega
  next => omega
theorem DA.len {a e : Int} {l : List Int} (h : DA fs c a e l) : l.length ≤ 2000 ∧ (0 ≤ a ∧ a ≤ 2000) ∧ (e = 0 ∨ e = 130 ∨ e = 150 ∨ e = 151 ∨ e = 153) ∧ ∀ x ∈ l, -1 ≤ x ∧ x ≤ 64 := by
  rcases h with ⟨h1, rfl, rfl, rfl⟩ | ⟨rfl, rfl, rfl, rfl⟩ | ⟨h1, h0, p, hp, rfl, rfl, rfl⟩ | ⟨h1, h0, hp, rfl, rfl, rfl⟩
  · exact ⟨by simp, by omega, by omega, fun x hx => by cases hx⟩
  · exact ⟨by simp, by omega, by omega, fun x hx => by cases hx⟩
  · have := hp.1
    exact ⟨by simp, by omega, by have := wrR_mem (fs := fs) (c := c) p; omega, fun x hx => by cases hx⟩
  · refine ⟨by simpa using h1, by omega, by omega, fun x hx => ?_⟩
    obtain ⟨p, -, rfl⟩ := List.mem_map.1 hx
    exact dpR_le (List.length_pos_iff.2 h0) p
theorem DA.err {a e : Int} {l : List Int} (h : DA fs c a e l) : (e = 0 ∧ a = 0) ∨ (e ≠ 0 ∧ l = []) := by
  rcases h with ⟨h1, rfl, rfl, rfl⟩ | ⟨rfl, rfl, rfl, rfl⟩ | ⟨h1, h0, p, hp, rfl, rfl, rfl⟩ | ⟨h1, h0, hp, rfl, rfl, rfl⟩
  · exact .inr ⟨by omega, rfl⟩
  · exact .inr ⟨by omega, rfl⟩
  · exact .inr ⟨hp.2.1.2, rfl⟩
  · exact .inl ⟨rfl, rfl⟩
end
end Go.Proofs.YtfkhhplcogedmaaGreatDoor
