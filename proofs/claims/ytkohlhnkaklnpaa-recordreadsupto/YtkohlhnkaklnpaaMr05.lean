import Derived.Test.YtkohlhnkaklnpaaMr01
import Derived.Test.YtkohlhnkaklnpaaMr04
import Derived.Maps.AppendAt
import Derived.Laws.OwnMore
import Derived.Below
import Derived.RowKit
/-
  record.Get: the record that bytes begin with.
-/
namespace Go.Proofs.Ytkohlhnkaklnpaa
open Go.RowKit

/-- Bytes of the call's own, with no room behind them. -/
def Piece (w : World) (B : Nat) (v : Value) (l : List UInt8) : Prop :=
  (v = .slice none 0 0 ∧ l = []) ∨ ∃ g o cur, v = .slice (some ⟨g, o, none⟩) l.length l.length ∧ B ≤ g ∧ l ≠ [] ∧ l.length ≤ maxLen ∧ w.heap[g]? = some (.cells cur 5 (0, 0)) ∧ ∀ j (hj : j < l.length), cur[o + j]? = some (.int .u8 (l[j]).toNat)
theorem Piece.bs {w : World} {B : Nat} {v : Value} {l : List UInt8} (h : Piece w B v l) : Bs w v l := by
  rcases h with ⟨rfl, rfl⟩ | ⟨g, o, cur, rfl, _, _, hm, hg, hc⟩
  · exact Bs.nil w
  · exact Bs.row (Nat.le_refl _) hm (fun j hj => by rw [cell_of_row w g _ _ 5 (0, 0) hg]; exact hc j hj)
theorem Piece.nilOr {w : World} {B : Nat} {v : Value} {l : List UInt8} (h : Piece w B v l) : NilOr v := by
  rcases h with ⟨rfl, _⟩ | ⟨g, o, cur, rfl, _⟩
  · exact .inl rfl
  · exact .inr ⟨_, _, _, rfl⟩

/-- 'append(p.head, p.data...)': no room behind the head: new memory. -/
theorem run_summed (w : World) (g o : Nat) (b : List UInt8) (hw : Rc.whole b) (hcell : ∀ j (hj : j < b.length), w.cell? ⟨g, o + j, none⟩ = some (.int .u8 (b[j]).toNat)) :
    ∃ (G : Nat) (C : Array Value), 1 + Rc.siz b + Rc.num b ≤ G ∧ G ≤ maxLen ∧ C.size = G ∧ C.toList.take (1 + Rc.siz b + Rc.num b) = Lib.byteCells (b.take (1 + Rc.siz b) ++ Rc.data b) ∧
      ∀ ty, (Builtin.append_ #[22, 22] ty #[.slice (some ⟨g, o, none⟩) (1 + Rc.siz b) (1 + Rc.siz b), .slice (some ⟨g, o + (1 + Rc.siz b + 4), none⟩) (Rc.num b) (Rc.num b)]).run Try.prog w =
        .ok (.slice (some ⟨w.heap.size, 0, none⟩) (1 + Rc.siz b + Rc.num b) G) (w.drew.alloc (.cells C 5)) := by
  obtain ⟨i0, hi, hz0, hz1, hz2⟩ := info_parts info5
  obtain ⟨_, hn0, hn1, hall⟩ := id hw
  have hs := Rc.siz_ten b
  have hdl := Rc.data_length hw
  have htl : (b.take (1 + Rc.siz b)).length = 1 + Rc.siz b := by simp; omega
  have h1 : ∀ j v, (Lib.byteCells (b.take (1 + Rc.siz b)))[j]? = some v → w.cell? ((⟨g, o, none⟩ : Addr).add j) = some v := fun j v hj => by
    obtain ⟨hjl, rfl⟩ := byteCells_at hj
    rw [htl] at hjl
    rw [show (⟨g, o, none⟩ : Addr).add j = ⟨g, o + j, none⟩ by simp [Addr.add], hcell j (by omega), List.getElem_take]
  have h2 : ∀ j v, (Lib.byteCells (Rc.data b))[j]? = some v → w.cell? ((⟨g, o + (1 + Rc.siz b + 4), none⟩ : Addr).add j) = some v := fun j v hj => by
    obtain ⟨hjl, rfl⟩ := byteCells_at hj
    rw [show (⟨g, o + (1 + Rc.siz b + 4), none⟩ : Addr).add j = ⟨g, o + (1 + Rc.siz b + 4) + j, none⟩ by simp [Addr.add], Nat.add_assoc o, hcell _ (by omega)]
    simp [Rc.data]
  have hr := fun ty => run_append_grow (P := Try.prog) (w := w) 22 ty 5 i0 (.int .u8 0) Try.underlying22 hi hz0 ⟨g, o, none⟩ (1 + Rc.siz b) (1 + Rc.siz b) (Lib.byteCells (b.take (1 + Rc.siz b))) (by rw [Lib.byteCells_length, hz1]; omega) h1
    ⟨g, o + (1 + Rc.siz b + 4), none⟩ (Rc.num b) (Rc.num b) (Lib.byteCells (Rc.data b)) (by rw [Lib.byteCells_length, hz1]; omega) h2 (by omega) (by omega) (growslice_fits (by omega) (by rw [hz2]; omega))
  have hge := grownCap_ge w (1 + Rc.siz b + Rc.num b) (1 + Rc.siz b) 5
  refine ⟨_, _, hge, grownCap_le_maxLen w _ _ 5 (by unfold maxLen; omega), ?_, ?_, hr⟩
  · have hz : (Value.int .u8 0).cells.size = 1 := rfl
    simp only [Array.size_append, List.size_toArray, Lib.byteCells_length, htl, hdl, Builtin.zeroCells, hz, Array.size_map, Array.size_range]
    omega
  · rw [Lib.byteCells_append]
    simp only [Array.toList_append]
    rw [List.take_append_of_le_length (by simp [Lib.byteCells_length]; omega), List.take_of_length_le (by simp [Lib.byteCells_length]; omega)]

theorem ret_tup {v : Value} {a b : Int} (h : a = b) : Ending.returned (.tuple #[v, .int .i64 a]) = .returned (.tuple #[v, .int .i64 b]) := by rw [h]
theorem piece_at {w : World} {B g : Nat} {b : List UInt8} {C : Array Value} (hw : Rc.whole b) (hB : B ≤ g) (hg : w.heap[g]? = some (.cells C 5 (0, 0))) (hC : C.toList.take (1 + Rc.siz b + Rc.num b) = Lib.byteCells (b.take (1 + Rc.siz b) ++ Rc.data b)) :
    Piece w B (.slice (some ⟨g, 1 + Rc.siz b, none⟩) (1 + Rc.siz b + Rc.num b - (1 + Rc.siz b)) (1 + Rc.siz b + Rc.num b - (1 + Rc.siz b))) (Rc.data b) := by
  have hdl := Rc.data_length hw
  have h1 := hw.2.1
  have h2 := hw.2.2.1
  have hall := hw.2.2.2
  have htl : (b.take (1 + Rc.siz b)).length = 1 + Rc.siz b := by simp; omega
  refine .inr ⟨g, 1 + Rc.siz b, C, by rw [hdl, Nat.add_sub_cancel_left], hB, fun e => h1 (by rw [← hdl, e]; rfl), by unfold maxLen; omega, hg, fun j hj => ?_⟩
  have h4 : (C.toList.take (1 + Rc.siz b + Rc.num b))[1 + Rc.siz b + j]? = some (.int .u8 ((Rc.data b)[j]).toNat) := by
    rw [hC]
    simp only [Lib.byteCells, List.getElem?_map]
    rw [List.getElem?_append_right (by omega), htl, Nat.add_sub_cancel_left, List.getElem?_eq_getElem hj]
    rfl
  rw [List.getElem?_take, if_pos (by omega)] at h4
  rw [← h4]
  simp

set_option maxHeartbeats 4000000 in
set_option maxRecDepth 100000 in
theorem rget_any (v : Value) (b : List UInt8) (w : World) (h : Bs w v b) :
    Calls Try.prog 18 #[v] w fun e w' => ∃ v', e = .returned (.tuple #[v', .int .i64 (Rc.get b).2]) ∧ Piece w' w.heap.size v' (Rc.get b).1 ∧ Below w.heap.size w w' := by
  have hc := cut_any v b w h
  have HC := hide hc
  clear hc
  have HB := hide h
  obtain ⟨av, cv, rfl, _, _, h3⟩ := h
  have H3 := hide h3
  clear h3
  go_enter Try.func18, Try.ntmps18
  go_wp2_with fail
  refine HC.out.mono ?_
  rintro e w1 ⟨⟨hw, g, o, c, hv, rfl⟩ | ⟨hw, rfl⟩, hb1⟩
  · unfold partsOf
    simp only [Value.slice.injEq] at hv
    obtain ⟨rfl, _, rfl⟩ := hv
    have hcw : ∀ j (hj : j < b.length), w.cell? ⟨g, o + j, none⟩ = some (.int .u8 (b[j]).toNat) := fun j hj => by
      obtain ⟨g', o', e, hc⟩ := H3.out j hj
      cases e
      exact hc
    have hpl : 0 < b.length := by have := hw.2.2.2; omega
    have hglt := World.block_lt_of_cell? w _ (hcw 0 hpl)
    have hb2 : Below w.heap.size w (w1.alloc (.cells (partsOf g o b) 58)) := hb1.alloc hb1.size _
    have hc2 : ∀ j (hj : j < b.length), (w1.alloc (.cells (partsOf g o b) 58)).cell? ⟨g, o + j, none⟩ = some (.int .u8 (b[j]).toNat) := fun j hj => (hb2.cell (p := ⟨g, o + j, none⟩) hglt).trans (hcw j hj)
    obtain ⟨G, C, hG1, hG2, hCs, hCt, hrun⟩ := run_summed (w1.alloc (.cells (partsOf g o b) 58)) g o b hw hc2
    have HRUN := hide hrun
    clear hrun HC
    go_wp2_with (at_builtin; refine Lib.wpList_append_run _ rfl _ _ _ _ rfl _ _ rfl rfl _ _ (HRUN.out _) ?_)
    have hn0 := hw.2.1
    have hn1 := hw.2.2.1
    have hall := hw.2.2.2
    have hs10 := Rc.siz_ten b
    have hdl := Rc.data_length hw
    obtain ⟨x0, x1, x2, x3, e4⟩ : ∃ x0 x1 x2 x3 : UInt8, Rc.sum4 (b.take (1 + Rc.siz b) ++ Rc.data b) = [x0, x1, x2, x3] := ⟨_, _, _, _, rfl⟩
    have e5 : (b.drop (1 + Rc.siz b)).take 4 = [b[1 + Rc.siz b], b[1 + Rc.siz b + 1], b[1 + Rc.siz b + 2], b[1 + Rc.siz b + 3]] := by
      apply List.ext_getElem
      · simp; omega
      · intro j hj _
        have hj4 : j < 4 := by simp at hj; omega
        rcases (show j = 0 ∨ j = 1 ∨ j = 2 ∨ j = 3 by omega) with rfl | rfl | rfl | rfl <;> simp
    have hr2 : (((w1.alloc (.cells (partsOf g o b) 58)).alloc (.cells C 5)).drew).heap[w1.heap.size]? = some (.cells (partsOf g o b) 58 (0, 0)) := (heap_alloc_old (w1.alloc (.cells (partsOf g o b) 58)) _ (by simp)).trans (heap_alloc_new w1 _)
    have hr3 : (((w1.alloc (.cells (partsOf g o b) 58)).alloc (.cells C 5)).drew).heap[w1.heap.size + 1]? = some (.cells C 5 (0, 0)) := by
      have := heap_alloc_new (w1.alloc (.cells (partsOf g o b) 58)) (.cells C 5)
      rwa [show (w1.alloc (.cells (partsOf g o b) 58)).heap.size = w1.heap.size + 1 by simp] at this
    have hb3 : Below w.heap.size w (((w1.alloc (.cells (partsOf g o b) 58)).alloc (.cells C 5)).drew) := (hb2.alloc hb2.size _).drew
    have hs2 : (((w1.alloc (.cells (partsOf g o b) 58)).alloc (.cells C 5)).drew).heap.size = w1.heap.size + 1 + 1 := by simp
    have hs1 := hb1.size
    have HC5 := hide hr3
    have hbs2 : Bs (((w1.alloc (.cells (partsOf g o b) 58)).alloc (.cells C 5)).drew) (.slice (some ⟨w1.heap.size + 1, 0, none⟩) (1 + Rc.siz b + Rc.num b) G) (b.take (1 + Rc.siz b) ++ Rc.data b) := by
      have hl : (b.take (1 + Rc.siz b) ++ Rc.data b).length = 1 + Rc.siz b + Rc.num b := by simp; omega
      have := Bs.row (w := ((w1.alloc (.cells (partsOf g o b) 58)).alloc (.cells C 5)).drew) (g := w1.heap.size + 1) (o := 0) (c := G) (l := b.take (1 + Rc.siz b) ++ Rc.data b) (by omega) hG2 (fun j hj => by
        rw [Nat.zero_add, cell_of_row _ _ j _ 5 (0, 0) hr3]
        have h4 : (C.toList.take (1 + Rc.siz b + Rc.num b))[j]? = some (.int .u8 ((b.take (1 + Rc.siz b) ++ Rc.data b)[j]).toNat) := by
          rw [hCt]
          simp only [Lib.byteCells, List.getElem?_map]
          rw [List.getElem?_eq_getElem hj]
          rfl
        rw [List.getElem?_take, if_pos (by omega)] at h4
        rw [← h4]
        simp)
      rwa [hl] at this
    have hc3 : ∀ j (hj : j < b.length), (((w1.alloc (.cells (partsOf g o b) 58)).alloc (.cells C 5)).drew).cell? ⟨g, o + j, none⟩ = some (.int .u8 (b[j]).toNat) := fun j hj => (hb3.cell (p := ⟨g, o + j, none⟩) hglt).trans (hcw j hj)
    have hp1 : (((w1.alloc (.cells (partsOf g o b) 58)).alloc (.cells C 5)).drew).cell? ⟨w1.heap.size, 1, none⟩ = some (.slice (some ⟨g, o + (1 + Rc.siz b), none⟩) 4 4) := by rw [cell_of_row _ _ 1 _ 58 (0, 0) hr2]; rfl
    have hp0 : (((w1.alloc (.cells (partsOf g o b) 58)).alloc (.cells C 5)).drew).cell? ⟨w1.heap.size, 0, none⟩ = some (.slice (some ⟨g, o, none⟩) (1 + Rc.siz b) (1 + Rc.siz b)) := by rw [cell_of_row _ _ 0 _ 58 (0, 0) hr2]; rfl
    generalize ((w1.alloc (.cells (partsOf g o b) 58)).alloc (.cells C 5)).drew = w2 at *
    obtain ⟨s0, s1, s2, s3, e6, k0, k1, k2, k3⟩ : ∃ s0 s1 s2 s3 : UInt8, (b.drop (1 + Rc.siz b)).take 4 = [s0, s1, s2, s3] ∧ w2.cell? ⟨g, o + (1 + Rc.siz b), none⟩ = some (.int .u8 s0.toNat) ∧ w2.cell? ⟨g, o + (1 + Rc.siz b) + 1, none⟩ = some (.int .u8 s1.toNat) ∧ w2.cell? ⟨g, o + (1 + Rc.siz b) + 2, none⟩ = some (.int .u8 s2.toNat) ∧ w2.cell? ⟨g, o + (1 + Rc.siz b) + 3, none⟩ = some (.int .u8 s3.toNat) :=
      ⟨_, _, _, _, e5, hc3 (1 + Rc.siz b) (by omega), hc3 (1 + Rc.siz b + 1) (by omega), hc3 (1 + Rc.siz b + 2) (by omega), hc3 (1 + Rc.siz b + 3) (by omega)⟩
    have hsum : Calls Try.prog 23 #[.slice (some ⟨w1.heap.size + 1, 0, none⟩) (1 + Rc.siz b + Rc.num b) G] w2.drew fun e w3 => e = .returned (.agg #[.int .u8 x0.toNat, .int .u8 x1.toNat, .int .u8 x2.toNat, .int .u8 x3.toNat]) ∧ Hid (Below w2.heap.size w2 w3) ∧ w3.cell? ⟨w1.heap.size, 1, none⟩ = some (.slice (some ⟨g, o + (1 + Rc.siz b), none⟩) 4 4) ∧ w3.cell? ⟨w1.heap.size, 0, none⟩ = some (.slice (some ⟨g, o, none⟩) (1 + Rc.siz b) (1 + Rc.siz b)) ∧
        w3.cell? ⟨g, o + (1 + Rc.siz b), none⟩ = some (.int .u8 s0.toNat) ∧ w3.cell? ⟨g, o + (1 + Rc.siz b) + 1, none⟩ = some (.int .u8 s1.toNat) ∧ w3.cell? ⟨g, o + (1 + Rc.siz b) + 2, none⟩ = some (.int .u8 s2.toNat) ∧ w3.cell? ⟨g, o + (1 + Rc.siz b) + 3, none⟩ = some (.int .u8 s3.toNat) := by
      refine (sumOf_any _ _ w2.drew (hbs2.below (Below.refl _ _).drew (Nat.le_refl _))).mono ?_
      rintro e w3 ⟨he, hb4⟩
      rw [e4] at he
      have hb5 : Below w2.heap.size w2 w3 := ((Below.refl w2.heap.size w2).drew).trans hb4
      have hg2 : g < w2.heap.size := by have := hb3.size; omega
      exact ⟨he, hb5, (hb5.cell (p := ⟨w1.heap.size, 1, none⟩) (by show w1.heap.size < w2.heap.size; omega)).trans hp1, (hb5.cell (p := ⟨w1.heap.size, 0, none⟩) (by show w1.heap.size < w2.heap.size; omega)).trans hp0, (hb5.cell (p := ⟨g, _, none⟩) hg2).trans k0, (hb5.cell (p := ⟨g, _, none⟩) hg2).trans k1, (hb5.cell (p := ⟨g, _, none⟩) hg2).trans k2, (hb5.cell (p := ⟨g, _, none⟩) hg2).trans k3⟩
    have HSUM := hide hsum
    have q4 := run_neq4
    have hat : ∀ w, (Instr.arrayAt 49 (.slice (some ⟨g, o + (1 + Rc.siz b), none⟩) 4 4)).run Try.prog w = .ok (.pointer (some ⟨g, o + (1 + Rc.siz b), none⟩)) w := fun w => by simp [Instr.arrayAt, run_underlying Try.underlying49]
    clear e5 hsum hbs2 hc3 hc2 hcw HRUN hr2 hr3 H3
    by_cases heq : (((x0.toNat : Int) == (s0.toNat : Int)) && (((x1.toNat : Int) == (s1.toNat : Int)) && (((x2.toNat : Int) == (s2.toNat : Int)) && ((x3.toNat : Int) == (s3.toNat : Int))))) = true
    · have HW := hide hw
      go_region_with (go_at_call 23; refine HSUM.out.mono ?_; rintro e w3 ⟨rfl, hb4, p1', p0', r0, r1, r2, r3⟩)
      all_goals
        have E := hide (show Rc.get b = (Rc.data b, 1 + Rc.siz b + 4 + Rc.num b) from by
          refine Rc.get_pos HW.out ?_
          · rw [e4, e6]
            simp only [Bool.and_eq_true, beq_iff_eq] at heq
            obtain ⟨q0, q1, q2, q3⟩ := heq
            rw [UInt8.toNat_inj.1 (Int.ofNat_inj.1 q0), UInt8.toNat_inj.1 (Int.ofNat_inj.1 q1), UInt8.toNat_inj.1 (Int.ofNat_inj.1 q2), UInt8.toNat_inj.1 (Int.ofNat_inj.1 q3)])
        have hne : ¬ (1 + Rc.siz b + Rc.num b = 1 + Rc.siz b) := by omega
        have hG9 : G ≤ 9223372036854775807 := by unfold maxLen at hG2; omega
        go_wp2_with fail
        go_ret2
        rw [E.out]
        refine ⟨_, ret_tup (by omega), piece_at HW.out (by omega) (by have := (Array.getElem?_eq_some_iff.1 HC5.out).1; exact (hb4.out.block _ this).trans HC5.out) hCt, hb3.trans (hb4.out.mono hb3.size)⟩
    · have HW := hide hw
      have heq' : (((x0.toNat : Int) == (s0.toNat : Int)) && (((x1.toNat : Int) == (s1.toNat : Int)) && (((x2.toNat : Int) == (s2.toNat : Int)) && ((x3.toNat : Int) == (s3.toNat : Int))))) = false := by simpa using heq
      go_region_with (go_at_call 23; refine HSUM.out.mono ?_; rintro e w3 ⟨rfl, hb4, p1', p0', r0, r1, r2, r3⟩)
      all_goals
        have E := hide (show Rc.get b = ([], 0) by
          refine Rc.get_neg ?_
          rintro ⟨_, hs⟩
          rw [e4, e6] at hs
          simp only [List.cons.injEq, and_true] at hs
          obtain ⟨rfl, rfl, rfl, rfl⟩ := hs
          exact heq (by simp))
        go_wp2_with fail
        go_ret2
        rw [E.out]
        exact ⟨_, rfl, .inl ⟨rfl, rfl⟩, hb3.trans (hb4.out.mono hb3.size)⟩
  · have E := hide (show Rc.get b = ([], 0) from Rc.get_neg (fun h => hw h.1))
    go_wp2_with fail
    go_ret2
    rw [E.out]
    exact ⟨_, rfl, .inl ⟨rfl, rfl⟩, hb1.alloc hb1.size _⟩
end Go.Proofs.Ytkohlhnkaklnpaa

/-
  What a Scan tells, step by step. No program in this text.
-/
namespace Go.Proofs.Ytkohlhnkaklnpaa
namespace Rc
theorem get_le (b : List UInt8) : (get b).2 ≤ b.length := by
  by_cases h : whole b ∧ sum4 (b.take (1 + siz b) ++ data b) = (b.drop (1 + siz b)).take 4
  · rw [get_pos h.1 h.2]
    exact h.1.2.2.2
  · rw [get_neg h]
    exact Nat.zero_le _
theorem get_whole {b : List UInt8} (h : (get b).2 ≠ 0) : whole b ∧ sum4 (b.take (1 + siz b) ++ data b) = (b.drop (1 + siz b)).take 4 ∧ get b = (data b, 1 + siz b + 4 + num b) := by
  by_cases hw : whole b ∧ sum4 (b.take (1 + siz b) ++ data b) = (b.drop (1 + siz b)).take 4
  · exact ⟨hw.1, hw.2, get_pos hw.1 hw.2⟩
  · rw [get_neg hw] at h
    exact absurd rfl h
theorem get_seven {b : List UInt8} (h : (get b).2 ≠ 0) : 7 ≤ (get b).2 := by
  obtain ⟨hw, _, e⟩ := get_whole h
  have h1 := siz_pos hw.2.1
  have h2 := hw.2.1
  rw [e]
  show 7 ≤ 1 + siz b + 4 + num b
  omega
theorem get_ne {b : List UInt8} (h : (get b).2 ≠ 0) : (get b).1 ≠ [] := by
  obtain ⟨hw, _, e⟩ := get_whole h
  rw [e]
  intro hd
  have hl := data_length hw
  rw [show data b = [] from hd] at hl
  exact hw.2.1 hl.symm
/-- From the front so many records are told, of so many bytes. -/
def Told : List UInt8 → List (List UInt8) → Nat → Prop
  | _, [], k => k = 0
  | b, d :: ds, k => (get b).2 ≠ 0 ∧ d = (get b).1 ∧ (get b).2 ≤ k ∧ Told (b.drop (get b).2) ds (k - (get b).2)
theorem Told.none {b : List UInt8} : Told b [] 0 := rfl
theorem told_more : ∀ (ds : List (List UInt8)) (b : List UInt8) (k : Nat), Told b ds k → (get (b.drop k)).2 ≠ 0 → Told b (ds ++ [(get (b.drop k)).1]) (k + (get (b.drop k)).2)
  | [], b, k, h, hn => by
    obtain rfl : k = 0 := h
    rw [List.drop_zero] at hn ⊢
    exact ⟨hn, rfl, by omega, by show 0 + (get b).2 - (get b).2 = 0; omega⟩
  | d :: ds, b, k, ⟨h1, h2, h3, h4⟩, hn => by
    have e : b.drop k = (b.drop (get b).2).drop (k - (get b).2) := by rw [List.drop_drop]; congr 1; omega
    rw [e] at hn ⊢
    have ih := told_more ds _ _ h4 hn
    refine ⟨h1, h2, by omega, ?_⟩
    rw [show k + (get ((b.drop (get b).2).drop (k - (get b).2))).2 - (get b).2 = k - (get b).2 + (get ((b.drop (get b).2).drop (k - (get b).2))).2 by omega]
    exact ih
theorem Told.more {b : List UInt8} {ds : List (List UInt8)} {k : Nat} (h : Told b ds k) (hn : (get (b.drop k)).2 ≠ 0) : Told b (ds ++ [(get (b.drop k)).1]) (k + (get (b.drop k)).2) := told_more ds b k h hn
theorem told_le : ∀ (ds : List (List UInt8)) (b : List UInt8) (k : Nat), Told b ds k → k ≤ b.length ∧ 7 * ds.length ≤ k
  | [], b, k, h => by
    obtain rfl : k = 0 := h
    simp
  | d :: ds, b, k, ⟨h1, h2, h3, h4⟩ => by
    have ih := told_le ds _ _ h4
    have hg := get_le b
    have h7 := get_seven h1
    rw [List.length_drop] at ih
    rw [List.length_cons]
    omega
theorem Told.le {b : List UInt8} {ds : List (List UInt8)} {k : Nat} (h : Told b ds k) : k ≤ b.length := (told_le ds b k h).1
theorem Told.count {b : List UInt8} {ds : List (List UInt8)} {k : Nat} (h : Told b ds k) : 7 * ds.length ≤ k := (told_le ds b k h).2
end Rc
end Go.Proofs.Ytkohlhnkaklnpaa

/-
  append, and what it leaves: the old row reads as it did, whether there was room or not. No program in this text.
-/
namespace Go.Proofs.Ytkohlhnkaklnpaa
open Go.RowKit
section
variable {P : Program} {w : World}
theorem run_append_keep (base : Nat) (t ty e : TypeId) (i : TypeInfo) (z : Value) (size bytes : Nat) (ht : P.underlying t = some (.slice e)) (hi : P.info? e = some i) (hz : i.zero = some z)
    (hsize : i.size = size) (hby : i.bytes = bytes) (hzs : z.cells.size = size) (hsz : 0 < size)
    (v : Value) (n : Nat) (xs : List Value) (hown : w.ownsRow base e size v n xs)
    (a : Addr) (m c : Nat) (news : List Value) (hl : news.length = m * size) (hnews : ∀ j u, news[j]? = some u → w.cell? (a.add j) = some u) (h1 : ∀ u ∈ news, u.oneCell' = true)
    (h63 : n + m ≤ maxLen) (hbytes : (n + m) * bytes ≤ 140737488355328) (hbase : base ≤ w.heap.size) :
    ∃ v' w', (Builtin.append_ #[t, t] ty #[v, .slice (some a) m c]).run P w = .ok v' w' ∧ w'.ownsRow base e size v' (n + m) (xs ++ news) ∧ w.grownBy w' v.ownBlock ∧
      (v'.ownBlock = v.ownBlock ∨ v'.ownBlock = some w.heap.size) ∧ (∀ g j, v.ownBlock = some g → j < n * size → w'.cell? ⟨g, j, none⟩ = w.cell? ⟨g, j, none⟩) := by
  obtain ⟨v', w', hr, h2, h3, _, h5⟩ := run_append_own_at (P := P) w base t ty e i z size bytes ht hi hz hsize hby hzs hsz v n xs hown a m c news hl hnews h1 h63 hbytes hbase
  refine ⟨v', w', hr, h2, h3, h5, ?_⟩
  intro g' j hg' hj
  have hsmall : n + m ≤ 9223372036854775807 := by simp only [maxLen] at h63; omega
  subst hsize
  subst hby
  rcases hown.2 with ⟨rfl, _⟩ | ⟨g, cap, cur, rfl, hbg, hg, hnc, hcm, hcs, htake⟩
  · simp [Value.ownBlock] at hg'
  · have hgg : g = g' := by simpa [Value.ownBlock] using hg'
    subst hgg
    by_cases hroom : n + m ≤ cap
    · have hfit : n * i.size + news.length ≤ cur.size := by rw [hl, hcs, ← Nat.add_mul]; exact Nat.mul_le_mul_right _ hroom
      have hr2 := run_append_room (P := P) w t ty e i ht hi g n cap cur hg a m c news hl hnews h1 hroom hfit
      rw [hr] at hr2
      injection hr2 with hv hw
      subst hv
      rw [h2.cellAt j (by rw [Nat.add_mul]; omega), hown.cellAt j hj, List.getElem?_append_left (by rw [hown.1]; exact hj)]
    · have holds : ∀ j u, xs[j]? = some u → w.cell? ((⟨g, 0, none⟩ : Addr).add j) = some u := hown.cells (g := g) rfl
      have hr2 := run_append_grow (P := P) w t ty e i z ht hi hz ⟨g, 0, none⟩ n cap xs hown.1 holds a m c news hl hnews (by omega) (by omega) (growslice_fits (by omega) hbytes)
      rw [hr] at hr2
      injection hr2 with hv hw
      subst hw
      exact World.cell?_of_block (heap_alloc_old w.drew _ g (Array.getElem?_eq_some_iff.1 hg).1)

theorem wpList_append_keep {ops : Array Oper} {rest : List Oper} {o : Oper} {a : Act} {Q : Exit → Act → World → Prop} (hgd : o.guard = none) (s x : Operand) (t : TypeId)
    (ho : o.op = .call { callee := .builtin .append, args := #[s, x], argTypes := #[t, t] })
    (base : Nat) (e : TypeId) (i : TypeInfo) (z : Value) (size bytes : Nat) (ht : P.underlying t = some (.slice e)) (hi : P.info? e = some i) (hz : i.zero = some z)
    (hsize : i.size = size) (hby : i.bytes = bytes) (hzs : z.cells.size = size) (hsz : 0 < size)
    (v : Value) (n : Nat) (xs : List Value) (hs : a.eval s = v) (hown : w.ownsRow base e size v n xs)
    (ad : Addr) (m c : Nat) (news : List Value) (hx : a.eval x = .slice (some ad) m c) (hl : news.length = m * size) (hnews : ∀ j u, news[j]? = some u → w.cell? (ad.add j) = some u) (h1 : ∀ u ∈ news, u.oneCell' = true)
    (h63 : n + m ≤ maxLen) (hbytes : (n + m) * bytes ≤ 140737488355328) (hbase : base ≤ w.heap.size)
    (h : ∀ v' w', w'.ownsRow base e size v' (n + m) (xs ++ news) → w.grownBy w' v.ownBlock → (v'.ownBlock = v.ownBlock ∨ v'.ownBlock = some w.heap.size) → (∀ g j, v.ownBlock = some g → j < n * size → w'.cell? ⟨g, j, none⟩ = w.cell? ⟨g, j, none⟩) → wpList P ops Q rest (a.put o.dst v') w') : wpList P ops Q (o :: rest) a w :=
  wpList_plain hgd fun _ hK => by
    obtain ⟨v', w', hr, h2, h3, h4, h5⟩ := run_append_keep (P := P) (w := w) base t o.type e i z size bytes ht hi hz hsize hby hzs hsz v n xs hown ad m c news hl hnews h1 h63 hbytes hbase
    unfold Oper.wp execOp
    simp only [ho, resolve, invoke, builtin, Sem.run_bind, Sem.run_pure, Result.andThen_ok, List.map_toArray, List.map_cons, List.map_nil, hs, hx, hr]
    exact hK _ _ (h v' w' h2 h3 h4 h5)
end
end Go.Proofs.Ytkohlhnkaklnpaa
