/-
  record.Get: the record that bytes begin with.
-/
import Derived.Test.YtkohlhnkaklnpaaCut
import Derived.Test.YtkohlhnkaklnpaaRput
import Derived.Test.YtkohlhnkaklnpaaNeq4
namespace Go.Proofs.Ytkohlhnkaklnpaa
open Go.RowKit

/-- Bytes of the call's own, with no room behind them. -/
def Piece (w : World) (B : Nat) (v : Value) (l : List UInt8) : Prop :=
  (v = .slice none 0 0 ∧ l = []) ∨ ∃ g o cur, v = .slice (some ⟨g, o, none⟩) l.length l.length ∧ B ≤ g ∧ l ≠ [] ∧ l.length ≤ maxLen ∧ w.heap[g]? = some (.cells cur 5 (0, 0)) ∧ ∀ j (hj : j < l.length), cur[o + j]? = some (.int .u8 (l[j]).toNat)
theorem Piece.bs {w : World} {B : Nat} {v : Value} {l : List UInt8} (h : Piece w B v l) : Bs w v l := by
  rcases h with ⟨rfl, rfl⟩ | ⟨g, o, cur, rfl, _, _, hm, hg, hc⟩
  · exact Bs.nil w
  · exact Bs.row (Nat.le_refl _) hm (fun j hj => by rw [cell_of_row w g _ _ 5 (0, 0) hg]; exact hc j hj)
theorem Piece.nilOr {w : World} {B : Nat} {v : Value} {l : List UInt8} (h : Piece w B v l) : NilOr v := by
  rcases h with ⟨rfl, _⟩ | ⟨g, o, cur, rfl, _⟩
  · exact .inl rfl
  · exact .inr ⟨_, _, _, rfl⟩

/-- 'append(p.head, p.data...)': no room behind the head: new memory. -/
theorem run_summed (w : World) (g o : Nat) (b : List UInt8) (hw : Rc.whole b) (hcell : ∀ j (hj : j < b.length), w.cell? ⟨g, o + j, none⟩ = some (.int .u8 (b[j]).toNat)) :
    ∃ (G : Nat) (C : Array Value), 1 + Rc.siz b + Rc.num b ≤ G ∧ G ≤ maxLen ∧ C.size = G ∧ C.toList.take (1 + Rc.siz b + Rc.num b) = Lib.byteCells (b.take (1 + Rc.siz b) ++ Rc.data b) ∧
      ∀ ty, (Builtin.append_ #[22, 22] ty #[.slice (some ⟨g, o, none⟩) (1 + Rc.siz b) (1 + Rc.siz b), .slice (some ⟨g, o + (1 + Rc.siz b + 4), none⟩) (Rc.num b) (Rc.num b)]).run Try.prog w =
        .ok (.slice (some ⟨w.heap.size, 0, none⟩) (1 + Rc.siz b + Rc.num b) G) (w.drew.alloc (.cells C 5)) := by
  obtain ⟨i0, hi, hz0, hz1, hz2⟩ := info_parts info5
  obtain ⟨_, hn0, hn1, hall⟩ := id hw
  have hs := Rc.siz_ten b
  have hdl := Rc.data_length hw
  have htl : (b.take (1 + Rc.siz b)).length = 1 + Rc.siz b := by simp; omega
  have h1 : ∀ j v, (Lib.byteCells (b.take (1 + Rc.siz b)))[j]? = some v → w.cell? ((⟨g, o, none⟩ : Addr).add j) = some v := fun j v hj => by
    obtain ⟨hjl, rfl⟩ := byteCells_at hj
    rw [htl] at hjl
    rw [show (⟨g, o, none⟩ : Addr).add j = ⟨g, o + j, none⟩ by simp [Addr.add], hcell j (by omega), List.getElem_take]
  have h2 : ∀ j v, (Lib.byteCells (Rc.data b))[j]? = some v → w.cell? ((⟨g, o + (1 + Rc.siz b + 4), none⟩ : Addr).add j) = some v := fun j v hj => by
    obtain ⟨hjl, rfl⟩ := byteCells_at hj
    rw [show (⟨g, o + (1 + Rc.siz b + 4), none⟩ : Addr).add j = ⟨g, o + (1 + Rc.siz b + 4) + j, none⟩ by simp [Addr.add], Nat.add_assoc o, hcell _ (by omega)]
    simp [Rc.data]
  have hr := fun ty => run_append_grow (P := Try.prog) (w := w) 22 ty 5 i0 (.int .u8 0) Try.underlying22 hi hz0 ⟨g, o, none⟩ (1 + Rc.siz b) (1 + Rc.siz b) (Lib.byteCells (b.take (1 + Rc.siz b))) (by rw [Lib.byteCells_length, hz1]; omega) h1
    ⟨g, o + (1 + Rc.siz b + 4), none⟩ (Rc.num b) (Rc.num b) (Lib.byteCells (Rc.data b)) (by rw [Lib.byteCells_length, hz1]; omega) h2 (by omega) (by omega) (growslice_fits (by omega) (by rw [hz2]; omega))
  have hge := grownCap_ge w (1 + Rc.siz b + Rc.num b) (1 + Rc.siz b) 5
  refine ⟨_, _, hge, grownCap_le_maxLen w _ _ 5 (by unfold maxLen; omega), ?_, ?_, hr⟩
  · have hz : (Value.int .u8 0).cells.size = 1 := rfl
    simp only [Array.size_append, List.size_toArray, Lib.byteCells_length, htl, hdl, Builtin.zeroCells, hz, Array.size_map, Array.size_range]
    omega
  · rw [Lib.byteCells_append]
    simp only [Array.toList_append]
    rw [List.take_append_of_le_length (by simp [Lib.byteCells_length]; omega), List.take_of_length_le (by simp [Lib.byteCells_length]; omega)]

theorem ret_tup {v : Value} {a b : Int} (h : a = b) : Ending.returned (.tuple #[v, .int .i64 a]) = .returned (.tuple #[v, .int .i64 b]) := by rw [h]
theorem piece_at {w : World} {B g : Nat} {b : List UInt8} {C : Array Value} (hw : Rc.whole b) (hB : B ≤ g) (hg : w.heap[g]? = some (.cells C 5 (0, 0))) (hC : C.toList.take (1 + Rc.siz b + Rc.num b) = Lib.byteCells (b.take (1 + Rc.siz b) ++ Rc.data b)) :
    Piece w B (.slice (some ⟨g, 1 + Rc.siz b, none⟩) (1 + Rc.siz b + Rc.num b - (1 + Rc.siz b)) (1 + Rc.siz b + Rc.num b - (1 + Rc.siz b))) (Rc.data b) := by
  have hdl := Rc.data_length hw
  have h1 := hw.2.1
  have h2 := hw.2.2.1
  have hall := hw.2.2.2
  have htl : (b.take (1 + Rc.siz b)).length = 1 + Rc.siz b := by simp; omega
  refine .inr ⟨g, 1 + Rc.siz b, C, by rw [hdl, Nat.add_sub_cancel_left], hB, fun e => h1 (by rw [← hdl, e]; rfl), by unfold maxLen; omega, hg, fun j hj => ?_⟩
  have h4 : (C.toList.take (1 + Rc.siz b + Rc.num b))[1 + Rc.siz b + j]? = some (.int .u8 ((Rc.data b)[j]).toNat) := by
    rw [hC]
    simp only [Lib.byteCells, List.getElem?_map]
    rw [List.getElem?_append_right (by omega), htl, Nat.add_sub_cancel_left, List.getElem?_eq_getElem hj]
    rfl
  rw [List.getElem?_take, if_pos (by omega)] at h4
  rw [← h4]
  simp

set_option maxHeartbeats 4000000 in
set_option maxRecDepth 100000 in
theorem rget_any (v : Value) (b : List UInt8) (w : World) (h : Bs w v b) :
    Calls Try.prog 18 #[v] w fun e w' => ∃ v', e = .returned (.tuple #[v', .int .i64 (Rc.get b).2]) ∧ Piece w' w.heap.size v' (Rc.get b).1 ∧ Below w.heap.size w w' := by
  have hc := cut_any v b w h
  have HC := hide hc
  clear hc
  have HB := hide h
  obtain ⟨av, cv, rfl, _, _, h3⟩ := h
  have H3 := hide h3
  clear h3
  go_enter Try.func18, Try.ntmps18
  go_wp2_with fail
  refine HC.out.mono ?_
  rintro e w1 ⟨⟨hw, g, o, c, hv, rfl⟩ | ⟨hw, rfl⟩, hb1⟩
  · unfold partsOf
    simp only [Value.slice.injEq] at hv
    obtain ⟨rfl, _, rfl⟩ := hv
    have hcw : ∀ j (hj : j < b.length), w.cell? ⟨g, o + j, none⟩ = some (.int .u8 (b[j]).toNat) := fun j hj => by
      obtain ⟨g', o', e, hc⟩ := H3.out j hj
      cases e
      exact hc
    have hpl : 0 < b.length := by have := hw.2.2.2; omega
    have hglt := World.block_lt_of_cell? w _ (hcw 0 hpl)
    have hb2 : Below w.heap.size w (w1.alloc (.cells (partsOf g o b) 58)) := hb1.alloc hb1.size _
    have hc2 : ∀ j (hj : j < b.length), (w1.alloc (.cells (partsOf g o b) 58)).cell? ⟨g, o + j, none⟩ = some (.int .u8 (b[j]).toNat) := fun j hj => (hb2.cell (p := ⟨g, o + j, none⟩) hglt).trans (hcw j hj)
    obtain ⟨G, C, hG1, hG2, hCs, hCt, hrun⟩ := run_summed (w1.alloc (.cells (partsOf g o b) 58)) g o b hw hc2
    have HRUN := hide hrun
    clear hrun HC
    go_wp2_with (at_builtin; refine Lib.wpList_append_run _ rfl _ _ _ _ rfl _ _ rfl rfl _ _ (HRUN.out _) ?_)
    have hn0 := hw.2.1
    have hn1 := hw.2.2.1
    have hall := hw.2.2.2
    have hs10 := Rc.siz_ten b
    have hdl := Rc.data_length hw
    obtain ⟨x0, x1, x2, x3, e4⟩ : ∃ x0 x1 x2 x3 : UInt8, Rc.sum4 (b.take (1 + Rc.siz b) ++ Rc.data b) = [x0, x1, x2, x3] := ⟨_, _, _, _, rfl⟩
    have e5 : (b.drop (1 + Rc.siz b)).take 4 = [b[1 + Rc.siz b], b[1 + Rc.siz b + 1], b[1 + Rc.siz b + 2], b[1 + Rc.siz b + 3]] := by
      apply List.ext_getElem
      · simp; omega
      · intro j hj _
        have hj4 : j < 4 := by simp at hj; omega
        rcases (show j = 0 ∨ j = 1 ∨ j = 2 ∨ j = 3 by omega) with rfl | rfl | rfl | rfl <;> simp
    have hr2 : (((w1.alloc (.cells (partsOf g o b) 58)).alloc (.cells C 5)).drew).heap[w1.heap.size]? = some (.cells (partsOf g o b) 58 (0, 0)) := (heap_alloc_old (w1.alloc (.cells (partsOf g o b) 58)) _ (by simp)).trans (heap_alloc_new w1 _)
    have hr3 : (((w1.alloc (.cells (partsOf g o b) 58)).alloc (.cells C 5)).drew).heap[w1.heap.size + 1]? = some (.cells C 5 (0, 0)) := by
      have := heap_alloc_new (w1.alloc (.cells (partsOf g o b) 58)) (.cells C 5)
      rwa [show (w1.alloc (.cells (partsOf g o b) 58)).heap.size = w1.heap.size + 1 by simp] at this
    have hb3 : Below w.heap.size w (((w1.alloc (.cells (partsOf g o b) 58)).alloc (.cells C 5)).drew) := (hb2.alloc hb2.size _).drew
    have hs2 : (((w1.alloc (.cells (partsOf g o b) 58)).alloc (.cells C 5)).drew).heap.size = w1.heap.size + 1 + 1 := by simp
    have hs1 := hb1.size
    have HC5 := hide hr3
    have hbs2 : Bs (((w1.alloc (.cells (partsOf g o b) 58)).alloc (.cells C 5)).drew) (.slice (some ⟨w1.heap.size + 1, 0, none⟩) (1 + Rc.siz b + Rc.num b) G) (b.take (1 + Rc.siz b) ++ Rc.data b) := by
      have hl : (b.take (1 + Rc.siz b) ++ Rc.data b).length = 1 + Rc.siz b + Rc.num b := by simp; omega
      have := Bs.row (w := ((w1.alloc (.cells (partsOf g o b) 58)).alloc (.cells C 5)).drew) (g := w1.heap.size + 1) (o := 0) (c := G) (l := b.take (1 + Rc.siz b) ++ Rc.data b) (by omega) hG2 (fun j hj => by
        rw [Nat.zero_add, cell_of_row _ _ j _ 5 (0, 0) hr3]
        have h4 : (C.toList.take (1 + Rc.siz b + Rc.num b))[j]? = some (.int .u8 ((b.take (1 + Rc.siz b) ++ Rc.data b)[j]).toNat) := by
          rw [hCt]
          simp only [Lib.byteCells, List.getElem?_map]
          rw [List.getElem?_eq_getElem hj]
          rfl
        rw [List.getElem?_take, if_pos (by omega)] at h4
        rw [← h4]
        simp)
      rwa [hl] at this
    have hc3 : ∀ j (hj : j < b.length), (((w1.alloc (.cells (partsOf g o b) 58)).alloc (.cells C 5)).drew).cell? ⟨g, o + j, none⟩ = some (.int .u8 (b[j]).toNat) := fun j hj => (hb3.cell (p := ⟨g, o + j, none⟩) hglt).trans (hcw j hj)
    have hp1 : (((w1.alloc (.cells (partsOf g o b) 58)).alloc (.cells C 5)).drew).cell? ⟨w1.heap.size, 1, none⟩ = some (.slice (some ⟨g, o + (1 + Rc.siz b), none⟩) 4 4) := by rw [cell_of_row _ _ 1 _ 58 (0, 0) hr2]; rfl
    have hp0 : (((w1.alloc (.cells (partsOf g o b) 58)).alloc (.cells C 5)).drew).cell? ⟨w1.heap.size, 0, none⟩ = some (.slice (some ⟨g, o, none⟩) (1 + Rc.siz b) (1 + Rc.siz b)) := by rw [cell_of_row _ _ 0 _ 58 (0, 0) hr2]; rfl
    generalize ((w1.alloc (.cells (partsOf g o b) 58)).alloc (.cells C 5)).drew = w2 at *
    obtain ⟨s0, s1, s2, s3, e6, k0, k1, k2, k3⟩ : ∃ s0 s1 s2 s3 : UInt8, (b.drop (1 + Rc.siz b)).take 4 = [s0, s1, s2, s3] ∧ w2.cell? ⟨g, o + (1 + Rc.siz b), none⟩ = some (.int .u8 s0.toNat) ∧ w2.cell? ⟨g, o + (1 + Rc.siz b) + 1, none⟩ = some (.int .u8 s1.toNat) ∧ w2.cell? ⟨g, o + (1 + Rc.siz b) + 2, none⟩ = some (.int .u8 s2.toNat) ∧ w2.cell? ⟨g, o + (1 + Rc.siz b) + 3, none⟩ = some (.int .u8 s3.toNat) :=
      ⟨_, _, _, _, e5, hc3 (1 + Rc.siz b) (by omega), hc3 (1 + Rc.siz b + 1) (by omega), hc3 (1 + Rc.siz b + 2) (by omega), hc3 (1 + Rc.siz b + 3) (by omega)⟩
    have hsum : Calls Try.prog 23 #[.slice (some ⟨w1.heap.size + 1, 0, none⟩) (1 + Rc.siz b + Rc.num b) G] w2.drew fun e w3 => e = .returned (.agg #[.int .u8 x0.toNat, .int .u8 x1.toNat, .int .u8 x2.toNat, .int .u8 x3.toNat]) ∧ Hid (Below w2.heap.size w2 w3) ∧ w3.cell? ⟨w1.heap.size, 1, none⟩ = some (.slice (some ⟨g, o + (1 + Rc.siz b), none⟩) 4 4) ∧ w3.cell? ⟨w1.heap.size, 0, none⟩ = some (.slice (some ⟨g, o, none⟩) (1 + Rc.siz b) (1 + Rc.siz b)) ∧
        w3.cell? ⟨g, o + (1 + Rc.siz b), none⟩ = some (.int .u8 s0.toNat) ∧ w3.cell? ⟨g, o + (1 + Rc.siz b) + 1, none⟩ = some (.int .u8 s1.toNat) ∧ w3.cell? ⟨g, o + (1 + Rc.siz b) + 2, none⟩ = some (.int .u8 s2.toNat) ∧ w3.cell? ⟨g, o + (1 + Rc.siz b) + 3, none⟩ = some (.int .u8 s3.toNat) := by
      refine (sumOf_any _ _ w2.drew (hbs2.below (Below.refl _ _).drew (Nat.le_refl _))).mono ?_
      rintro e w3 ⟨he, hb4⟩
      rw [e4] at he
      have hb5 : Below w2.heap.size w2 w3 := ((Below.refl w2.heap.size w2).drew).trans hb4
      have hg2 : g < w2.heap.size := by have := hb3.size; omega
      exact ⟨he, hb5, (hb5.cell (p := ⟨w1.heap.size, 1, none⟩) (by show w1.heap.size < w2.heap.size; omega)).trans hp1, (hb5.cell (p := ⟨w1.heap.size, 0, none⟩) (by show w1.heap.size < w2.heap.size; omega)).trans hp0, (hb5.cell (p := ⟨g, _, none⟩) hg2).trans k0, (hb5.cell (p := ⟨g, _, none⟩) hg2).trans k1, (hb5.cell (p := ⟨g, _, none⟩) hg2).trans k2, (hb5.cell (p := ⟨g, _, none⟩) hg2).trans k3⟩
    have HSUM := hide hsum
    have q4 := run_neq4
    have hat : ∀ w, (Instr.arrayAt 49 (.slice (some ⟨g, o + (1 + Rc.siz b), none⟩) 4 4)).run Try.prog w = .ok (.pointer (some ⟨g, o + (1 + Rc.siz b), none⟩)) w := fun w => by simp [Instr.arrayAt, run_underlying Try.underlying49]
    clear e5 hsum hbs2 hc3 hc2 hcw HRUN hr2 hr3 H3
    by_cases heq : (((x0.toNat : Int) == (s0.toNat : Int)) && (((x1.toNat : Int) == (s1.toNat : Int)) && (((x2.toNat : Int) == (s2.toNat : Int)) && ((x3.toNat : Int) == (s3.toNat : Int))))) = true
    · have HW := hide hw
      go_region_with (go_at_call 23; refine HSUM.out.mono ?_; rintro e w3 ⟨rfl, hb4, p1', p0', r0, r1, r2, r3⟩)
      all_goals
        have E := hide (show Rc.get b = (Rc.data b, 1 + Rc.siz b + 4 + Rc.num b) from by
          refine Rc.get_pos HW.out ?_
          · rw [e4, e6]
            simp only [Bool.and_eq_true, beq_iff_eq] at heq
            obtain ⟨q0, q1, q2, q3⟩ := heq
            rw [UInt8.toNat_inj.1 (Int.ofNat_inj.1 q0), UInt8.toNat_inj.1 (Int.ofNat_inj.1 q1), UInt8.toNat_inj.1 (Int.ofNat_inj.1 q2), UInt8.toNat_inj.1 (Int.ofNat_inj.1 q3)])
        have hne : ¬ (1 + Rc.siz b + Rc.num b = 1 + Rc.siz b) := by omega
        have hG9 : G ≤ 9223372036854775807 := by unfold maxLen at hG2; omega
        go_wp2_with fail
        go_ret2
        rw [E.out]
        refine ⟨_, ret_tup (by omega), piece_at HW.out (by omega) (by have := (Array.getElem?_eq_some_iff.1 HC5.out).1; exact (hb4.out.block _ this).trans HC5.out) hCt, hb3.trans (hb4.out.mono hb3.size)⟩
    · have HW := hide hw
      have heq' : (((x0.toNat : Int) == (s0.toNat : Int)) && (((x1.toNat : Int) == (s1.toNat : Int)) && (((x2.toNat : Int) == (s2.toNat : Int)) && ((x3.toNat : Int) == (s3.toNat : Int))))) = false := by simpa using heq
      go_region_with (go_at_call 23; refine HSUM.out.mono ?_; rintro e w3 ⟨rfl, hb4, p1', p0', r0, r1, r2, r3⟩)
      all_goals
        have E := hide (show Rc.get b = ([], 0) by
          refine Rc.get_neg ?_
          rintro ⟨_, hs⟩
          rw [e4, e6] at hs
          simp only [List.cons.injEq, and_true] at hs
          obtain ⟨rfl, rfl, rfl, rfl⟩ := hs
          exact heq (by simp))
        go_wp2_with fail
        go_ret2
        rw [E.out]
        exact ⟨_, rfl, .inl ⟨rfl, rfl⟩, hb3.trans (hb4.out.mono hb3.size)⟩
  · have E := hide (show Rc.get b = ([], 0) from Rc.get_neg (fun h => hw h.1))
    go_wp2_with fail
    go_ret2
    rw [E.out]
    exact ⟨_, rfl, .inl ⟨rfl, rfl⟩, hb1.alloc hb1.size _⟩
end Go.Proofs.Ytkohlhnkaklnpaa
