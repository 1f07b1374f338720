/-
  LexNumbers: the walk.
-/
import Derived.Test.YtaaiogfbohndaaaDoorNuC
namespace Go.Proofs.YtaaiogfbohndaaaDoor
open Go.RowKit
set_option maxRecDepth 1000000
theorem conv_row (w : World) (a : Addr) (c : Nat) (l : List UInt8) (hcell : ∀ j (hj : j < l.length), w.cell? (a.add j) = some (.int .u8 (l[j]).toNat)) :
    (convert 50 9 (.slice (some a) l.length c)).run Tryd.prog w = .ok (.string ⟨l.toArray⟩) w := by
  have hl : (loadCells a l.length).run Tryd.prog w = .ok ((l.map fun b => (b.toNat : Int)).map (Value.int .u8)).toArray w := by
    have := run_loadCells_list (P := Tryd.prog) w a ((l.map fun b => (b.toNat : Int)).map (Value.int .u8)) (fun j v hj => by
      simp only [List.getElem?_map, Option.map_eq_some_iff] at hj
      obtain ⟨_, ⟨b, hb, rfl⟩, rfl⟩ := hj
      obtain ⟨hjl, rfl⟩ := List.getElem?_eq_some_iff.1 hb
      exact hcell j hjl)
    simpa using this
  rw [run_convert_bytes_string w 50 9 5 _ _ c Tryd.underlying50 Tryd.underlying5 Tryd.underlying9, run_bytesToString w _ _ c _ hl, foldl_push_bytes]
  have e : ((l.map fun b => (b.toNat : Int)).map fun n => UInt8.ofNat n.toNat) = l := by
    rw [List.map_map]
    conv => rhs; rw [← List.map_id l]
    apply List.map_congr_left
    intro b _
    simp
  rw [e]
  simp [ByteArray.empty, ByteArray.emptyWithCapacity]
  rfl
theorem conv_one (W : World) (d : UInt8) : (convert 50 9 (.slice (some ⟨W.heap.size, 0, none⟩) 1 1)).run Tryd.prog (W.alloc (.cells #[.int .u8 (d.toNat : Nat)] 5)) = .ok (.string ⟨#[d]⟩) (W.alloc (.cells #[.int .u8 (d.toNat : Nat)] 5)) := by
  refine conv_row _ ⟨W.heap.size, 0, none⟩ 1 [d] ?_
  intro j hj
  obtain rfl : j = 0 := by simp at hj; omega
  simp [Addr.add]
theorem stopCalls {P : Program} {f : FuncId} {args : Array Value} {w : World} {Q : Ending → World → Prop} (h : Stop (Calls P f args w Q)) : Calls P f args w Q := h
def nbF (n k : Int) (s : ByteArray) (u : Nat → Value) : Act := { tmps := #[.int .i64 n, undef, .bool false, .bool true, .string s, .int .i64 k, u 6, u 7, u 8, u 9, u 10, u 11, u 12, u 13, u 14, u 15, u 16, u 17, u 18, u 19, u 20, u 21, u 22, u 23, u 24, u 25, u 26, u 27, u 28, u 29, u 30, u 31, u 32, u 33, u 34, u 35, u 36, u 37, u 38, u 39, u 40, u 41, u 42, u 43, u 44, u 45, u 46, u 47, u 48, u 49, u 50, u 51, u 52, u 53, u 54, u 55, u 56, u 57, u 58, u 59, u 60, u 61, u 62, u 63, u 64, u 65, u 66, u 67, u 68, u 69, u 70, u 71, u 72, u 73, u 74, u 75, u 76, u 77, u 78, u 79, u 80, u 81, u 82, u 83, u 84, u 85, u 86, u 87, u 88, u 89, u 90, u 91, u 92, u 93, u 94, u 95, u 96, u 97, u 98, u 99, u 100, u 101, u 102, u 103, u 104, u 105, u 106, u 107, u 108, u 109, u 110, u 111, u 112, u 113], defers := [] }
def NbI (n : Nat) (w : World) (m : Nat) (A : Act) (W : World) : Prop := ∃ (k : Nat) (s : ByteArray), A = nbF n k s (fun j => A.tmps.getD j undef) ∧ Nb s k n ∧ Below w.heap.size w W ∧ Wd W ∧ m = (if s.size = 0 then k + 1 else k)

set_option maxHeartbeats 8000000 in
theorem numbers_walk (x : Int) (w : World) (hw : Wd w) (hx : x ≤ 9223372036854775807 ∧ -9223372036854775808 ≤ x) : Calls Tryd.prog 7 #[.int .i64 x] w fun e w' => e = .returned (.bool true) ∧ Below w.heap.size w w' := by
  obtain ⟨n, hn⟩ : ∃ n : Nat, (n : Int) = if x < 0 then -(x + 1) else x := ⟨(if x < 0 then -(x + 1) else x).toNat, by split <;> omega⟩
  have hn9 : n < 9223372036854775808 := by split at hn <;> omega
  have HN := hide hn
  clear hn
  go_enter Tryd.func7, Tryd.ntmps7
  go_upto_region 2 with (go_at_call 8; refine (shown_any w hw).mono ?_; rintro e w1 ⟨rfl, hb1, hw1⟩)
  have HB := hide hb1
  have HI : Hid (Nb ByteArray.empty n n) := ⟨by decide, fun i hi => absurd hi (Nat.not_lt_zero i), by show n = n * 10 ^ 0 + numV _ 0 0 0; rw [numV_zero]; simp, Or.inl rfl⟩
  clear hb1
  go_wp2
  · have hx0 : x < 0 := by assumption
    have e0 : -(x + 1) = (n : Int) := by have := HN.out; rw [if_pos hx0] at this; omega
    rw [e0]
    clear e0 hx HN
    refine loop_ghost (NbI n w) (n + 1) ⟨n, ByteArray.empty, rfl, HI.out, HB.out, hw1, rfl⟩ ?_
    clear hw1
    rintro m A W ⟨k, s, hA, hnb, hbw, hwW, hm⟩
    generalize (fun j => A.tmps.getD j undef) = u at hA
    subst hA
    simp only [nbF]
    have HM := hide hm
    have HNB := hide hnb
    have HBW := hide hbw
    clear hm
    have hsl := hnb.le
    have hk9 : k ≤ n := by
      have := hnb.val
      have h1 : k * 1 ≤ k * 10 ^ s.size := Nat.mul_le_mul_left _ (Nat.pos_of_ne_zero (by simp))
      omega
    have hemp : s.toList.isEmpty = (s.size == 0) := by
      rw [Bool.eq_iff_iff]
      rw [Lib.toList_data, List.isEmpty_iff, ← List.length_eq_zero_iff, Array.length_toList]
      simp
    clear hnb hbw HI HB
    by_cases hk0 : k = 0
    · subst hk0
      have cv : ∀ W : World, (convert 50 9 (.slice (some ⟨W.heap.size, 0, none⟩) 1 1)).run Tryd.prog (W.alloc (.cells #[.int .u8 48] 5)) = .ok (.string ⟨#[48]⟩) (W.alloc (.cells #[.int .u8 48] 5)) := fun W => conv_one W 48
      go_wp2_with (go_at_call 9; apply stopCalls)
      · have hs0 : s.size = 0 := by
          have : (s.size == 0) = true := by assumption
          simpa using this
        have hb : Below w.heap.size w (W.alloc (.cells #[.int .u8 48] 5)) := HBW.out.alloc HBW.out.size _
        have hm' := HM.out
        rw [if_pos hs0] at hm'
        have hz : ((⟨#[48]⟩ : ByteArray) ++ s).size ≠ 0 := by rw [size_app, hs0]; decide
        refine ⟨0, by omega, 0, ⟨#[48]⟩ ++ s, rfl, HNB.out.next hn9 (Or.inr hs0) 48 rfl, hb, hw.below hw.lt hb, ?_⟩
        rw [if_neg hz]
      · have hs0 : s.size ≠ 0 := by
          have : (s.size == 0) = false := by assumption
          simpa using this
        have D := HNB.out.fin hn9 hs0
        have c1 := num_one D
        have c2 := flt_zero D
        have c3 := flt_x D
        have c4 := flt_great D
        have c5 := num_paren D
        unfold Flt at c2 c3 c4
        have hsp : 0 < s.size := by omega
        clear hemp HM HNB cv D
        show Calls _ _ _ _ _
        refine (c1 _ hwW).mono ?_
        rintro e w1 ⟨b1, x1, g, cap, rfl, ho1⟩
        go_upto_region 10 with fail
        have HO1 := hide ho1
        have HB1 := hide (HBW.out.trans (b1.mono HBW.out.size))
        have hZ1 := b1.size
        clear ho1 b1 c1
        go_upto_region 11 with (go_at_call 9; refine (c2 _ x1).mono ?_; rintro e w2 ⟨b2, x2, N2, rfl⟩)
        have HC2 := hide b2
        clear b2 c2
        go_upto_region 12 with (go_at_call 9; refine (c3 _ x2).mono ?_; rintro e w3 ⟨b3, x3, N3, rfl⟩)
        have HC3 := hide (HC2.out.trans (b3.mono HC2.out.size))
        clear b3 c3
        go_upto_region 13 with (go_at_call 9; refine (c4 _ x3).mono ?_; rintro e w4 ⟨b4, x4, N4, rfl⟩)
        have hb4 := HC3.out.trans (b4.mono HC3.out.size)
        obtain ⟨f0, f1⟩ := HO1.out _ hb4
        have HB4 := hide (HB1.out.trans (hb4.mono HB1.out.size))
        clear b4 c4 hb4
        go_wp2_with (go_at_call 9; refine (c5 _ x4).mono ?_; rintro e w5 ⟨b5, x5, g5, cap5, rfl⟩)
        go_ret
        exact ⟨rfl, HB4.out.trans (b5.mono HB4.out.size)⟩
    · have cv := fun W => conv_one W (48 + k % 10).toUInt8
      have hd : ((48 + k % 10).toUInt8).toNat = 48 + k % 10 := by
        show (48 + k % 10) % 256 = _
        omega
      have e1 : (((48 + k % 10 : Nat)) : Int) = 48 + (k : Int) % 10 := by omega
      simp only [hd, e1] at cv
      have HD := hide hd
      clear hd e1
      go_wp2
      have hb : Below w.heap.size w (W.alloc (.cells #[.int .u8 (48 + (k : Int) % 10)] 5)) := HBW.out.alloc HBW.out.size _
      have hm' : k ≤ m := by have := HM.out; split at this <;> omega
      rw [show (k : Int) / 10 = ((k / 10 : Nat) : Int) by omega]
      have hz : ∀ d : UInt8, ((⟨#[d]⟩ : ByteArray) ++ s).size ≠ 0 := fun d => by rw [size_app]; show 1 + s.size ≠ 0; omega
      have hd2 : (48 + UInt8.ofNat (k % 10)).toNat = 48 + k % 10 := by
        have := HD.out
        simpa using this
      refine ⟨k / 10, by omega, k / 10, _, rfl, HNB.out.next hn9 (Or.inl (by omega)) _ hd2, hb, hw.below hw.lt hb, ?_⟩
      rw [if_neg (hz _)]
  · have hx0 : 0 ≤ x := by assumption
    have e0 : x = (n : Int) := by have := HN.out; rw [if_neg (by omega)] at this; omega
    rw [e0]
    clear e0 hx HN
    refine loop_ghost (NbI n w) (n + 1) ⟨n, ByteArray.empty, rfl, HI.out, HB.out, hw1, rfl⟩ ?_
    clear hw1
    rintro m A W ⟨k, s, hA, hnb, hbw, hwW, hm⟩
    generalize (fun j => A.tmps.getD j undef) = u at hA
    subst hA
    simp only [nbF]
    have HM := hide hm
    have HNB := hide hnb
    have HBW := hide hbw
    clear hm
    have hsl := hnb.le
    have hk9 : k ≤ n := by
      have := hnb.val
      have h1 : k * 1 ≤ k * 10 ^ s.size := Nat.mul_le_mul_left _ (Nat.pos_of_ne_zero (by simp))
      omega
    have hemp : s.toList.isEmpty = (s.size == 0) := by
      rw [Bool.eq_iff_iff]
      rw [Lib.toList_data, List.isEmpty_iff, ← List.length_eq_zero_iff, Array.length_toList]
      simp
    clear hnb hbw HI HB
    by_cases hk0 : k = 0
    · subst hk0
      have cv : ∀ W : World, (convert 50 9 (.slice (some ⟨W.heap.size, 0, none⟩) 1 1)).run Tryd.prog (W.alloc (.cells #[.int .u8 48] 5)) = .ok (.string ⟨#[48]⟩) (W.alloc (.cells #[.int .u8 48] 5)) := fun W => conv_one W 48
      go_wp2_with (go_at_call 9; apply stopCalls)
      · have hs0 : s.size = 0 := by
          have : (s.size == 0) = true := by assumption
          simpa using this
        have hb : Below w.heap.size w (W.alloc (.cells #[.int .u8 48] 5)) := HBW.out.alloc HBW.out.size _
        have hm' := HM.out
        rw [if_pos hs0] at hm'
        have hz : ((⟨#[48]⟩ : ByteArray) ++ s).size ≠ 0 := by rw [size_app, hs0]; decide
        refine ⟨0, by omega, 0, ⟨#[48]⟩ ++ s, rfl, HNB.out.next hn9 (Or.inr hs0) 48 rfl, hb, hw.below hw.lt hb, ?_⟩
        rw [if_neg hz]
      · have hs0 : s.size ≠ 0 := by
          have : (s.size == 0) = false := by assumption
          simpa using this
        have D := HNB.out.fin hn9 hs0
        have c1 := num_one D
        have c2 := flt_zero D
        have c3 := flt_x D
        have c4 := flt_great D
        have c5 := num_paren D
        unfold Flt at c2 c3 c4
        have hsp : 0 < s.size := by omega
        clear hemp HM HNB cv D
        show Calls _ _ _ _ _
        refine (c1 _ hwW).mono ?_
        rintro e w1 ⟨b1, x1, g, cap, rfl, ho1⟩
        go_upto_region 10 with fail
        have HO1 := hide ho1
        have HB1 := hide (HBW.out.trans (b1.mono HBW.out.size))
        have hZ1 := b1.size
        clear ho1 b1 c1
        go_upto_region 11 with (go_at_call 9; refine (c2 _ x1).mono ?_; rintro e w2 ⟨b2, x2, N2, rfl⟩)
        have HC2 := hide b2
        clear b2 c2
        go_upto_region 12 with (go_at_call 9; refine (c3 _ x2).mono ?_; rintro e w3 ⟨b3, x3, N3, rfl⟩)
        have HC3 := hide (HC2.out.trans (b3.mono HC2.out.size))
        clear b3 c3
        go_upto_region 13 with (go_at_call 9; refine (c4 _ x3).mono ?_; rintro e w4 ⟨b4, x4, N4, rfl⟩)
        have hb4 := HC3.out.trans (b4.mono HC3.out.size)
        obtain ⟨f0, f1⟩ := HO1.out _ hb4
        have HB4 := hide (HB1.out.trans (hb4.mono HB1.out.size))
        clear b4 c4 hb4
        go_wp2_with (go_at_call 9; refine (c5 _ x4).mono ?_; rintro e w5 ⟨b5, x5, g5, cap5, rfl⟩)
        go_ret
        exact ⟨rfl, HB4.out.trans (b5.mono HB4.out.size)⟩
    · have cv := fun W => conv_one W (48 + k % 10).toUInt8
      have hd : ((48 + k % 10).toUInt8).toNat = 48 + k % 10 := by
        show (48 + k % 10) % 256 = _
        omega
      have e1 : (((48 + k % 10 : Nat)) : Int) = 48 + (k : Int) % 10 := by omega
      simp only [hd, e1] at cv
      have HD := hide hd
      clear hd e1
      go_wp2
      have hb : Below w.heap.size w (W.alloc (.cells #[.int .u8 (48 + (k : Int) % 10)] 5)) := HBW.out.alloc HBW.out.size _
      have hm' : k ≤ m := by have := HM.out; split at this <;> omega
      rw [show (k : Int) / 10 = ((k / 10 : Nat) : Int) by omega]
      have hz : ∀ d : UInt8, ((⟨#[d]⟩ : ByteArray) ++ s).size ≠ 0 := fun d => by rw [size_app]; show 1 + s.size ≠ 0; omega
      have hd2 : (48 + UInt8.ofNat (k % 10)).toNat = 48 + k % 10 := by
        have := HD.out
        simpa using this
      refine ⟨k / 10, by omega, k / 10, _, rfl, HNB.out.next hn9 (Or.inl (by omega)) _ hd2, hb, hw.below hw.lt hb, ?_⟩
      rw [if_neg (hz _)]
end Go.Proofs.YtaaiogfbohndaaaDoor
