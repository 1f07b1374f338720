import Derived.Test.YtoccbeefmagklaaPutRow
import Derived.Test.YtoccbeefmagklaaGetRow
import Derived.Lib.SlBytesConst
namespace Go.Proofs.Ytoccbeefmagklaa
open Go.RowKit

theorem own_bs {w : World} {B n : Nat} {v : Value} {l : List UInt8} (h : w.ownsRow B 5 1 v n (Lib.byteCells l)) : Bs w v l := by
  have hn : n = l.length := by have := h.1; rw [Lib.byteCells_length] at this; omega
  subst hn
  rcases h.2 with ⟨rfl, h0⟩ | ⟨g, cap, cur, rfl, hb, hg, hnc, hcm, hcs, htake⟩
  · obtain rfl : l = [] := List.eq_nil_of_length_eq_zero h0
    exact Bs.nil w
  · have := Bs.row (w := w) (g := g) (o := 0) (l := l) hnc hcm (fun j hj => by
      rw [Nat.zero_add, h.cellAt j (by omega)]
      simp [Lib.byteCells, hj])
    exact this
/-- Bytes that a literal lays. -/
theorem lit_bs {w : World} {g : Nat} {l : List UInt8} (h : Row w g l) (hm : l.length ≤ maxLen) : Bs w (.slice (some ⟨g, 0, none⟩) l.length l.length) l := by
  have := h.bs (n := l.length) (c := l.length) (Nat.le_refl _) (Nat.le_refl _) hm
  rwa [List.take_length] at this

/-- The contracts, as a reader of what comes out wants them. -/
theorem put_bs (v : Value) (l : List UInt8) (n : Nat) (w : World) (h : Bs w v l) (hn : n < 18446744073709551616) (hl : l.length + 20 ≤ 140737488355328) :
    Calls Try.prog 10 #[v, .int .u64 n] w fun e w' => ∃ v', e = .returned v' ∧ Bs w' v' (l ++ Lib.uvarint n) ∧ Below w.heap.size w w' :=
  (put_any v l n w h hn hl).mono fun _ _ ⟨v', a, b, c⟩ => ⟨v', a, own_bs b, c⟩
theorem putInt_bs (v : Value) (l : List UInt8) (n : Int) (w : World) (h : Bs w v l) (h0 : -9223372036854775808 ≤ n) (h1 : n ≤ 9223372036854775807) (hl : l.length + 20 ≤ 140737488355328) :
    Calls Try.prog 11 #[v, .int .i64 n] w fun e w' => ∃ v', e = .returned v' ∧ Bs w' v' (l ++ Lib.uvarint (Lib.zigzag n)) ∧ Below w.heap.size w w' :=
  (putInt_any v l n w h h0 h1 hl).mono fun _ _ ⟨v', a, b, c⟩ => ⟨v', a, own_bs b, c⟩
theorem putText_bs (v : Value) (l : List UInt8) (s : ByteArray) (w : World) (h : Bs w v l) (hl : l.length + s.size + 20 ≤ 140737488355328) :
    Calls Try.prog 12 #[v, .string s] w fun e w' => ∃ v', e = .returned v' ∧ Bs w' v' (l ++ Lib.uvarint s.size ++ s.data.toList) ∧ Below w.heap.size w w' :=
  (putText_any v l s w h hl).mono fun _ _ ⟨v', a, b, c⟩ => ⟨v', a, own_bs b, c⟩
theorem putRow_bs (v vl : Value) (l : List UInt8) (zs : List Int) (w : World) (h : Bs w v l) (hn : Ns w vl zs) (hz : Rw.AllFit zs) (hl : zs.length ≤ 1048576) (hlim : l.length + 60000000 ≤ 140737488355328) :
    Calls Try.prog 13 #[v, vl] w fun e w' => ∃ v', e = .returned v' ∧ Bs w' v' (l ++ Rw.rowB zs) ∧ Below w.heap.size w w' :=
  (putRow_any v vl l zs w h hn hz hl hlim).mono fun _ _ ⟨v', a, b, c⟩ => ⟨v', a, own_bs b, c⟩

theorem s_put : ([1, 2] : List UInt8) ++ Lib.uvarint 300 = [1, 2, 172, 2] := by decide +kernel
theorem s_row5 : ([] : List UInt8) ++ Rw.rowB [5, 5, 5, 5] = [4, 2, 1, 4, 10] := by decide +kernel
theorem s_row1000 : ([] : List UInt8) ++ Rw.rowB [1000, 1001, 1002] = [3, 1, 208, 15, 2, 2] := by decide +kernel
theorem s_get : Dec.getN [172, 2] = (300, 2) := by decide +kernel
theorem s_int : Dec.getN [1] = (1, 1) := by decide +kernel
theorem s_text : textN [1, 97, 98] = ([97], 2) := by decide +kernel
theorem s_getRow : Rd.row [4, 2, 1, 4, 10, 9] 4 = ([5, 5, 5, 5], 5) := by decide +kernel
theorem s_sum : Crc.crc [49, 50, 51, 52, 53, 54, 55, 56, 57] = 3808858755 := by decide +kernel
theorem s_putText : ([] : List UInt8) ++ Lib.uvarint (ByteArray.mk #[97]).size ++ (ByteArray.mk #[97]).data.toList = [1, 97] := by decide +kernel
theorem s_putInt : ([] : List UInt8) ++ Lib.uvarint (Lib.zigzag (-1)) = [1] := by decide +kernel
theorem fit5 : Rw.AllFit [5, 5, 5, 5] := by intro z hz; simp at hz; subst hz; unfold Rw.Fits; omega
theorem fit1000 : Rw.AllFit [1000, 1001, 1002] := by intro z hz; simp at hz; unfold Rw.Fits; omega

theorem row_lit (w : World) (l : List UInt8) : Row (w.alloc (.cells (Lib.byteCells l).toArray 5)) w.heap.size l := heap_alloc_new w _
theorem mark_bs (w : World) (l : List UInt8) (fr : Nat × Nat) (hm : l.length ≤ maxLen) : Bs (w.alloc (.cells (Lib.byteCells l).toArray 5 fr)) (.slice (some ⟨w.heap.size, 0, none⟩) l.length l.length) l :=
  Bs.row (o := 0) (Nat.le_refl _) hm (fun j hj => by
    rw [Nat.zero_add, World.cell?_alloc_mark]
    simp [Lib.byteCells, hj])
theorem nrow_lit (w : World) (zs : List Int) : Nrow (w.alloc (.cells (zs.map (Value.int .i64)).toArray 2)) w.heap.size zs := heap_alloc_new w _

theorem Bs.on {w w' : World} {v : Value} {l : List UInt8} {o : Obj} (h : Bs w v l) (hb : Below (w.alloc o).heap.size (w.alloc o) w') : Bs w' v l :=
  (h.below ((Below.refl w.heap.size w).alloc (Nat.le_refl _) o) (Nat.le_refl _)).below hb (Nat.le_refl _)
theorem below_on {B : Nat} {w0 w w' : World} {o : Obj} (h : Below B w0 w) (hB : B ≤ w.heap.size) (hb : Below (w.alloc o).heap.size (w.alloc o) w') : Below B w0 w' ∧ B ≤ w'.heap.size :=
  ⟨(h.alloc hB o).trans (hb.mono (by simp; omega)), by have := hb.size; simp at this; omega⟩
theorem below_same {w w' : World} (h : w' = w) : Below w.heap.size w w' := h ▸ Below.refl _ _
theorem cell_on {w w' : World} {a : Addr} {v : Value} {o : Obj} (h : w.cell? a = some v) (hb : Below (w.alloc o).heap.size (w.alloc o) w') : w'.cell? a = some v := by
  have hlt := World.block_lt_of_cell? w a h
  rw [hb.cell (p := a) (by simp; omega), ((Below.refl w.heap.size w).alloc (Nat.le_refl _) o).cell (p := a) hlt]
  exact h
theorem below_more {B : Nat} {w0 w w' : World} (h : Below B w0 w) (hB : B ≤ w.heap.size) (hb : Below w.heap.size w w') : Below B w0 w' ∧ B ≤ w'.heap.size :=
  ⟨h.trans (hb.mono hB), Nat.le_trans hB hb.size⟩

set_option maxHeartbeats 4000000 in
set_option maxRecDepth 100000 in
theorem shown_any (w : World) : Calls Try.prog 8 #[] w fun e w' => e = .returned (.bool true) ∧ Below w.heap.size w w' := by
  go_enter Try.func8, Try.ntmps8
  go_wp2_with fail
  have b1 := lit_bs (row_lit w [1, 2]) (by decide)
  refine (put_bs _ _ 300 _ b1 (by omega) (by simp)).mono ?_
  rintro e w1 ⟨v1, rfl, h1, hb1⟩
  rw [s_put] at h1
  have B1 := hide (below_on (Below.refl w.heap.size w) (Nat.le_refl _) hb1)
  have H1 := hide h1
  clear h1 hb1 b1
  go_wp2_with fail
  have b2 := ((nrow_lit w1 [5, 5, 5, 5]).own (Nat.zero_le _) (by decide)).ns
  refine (putRow_bs _ _ [] _ _ (Bs.nil _) b2 fit5 (by decide) (by decide)).mono ?_
  rintro e w2 ⟨v2, rfl, h2, hb2⟩
  rw [s_row5] at h2
  have B2 := hide (below_on B1.out.1 B1.out.2 hb2)
  have H1 := hide (H1.out.on hb2)
  have H2 := hide h2
  clear h2 hb2 b2
  go_wp2_with fail
  have b3 := ((nrow_lit w2 [1000, 1001, 1002]).own (Nat.zero_le _) (by decide)).ns
  refine (putRow_bs _ _ [] _ _ (Bs.nil _) b3 fit1000 (by decide) (by decide)).mono ?_
  rintro e w3 ⟨v3, rfl, h3, hb3⟩
  rw [s_row1000] at h3
  have B3 := hide (below_on B2.out.1 B2.out.2 hb3)
  have H1 := hide (H1.out.on hb3)
  have H2 := hide (H2.out.on hb3)
  have H3 := hide h3
  clear h3 hb3 b3
  go_wp2_with fail
  have b4 := lit_bs (row_lit w3 [4, 2, 1, 4, 10, 9]) (by decide)
  refine (getRow_any _ _ 4 _ b4 (by omega) (by omega)).mono ?_
  rintro e w4 ⟨h4, hb4⟩
  rw [s_getRow] at h4
  obtain ⟨v4, rfl, h4⟩ := h4
  obtain ⟨ao, cap4, rfl, _, _, hs4⟩ := h4.shape
  obtain ⟨g4, rfl, _, hc4⟩ := hs4 (by decide)
  have hc43 := hc4 3 (by decide)
  have B4 := hide (below_on B3.out.1 B3.out.2 hb4)
  have H1 := hide (H1.out.on hb4)
  have H2 := hide (H2.out.on hb4)
  have H3 := hide (H3.out.on hb4)
  have H4 := hide (show w4.cell? ⟨g4, 3, none⟩ = some (.int .i64 5) from hc43)
  clear h4 hb4 b4 hs4 hc4 hc43
  go_wp2_with fail
  have b5 := getText_any _ _ _ (lit_bs (row_lit w4 [1, 97, 98]) (by decide))
  rw [s_text] at b5
  refine b5.mono ?_
  rintro e w5 ⟨rfl, hw5⟩
  have hb5 := below_same hw5
  have B5 := hide (below_on B4.out.1 B4.out.2 hb5)
  have H1 := hide (H1.out.on hb5)
  have H2 := hide (H2.out.on hb5)
  have H3 := hide (H3.out.on hb5)
  have H4 := hide (cell_on H4.out hb5)
  clear b5 hb5 hw5
  go_wp2_with fail
  have b6 := getInt_any _ _ _ (lit_bs (row_lit w5 [1]) (by decide))
  rw [s_int] at b6
  refine b6.mono ?_
  rintro e w6 ⟨rfl, hw6⟩
  have hb6 := below_same hw6
  have B6 := hide (below_on B5.out.1 B5.out.2 hb6)
  have H1 := hide (H1.out.on hb6)
  have H2 := hide (H2.out.on hb6)
  have H3 := hide (H3.out.on hb6)
  have H4 := hide (cell_on H4.out hb6)
  clear b6 hb6 hw6
  go_wp2_with fail
  have b7 := get_any _ _ _ (lit_bs (row_lit w6 [172, 2]) (by decide))
  rw [s_get] at b7
  refine b7.mono ?_
  rintro e w7 ⟨rfl, hw7⟩
  have hb7 := below_same hw7
  have B7 := hide (below_on B6.out.1 B6.out.2 hb7)
  have c1 := conv_bs (H1.out.on hb7)
  have c2 := conv_bs (H2.out.on hb7)
  have c3 := conv_bs (H3.out.on hb7)
  have c4 := cell_on H4.out hb7
  clear b7 hb7 hw7 H1 H2 H3 H4
  have kc := fun (w : World) (C : Array Value) (n c : Nat) => Lib.run_convert_bytes_const (P := Try.prog) w 22 5 C n c Try.underlying22 Try.underlying5
  go_wp2_with fail
  clear kc c1 c2 c3 c4
  have b8 := sum_any _ _ _ (mark_bs w7 [49, 50, 51, 52, 53, 54, 55, 56, 57] (9, 10) (by decide))
  rw [s_sum] at b8
  refine b8.mono ?_
  rintro e w8 ⟨rfl, hw8⟩
  have hb8 := below_same hw8
  have B8 := hide (below_on B7.out.1 B7.out.2 hb8)
  clear b8 hb8 hw8
  go_wp2_with fail
  have b9 := putText_bs _ [] ⟨#[97]⟩ w8 (Bs.nil _) (by decide)
  rw [s_putText] at b9
  refine b9.mono ?_
  rintro e w9 ⟨v9, rfl, h9, hb9⟩
  have B9 := hide (below_more B8.out.1 B8.out.2 hb9)
  have c9 := conv_bs h9
  clear b9 h9 hb9
  go_wp2_with fail
  clear c9
  have b10 := putInt_bs _ [] (-1) w9 (Bs.nil _) (by omega) (by omega) (by decide)
  rw [s_putInt] at b10
  refine b10.mono ?_
  rintro e w10 ⟨v10, rfl, h10, hb10⟩
  have B10 := hide (below_more B9.out.1 B9.out.2 hb10)
  have c10 := conv_bs h10
  clear b10 h10 hb10
  go_wp2
  go_ret
  exact ⟨rfl, B10.out.1⟩
end Go.Proofs.Ytoccbeefmagklaa
