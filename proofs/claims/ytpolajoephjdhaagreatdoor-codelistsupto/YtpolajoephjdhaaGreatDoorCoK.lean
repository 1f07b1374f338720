/-
  List.
-/
import Derived.Test.YtpolajoephjdhaaGreatDoorCoJ
namespace Go.Proofs.YtpolajoephjdhaaGreatDoor
open Go.RowKit
set_option maxRecDepth 100000
theorem lstOk_rt {r : Rt} (h : lstOk r = true) : rtOk r = true := by
  unfold lstOk at h
  rw [Bool.and_eq_true] at h
  exact h.1
theorem rtOk_code {r : Rt} (h : rtOk r = true) : r.code.length ≤ 2000 := by
  unfold rtOk at h
  simp only [Bool.and_eq_true, decide_eq_true_eq] at h
  exact h.1.2
set_option maxHeartbeats 4000000 in
theorem list_at {Q : Nat → Prop} {W : World} {n c : Nat} {ao : Option Addr} (nm : ByteArray) (pa lo : Int) (code : List Ins) (hn : n = code.length) (hc1 : n ≤ c) (hc2 : c ≤ 9223372036854775807) (h : Il Q W (.slice ao n c) code) (i1 : I6 pa) (i2 : I6 lo) (hk : Kd W) : Calls Tryz.prog 17 #[.agg #[.string nm, .int .i64 pa, .int .i64 lo, .slice ao n c]] W fun e w' => e = .returned (.string (listB ⟨nm, pa, lo, code⟩)) ∧ Below W.heap.size W w' := by
  obtain ⟨w0, hw0⟩ : ∃ X, X = W.alloc (.cells #[.string nm, .int .i64 pa, .int .i64 lo, .slice ao n c] 45) := ⟨_, rfl⟩
  have B0 : Below W.heap.size W w0 := hw0 ▸ below_alloc W _
  have n1 : w0.heap[W.heap.size]? = some (.cells #[.string nm, .int .i64 pa, .int .i64 lo, .slice ao n c] 45 (0, 0)) := by rw [hw0]; exact heap_alloc_new W _
  obtain ⟨B, hB⟩ : ∃ B, B = W.heap.size := ⟨_, rfl⟩
  rw [← hB] at n1
  have cc : ∀ w : World, w.heap[B]? = some (.cells #[.string nm, .int .i64 pa, .int .i64 lo, .slice ao n c] 45 (0, 0)) → w.cell? ⟨B, 0, none⟩ = some (.string nm) ∧ w.cell? ⟨B, 1, none⟩ = some (.int .i64 pa) ∧ w.cell? ⟨B, 2, none⟩ = some (.int .i64 lo) ∧ w.cell? ⟨B, 3, none⟩ = some (.slice ao n c) := fun w h => by
    refine ⟨?_, ?_, ?_, ?_⟩ <;> rw [cell_of_row w _ _ _ 45 (0, 0) h] <;> rfl
  have CC := hide cc
  obtain ⟨c0, c1, c2, c3⟩ := cc w0 n1
  have J := hide (maylist_at nm pa lo code hn hc1 hc2 (h.later B0) (hk.1.later B0))
  obtain ⟨te, hte⟩ : ∃ t, t = listB ⟨nm, pa, lo, code⟩ := ⟨_, rfl⟩
  rw [← hte]
  have TE := hide hte
  have HW := hide hw0
  have HB := hide B0
  have EB := hide hB
  have N1 := hide n1
  have H := hide h
  have HK := hide hk
  have HN := hide hn
  have I1 := hide i1
  have I2 := hide i2
  have H6 := hide h.i6
  have HO : Hid (lstOk ⟨nm, pa, lo, code⟩ = true → nm.size ≤ 16 ∧ code.length ≤ 2000) := fun h => ⟨(rtOk_name (lstOk_rt h)).2, rtOk_code (lstOk_rt h)⟩
  clear hte n1 B0 hk h hn i1 i2 cc
  unfold listB listL at TE
  dsimp only at TE
  generalize lstOk ⟨nm, pa, lo, code⟩ = q at *
  go_enter Tryz.func17, Tryz.ntmps17
  go_upto_region 1 with fail
  rw [← hw0, ← hB]
  clear hw0 hB
  cases q with
  | false =>
    obtain rfl : te = ⟨#[]⟩ := by rw [TE.out]; rfl
    go_wp2_with fail
    refine J.out.mono ?_
    rintro e w2 ⟨rfl, hb2⟩
    go_wp2_with fail
    go_ret
    exact ⟨rfl, below_on HB.out hb2⟩
  | true =>
    obtain ⟨hz, hl⟩ := HO.out rfl
    rw [← HN.out] at hl
    go_wp2_with fail
    refine J.out.mono ?_
    rintro e w2 ⟨rfl, hb2⟩
    have HB2 := hide (below_on HB.out hb2)
    have n2 := (hb2.block B (lt_of_block N1.out)).trans N1.out
    obtain ⟨w3, hw3⟩ : ∃ X, X = w2.alloc (.cells #[.pointer none, .slice none 0 0] 97) := ⟨_, rfl⟩
    obtain ⟨b, hb⟩ : ∃ b, b = w2.heap.size := ⟨_, rfl⟩
    have B3 : Below w2.heap.size w2 w3 := hw3 ▸ below_alloc w2 _
    have n3 := (B3.block B (lt_of_block n2)).trans n2
    have hBb : B < b := hb ▸ lt_of_block n2
    obtain ⟨d0, d1, d2, d3⟩ := CC.out w3 n3
    have N3 := hide n3
    have K3 := HK.out.later (below_on HB2.out B3)
    have J2 := hide (headline_any nm pa lo (.slice ao n c) (by omega) I1.out I2.out w3 K3)
    have X3 : Hid (Lib.BuilderAt 97 5 b b (.pointer none) [] w3) := ⟨Nat.le_refl _, .slice none 0 0, by rw [hw3, hb]; exact heap_alloc_new w2 _, ⟨rfl, .inl ⟨rfl, rfl⟩⟩, by simp [Value.ownBlock]⟩
    have HB3 := hide (below_on HB2.out B3)
    have HWb := hide hb
    have hs := headB_size (nm := nm) I1.out I2.out
    have k1 := cat_any (headB nm pa lo) ⟨#[10]⟩ (by show _ + 1 ≤ _; omega)
    clear hb2 n2 B3 c0 c1 c2 c3 n3 K3
    go_upto_region 4 with fail
    rw [← hw3, ← hb]
    clear hw3 hb
    go_wp2_with fail
    refine J2.out.mono ?_
    rintro e w4 ⟨rfl, hb4⟩
    have X4 := bld_later X3.out hb4
    have J3 := hide (write_any b b [] (headB nm pa lo ++ ⟨#[10]⟩) w4 (.inl X4) (by rw [ByteArray.size_append]; show 0 + (_ + 1) ≤ _; omega) (Nat.le_of_lt (bld_lt X4)))
    have N4 := hide ((hb4.block B (lt_of_block N3.out)).trans N3.out)
    have HB4 := hide (below_on HB3.out hb4)
    clear hb4 X4 J2 d0 d1 d2 d3
    go_wp2_with fail
    refine J3.out.mono ?_
    rintro e w5 ⟨rfl, hx5, hb5⟩
    have n5 := (hb5.block B hBb).trans N4.out
    obtain ⟨-, -, -, d3⟩ := CC.out w5 n5
    have e5 : [] ++ Lib.strCells (headB nm pa lo ++ ⟨#[10]⟩) = Lib.byteCells (headL nm pa lo ++ codeL (code.take 0)) := by
      rw [List.nil_append, str_bytes]
      congr 1
      unfold headL codeL
      rw [ByteArray.data_append, Array.toList_append]
      simp
    rw [e5] at hx5
    have X5 := hide hx5
    have hBw : W.heap.size ≤ b := by have := EB.out; omega
    have HB5 := hide (HB4.out.trans (hb5.mono hBw))
    clear hx5 hb5 J3 n5 e5
    go_wp2_with fail
    go_loopw [16] (fun v wr => ∃ k : Nat, v = .int .i64 (k : Int) ∧ k ≤ n ∧ Hid (Below W.heap.size W wr) ∧ Hid (Lib.BuilderAt 97 5 b b (.pointer (some ⟨b, 0, none⟩)) (Lib.byteCells (headL nm pa lo ++ codeL (code.take k))) wr)) (fun v _ => n - (intOf v).toNat)
    case atStart => exact ⟨0, rfl, by omega, HB5.out, X5.out⟩
    case round =>
      obtain ⟨k, rfl, hkk, hbw, hbx⟩ := hrel
      by_cases hlt : k < n
      · have hlt' : k < code.length := by rw [← HN.out]; exact hlt
        obtain ⟨g, o, rfl, -, d0, d1, -, ia⟩ := (H.out.later hbw.out).nth hlt'
        have g1 := World.block_lt_of_cell? wr _ d0
        obtain ⟨w6, hw6⟩ : ∃ X, X = wr.alloc (.cells #[.int .i64 code[k].op, .int .i64 code[k].a] 56) := ⟨_, rfl⟩
        have b6 : Below wr.heap.size wr w6 := hw6 ▸ below_alloc wr _
        have J4 := hide (instrline_any code[k] ia w6 ((HK.out.later hbw.out).later b6))
        have E4 := hide (codeL_snoc hlt')
        have HX := hide (below_on hbw.out b6)
        have X6 := hide (bld_later hbx.out b6)
        have ls := lineB_size ia
        have LN : Hid ((headL nm pa lo ++ codeL (code.take k)).length ≤ 200 + 28 * 2000) := by
          unfold Hid
          have q1 := headL_len (nm := nm) I1.out I2.out
          have q2 := codeL_len (l := code.take k) (fun i hi => H6.out i (List.mem_of_mem_take hi))
          rw [List.length_take] at q2
          rw [List.length_append]
          have q3 : 28 * min k code.length ≤ 28 * 2000 := Nat.mul_le_mul_left _ (by omega)
          omega
        unfold insV at J4
        have HW6 := hide hw6
        clear b6 ia
        have k2 := cat_any (lineB code[k]) ⟨#[10]⟩ (by show _ + 1 ≤ _; omega)
        have EL : Hid (Lib.strCells (lineB code[k] ++ ⟨#[10]⟩) = Lib.byteCells (lineL code[k])) := by
          unfold Hid
          rw [str_bytes]
          rfl
        generalize code[k] = x at *
        generalize lineB x = lb at *
        generalize lineL x = ll at *
        go_upto_region 8 with fail
        rw [← hw6]
        have y0 : w6.cell? ⟨wr.heap.size, 0, none⟩ = some (.int .i64 x.op) := by rw [hw6, cell_of_row _ _ _ _ 56 (0, 0) (heap_alloc_new wr _)]; rfl
        have y1 : w6.cell? ⟨wr.heap.size, 1, none⟩ = some (.int .i64 x.a) := by rw [hw6, cell_of_row _ _ _ _ 56 (0, 0) (heap_alloc_new wr _)]; rfl
        clear hw6
        go_wp2_with fail
        refine J4.out.mono ?_
        rintro e w7 ⟨rfl, hb7⟩
        have X7 := bld_later X6.out hb7
        have hwr := Nat.le_of_lt (bld_lt X7)
        have J5 := hide (write_any b b _ (lb ++ ⟨#[10]⟩) w7 (.inr X7) (by have := LN.out; rw [ByteArray.size_append, Lib.byteCells_length]; show _ + (_ + 1) ≤ _; omega) hwr)
        have HB7 := hide (below_on HX.out hb7)
        clear hb7 X7 J4
        go_wp2_with fail
        refine J5.out.mono ?_
        rintro e w8 ⟨rfl, hx8, hb8⟩
        rw [EL.out, ← Lib.byteCells_append, List.append_assoc, ← E4.out] at hx8
        have X8 := hide hx8
        have HB8 := hide (HB7.out.trans (hb8.mono hBw))
        clear hx8 hb8 J5
        go_wp2_with fail
        go_roundw
        case rel => exact ⟨k + 1, by go_num, by omega, HB8.out, X8.out⟩
        case measure => simp [intOf]; omega
      · obtain rfl : k = n := by omega
        have T2 : Hid (te = ⟨(headL nm pa lo ++ codeL (code.take k)).toArray⟩) := by
          unfold Hid
          rw [TE.out, HN.out, List.take_length]; rfl
        have J6 := hide (Tryz.Builder_String_any b b _ wr (.inr hbx.out) (Nat.le_of_lt (bld_lt hbx.out)))
        generalize headL nm pa lo ++ codeL (code.take k) = tt at *
        go_wp2_with fail
        refine J6.out.mono ?_
        rintro e w8 ⟨rfl, hb8⟩
        go_wp2_with fail
        go_ret
        rw [T2.out]
        exact ⟨rfl, hbw.out.trans (hb8.mono hBw)⟩
theorem list_any {Q : Nat → Prop} {W : World} {vc : Value} (r : Rt) (h : Il Q W vc r.code) (i1 : I6 r.pa) (i2 : I6 r.lo) (hk : Kd W) : Calls Tryz.prog 17 #[rtV r vc] W fun e w' => e = .returned (.string (listB r)) ∧ Below W.heap.size W w' := by
  obtain ⟨ao, c, rfl, hc1, hc2⟩ := h.at
  exact list_at r.name r.pa r.lo r.code rfl hc1 hc2 h i1 i2 hk
end Go.Proofs.YtpolajoephjdhaaGreatDoor
