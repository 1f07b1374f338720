import Derived.Test.YtpolajoephjdhaaGreatDoorCoI
import Derived.Lib.IndexLaws
import Derived.Lib.ParseIntB
import Derived.Lib.AtoiErrMem
/-
  List.
-/
namespace Go.Proofs.YtpolajoephjdhaaGreatDoor
open Go.RowKit
set_option maxRecDepth 100000
def lineL (i : Ins) : List UInt8 := (lineB i).data.toList ++ [10]
def headL (nm : ByteArray) (pa lo : Int) : List UInt8 := (headB nm pa lo).data.toList ++ [10]
def codeL (l : List Ins) : List UInt8 := l.flatMap lineL
/-- The lines of a routine. -/
def listL (r : Rt) : List UInt8 := if lstOk r then headL r.name r.pa r.lo ++ codeL r.code else []
def listB (r : Rt) : ByteArray := ⟨(listL r).toArray⟩
theorem codeL_snoc {l : List Ins} {k : Nat} (h : k < l.length) : codeL (l.take (k + 1)) = codeL (l.take k) ++ lineL l[k] := by
  unfold codeL
  rw [List.take_add_one, List.getElem?_eq_getElem h, List.flatMap_append]
  simp
theorem lineB_size {i : Ins} (h : I6 i.a) : (lineB i).size ≤ 27 := by
  have h1 := wd_size (opk i.op)
  have h2 := itB_size h
  unfold lineB
  split
  · rw [ByteArray.size_append, ByteArray.size_append]
    show _ + 1 + _ ≤ 27
    omega
  · omega
theorem lineL_len {i : Ins} (h : I6 i.a) : (lineL i).length ≤ 28 := by
  have := lineB_size h
  unfold lineL
  rw [List.length_append, Array.length_toList]
  show (lineB i).size + 1 ≤ 28
  omega
theorem headB_size {nm : ByteArray} {pa lo : Int} (h1 : I6 pa) (h2 : I6 lo) : (headB nm pa lo).size ≤ nm.size + 44 := by
  have := itB_size h1
  have := itB_size h2
  unfold headB
  rw [ByteArray.size_append, ByteArray.size_append, ByteArray.size_append, ByteArray.size_append]
  show _ + 1 + _ + 1 + _ ≤ _
  omega
theorem headL_len {nm : ByteArray} {pa lo : Int} (h1 : I6 pa) (h2 : I6 lo) : (headL nm pa lo).length ≤ nm.size + 45 := by
  have := headB_size (nm := nm) h1 h2
  unfold headL
  rw [List.length_append, Array.length_toList]
  show (headB nm pa lo).size + 1 ≤ _
  omega
theorem codeL_len : ∀ {l : List Ins}, (∀ i ∈ l, I6 i.a) → (codeL l).length ≤ 28 * l.length
  | [], _ => by simp [codeL]
  | i :: l, h => by
    have h1 := lineL_len (h i (by simp))
    have h2 := codeL_len (l := l) (fun j hj => h j (by simp [hj]))
    unfold codeL at h2 ⊢
    rw [List.flatMap_cons, List.length_append, List.length_cons]
    omega
theorem bld_later {T e B b : Nat} {p : Value} {bs : List Value} {w w' : World} (h : Lib.BuilderAt T e B b p bs w) (hb : Below w.heap.size w w') : Lib.BuilderAt T e B b p bs w' := by
  obtain ⟨h1, v, h2, h3, h4⟩ := h
  exact ⟨h1, v, (hb.block b (lt_of_block h2)).trans h2, own_later h3 hb, h4⟩
theorem bld_lt {T e B b : Nat} {p : Value} {bs : List Value} {w : World} (h : Lib.BuilderAt T e B b p bs w) : b < w.heap.size := by
  obtain ⟨h1, v, h2, h3, h4⟩ := h
  exact lt_of_block h2
theorem str_bytes (s : ByteArray) : Lib.strCells s = Lib.byteCells s.data.toList := by rfl
theorem Il.i6 {Q : Nat → Prop} {W : World} {v : Value} {l : List Ins} (h : Il Q W v l) : ∀ i ∈ l, I6 i.a := by
  obtain ⟨ao, c, h1, h2, h3, h4⟩ := h
  intro i hi
  obtain ⟨k, hk, rfl⟩ := List.getElem_of_mem hi
  obtain ⟨g, o, -, -, h5⟩ := h4 (by omega)
  exact (h5 k hk).2.1
end Go.Proofs.YtpolajoephjdhaaGreatDoor

/-
  List.
-/
namespace Go.Proofs.YtpolajoephjdhaaGreatDoor
open Go.RowKit
set_option maxRecDepth 100000
theorem lstOk_rt {r : Rt} (h : lstOk r = true) : rtOk r = true := by
  unfold lstOk at h
  rw [Bool.and_eq_true] at h
  exact h.1
theorem rtOk_code {r : Rt} (h : rtOk r = true) : r.code.length ≤ 2000 := by
  unfold rtOk at h
  simp only [Bool.and_eq_true, decide_eq_true_eq] at h
  exact h.1.2
set_option maxHeartbeats 4000000 in
theorem list_at {Q : Nat → Prop} {W : World} {n c : Nat} {ao : Option Addr} (nm : ByteArray) (pa lo : Int) (code : List Ins) (hn : n = code.length) (hc1 : n ≤ c) (hc2 : c ≤ 9223372036854775807) (h : Il Q W (.slice ao n c) code) (i1 : I6 pa) (i2 : I6 lo) (hk : Kd W) : Calls Tryz.prog 17 #[.agg #[.string nm, .int .i64 pa, .int .i64 lo, .slice ao n c]] W fun e w' => e = .returned (.string (listB ⟨nm, pa, lo, code⟩)) ∧ Below W.heap.size W w' := by
  obtain ⟨w0, hw0⟩ : ∃ X, X = W.alloc (.cells #[.string nm, .int .i64 pa, .int .i64 lo, .slice ao n c] 45) := ⟨_, rfl⟩
  have B0 : Below W.heap.size W w0 := hw0 ▸ below_alloc W _
  have n1 : w0.heap[W.heap.size]? = some (.cells #[.string nm, .int .i64 pa, .int .i64 lo, .slice ao n c] 45 (0, 0)) := by rw [hw0]; exact heap_alloc_new W _
  obtain ⟨B, hB⟩ : ∃ B, B = W.heap.size := ⟨_, rfl⟩
  rw [← hB] at n1
  have cc : ∀ w : World, w.heap[B]? = some (.cells #[.string nm, .int .i64 pa, .int .i64 lo, .slice ao n c] 45 (0, 0)) → w.cell? ⟨B, 0, none⟩ = some (.string nm) ∧ w.cell? ⟨B, 1, none⟩ = some (.int .i64 pa) ∧ w.cell? ⟨B, 2, none⟩ = some (.int .i64 lo) ∧ w.cell? ⟨B, 3, none⟩ = some (.slice ao n c) := fun w h => by
    refine ⟨?_, ?_, ?_, ?_⟩ <;> rw [cell_of_row w _ _ _ 45 (0, 0) h] <;> rfl
  have CC := hide cc
  obtain ⟨c0, c1, c2, c3⟩ := cc w0 n1
  have J := hide (maylist_at nm pa lo code hn hc1 hc2 (h.later B0) (hk.1.later B0))
  obtain ⟨te, hte⟩ : ∃ t, t = listB ⟨nm, pa, lo, code⟩ := ⟨_, rfl⟩
  rw [← hte]
  have TE := hide hte
  have HW := hide hw0
  have HB := hide B0
  have EB := hide hB
  have N1 := hide n1
  have H := hide h
  have HK := hide hk
  have HN := hide hn
  have I1 := hide i1
  have I2 := hide i2
  have H6 := hide h.i6
  have HO : Hid (lstOk ⟨nm, pa, lo, code⟩ = true → nm.size ≤ 16 ∧ code.length ≤ 2000) := fun h => ⟨(rtOk_name (lstOk_rt h)).2, rtOk_code (lstOk_rt h)⟩
  clear hte n1 B0 hk h hn i1 i2 cc
  unfold listB listL at TE
  dsimp only at TE
  generalize lstOk ⟨nm, pa, lo, code⟩ = q at *
  go_enter Tryz.func17, Tryz.ntmps17
  go_upto_region 1 with fail
  rw [← hw0, ← hB]
  clear hw0 hB
  cases q with
  | false =>
    obtain rfl : te = ⟨#[]⟩ := by rw [TE.out]; rfl
    go_wp2_with fail
    refine J.out.mono ?_
    rintro e w2 ⟨rfl, hb2⟩
    go_wp2_with fail
    go_ret
    exact ⟨rfl, below_on HB.out hb2⟩
  | true =>
    obtain ⟨hz, hl⟩ := HO.out rfl
    rw [← HN.out] at hl
    go_wp2_with fail
    refine J.out.mono ?_
    rintro e w2 ⟨rfl, hb2⟩
    have HB2 := hide (below_on HB.out hb2)
    have n2 := (hb2.block B (lt_of_block N1.out)).trans N1.out
    obtain ⟨w3, hw3⟩ : ∃ X, X = w2.alloc (.cells #[.pointer none, .slice none 0 0] 97) := ⟨_, rfl⟩
    obtain ⟨b, hb⟩ : ∃ b, b = w2.heap.size := ⟨_, rfl⟩
    have B3 : Below w2.heap.size w2 w3 := hw3 ▸ below_alloc w2 _
    have n3 := (B3.block B (lt_of_block n2)).trans n2
    have hBb : B < b := hb ▸ lt_of_block n2
    obtain ⟨d0, d1, d2, d3⟩ := CC.out w3 n3
    have N3 := hide n3
    have K3 := HK.out.later (below_on HB2.out B3)
    have J2 := hide (headline_any nm pa lo (.slice ao n c) (by omega) I1.out I2.out w3 K3)
    have X3 : Hid (Lib.BuilderAt 97 5 b b (.pointer none) [] w3) := ⟨Nat.le_refl _, .slice none 0 0, by rw [hw3, hb]; exact heap_alloc_new w2 _, ⟨rfl, .inl ⟨rfl, rfl⟩⟩, by simp [Value.ownBlock]⟩
    have HB3 := hide (below_on HB2.out B3)
    have HWb := hide hb
    have hs := headB_size (nm := nm) I1.out I2.out
    have k1 := cat_any (headB nm pa lo) ⟨#[10]⟩ (by show _ + 1 ≤ _; omega)
    clear hb2 n2 B3 c0 c1 c2 c3 n3 K3
    go_upto_region 4 with fail
    rw [← hw3, ← hb]
    clear hw3 hb
    go_wp2_with fail
    refine J2.out.mono ?_
    rintro e w4 ⟨rfl, hb4⟩
    have X4 := bld_later X3.out hb4
    have J3 := hide (write_any b b [] (headB nm pa lo ++ ⟨#[10]⟩) w4 (.inl X4) (by rw [ByteArray.size_append]; show 0 + (_ + 1) ≤ _; omega) (Nat.le_of_lt (bld_lt X4)))
    have N4 := hide ((hb4.block B (lt_of_block N3.out)).trans N3.out)
    have HB4 := hide (below_on HB3.out hb4)
    clear hb4 X4 J2 d0 d1 d2 d3
    go_wp2_with fail
    refine J3.out.mono ?_
    rintro e w5 ⟨rfl, hx5, hb5⟩
    have n5 := (hb5.block B hBb).trans N4.out
    obtain ⟨-, -, -, d3⟩ := CC.out w5 n5
    have e5 : [] ++ Lib.strCells (headB nm pa lo ++ ⟨#[10]⟩) = Lib.byteCells (headL nm pa lo ++ codeL (code.take 0)) := by
      rw [List.nil_append, str_bytes]
      congr 1
      unfold headL codeL
      rw [ByteArray.data_append, Array.toList_append]
      simp
    rw [e5] at hx5
    have X5 := hide hx5
    have hBw : W.heap.size ≤ b := by have := EB.out; omega
    have HB5 := hide (HB4.out.trans (hb5.mono hBw))
    clear hx5 hb5 J3 n5 e5
    go_wp2_with fail
    go_loopw [16] (fun v wr => ∃ k : Nat, v = .int .i64 (k : Int) ∧ k ≤ n ∧ Hid (Below W.heap.size W wr) ∧ Hid (Lib.BuilderAt 97 5 b b (.pointer (some ⟨b, 0, none⟩)) (Lib.byteCells (headL nm pa lo ++ codeL (code.take k))) wr)) (fun v _ => n - (intOf v).toNat)
    case atStart => exact ⟨0, rfl, by omega, HB5.out, X5.out⟩
    case round =>
      obtain ⟨k, rfl, hkk, hbw, hbx⟩ := hrel
      by_cases hlt : k < n
      · have hlt' : k < code.length := by rw [← HN.out]; exact hlt
        obtain ⟨g, o, rfl, -, d0, d1, -, ia⟩ := (H.out.later hbw.out).nth hlt'
        have g1 := World.block_lt_of_cell? wr _ d0
        obtain ⟨w6, hw6⟩ : ∃ X, X = wr.alloc (.cells #[.int .i64 code[k].op, .int .i64 code[k].a] 56) := ⟨_, rfl⟩
        have b6 : Below wr.heap.size wr w6 := hw6 ▸ below_alloc wr _
        have J4 := hide (instrline_any code[k] ia w6 ((HK.out.later hbw.out).later b6))
        have E4 := hide (codeL_snoc hlt')
        have HX := hide (below_on hbw.out b6)
        have X6 := hide (bld_later hbx.out b6)
        have ls := lineB_size ia
        have LN : Hid ((headL nm pa lo ++ codeL (code.take k)).length ≤ 200 + 28 * 2000) := by
          unfold Hid
          have q1 := headL_len (nm := nm) I1.out I2.out
          have q2 := codeL_len (l := code.take k) (fun i hi => H6.out i (List.mem_of_mem_take hi))
          rw [List.length_take] at q2
          rw [List.length_append]
          have q3 : 28 * min k code.length ≤ 28 * 2000 := Nat.mul_le_mul_left _ (by omega)
          omega
        unfold insV at J4
        have HW6 := hide hw6
        clear b6 ia
        have k2 := cat_any (lineB code[k]) ⟨#[10]⟩ (by show _ + 1 ≤ _; omega)
        have EL : Hid (Lib.strCells (lineB code[k] ++ ⟨#[10]⟩) = Lib.byteCells (lineL code[k])) := by
          unfold Hid
          rw [str_bytes]
          rfl
        generalize code[k] = x at *
        generalize lineB x = lb at *
        generalize lineL x = ll at *
        go_upto_region 8 with fail
        rw [← hw6]
        have y0 : w6.cell? ⟨wr.heap.size, 0, none⟩ = some (.int .i64 x.op) := by rw [hw6, cell_of_row _ _ _ _ 56 (0, 0) (heap_alloc_new wr _)]; rfl
        have y1 : w6.cell? ⟨wr.heap.size, 1, none⟩ = some (.int .i64 x.a) := by rw [hw6, cell_of_row _ _ _ _ 56 (0, 0) (heap_alloc_new wr _)]; rfl
        clear hw6
        go_wp2_with fail
        refine J4.out.mono ?_
        rintro e w7 ⟨rfl, hb7⟩
        have X7 := bld_later X6.out hb7
        have hwr := Nat.le_of_lt (bld_lt X7)
        have J5 := hide (write_any b b _ (lb ++ ⟨#[10]⟩) w7 (.inr X7) (by have := LN.out; rw [ByteArray.size_append, Lib.byteCells_length]; show _ + (_ + 1) ≤ _; omega) hwr)
        have HB7 := hide (below_on HX.out hb7)
        clear hb7 X7 J4
        go_wp2_with fail
        refine J5.out.mono ?_
        rintro e w8 ⟨rfl, hx8, hb8⟩
        rw [EL.out, ← Lib.byteCells_append, List.append_assoc, ← E4.out] at hx8
        have X8 := hide hx8
        have HB8 := hide (HB7.out.trans (hb8.mono hBw))
        clear hx8 hb8 J5
        go_wp2_with fail
        go_roundw
        case rel => exact ⟨k + 1, by go_num, by omega, HB8.out, X8.out⟩
        case measure => simp [intOf]; omega
      · obtain rfl : k = n := by omega
        have T2 : Hid (te = ⟨(headL nm pa lo ++ codeL (code.take k)).toArray⟩) := by
          unfold Hid
          rw [TE.out, HN.out, List.take_length]; rfl
        have J6 := hide (Tryz.Builder_String_any b b _ wr (.inr hbx.out) (Nat.le_of_lt (bld_lt hbx.out)))
        generalize headL nm pa lo ++ codeL (code.take k) = tt at *
        go_wp2_with fail
        refine J6.out.mono ?_
        rintro e w8 ⟨rfl, hb8⟩
        go_wp2_with fail
        go_ret
        rw [T2.out]
        exact ⟨rfl, hbw.out.trans (hb8.mono hBw)⟩
theorem list_any {Q : Nat → Prop} {W : World} {vc : Value} (r : Rt) (h : Il Q W vc r.code) (i1 : I6 r.pa) (i2 : I6 r.lo) (hk : Kd W) : Calls Tryz.prog 17 #[rtV r vc] W fun e w' => e = .returned (.string (listB r)) ∧ Below W.heap.size W w' := by
  obtain ⟨ao, c, rfl, hc1, hc2⟩ := h.at
  exact list_at r.name r.pa r.lo r.code rfl hc1 hc2 h i1 i2 hk
end Go.Proofs.YtpolajoephjdhaaGreatDoor

/-
  strings.Cut at one byte.
-/
namespace Go.Proofs.YtpolajoephjdhaaGreatDoor
open Go.RowKit
set_option maxRecDepth 100000
def bs (l : List UInt8) : ByteArray := ⟨l.toArray⟩
theorem bs_toList (s : ByteArray) : bs s.data.toList = s := rfl
theorem toList_bs (l : List UInt8) : (bs l).data.toList = l := rfl
theorem bs_inj {a b : List UInt8} (h : bs a = bs b) : a = b := by
  have := congrArg (fun x : ByteArray => x.data.toList) h
  simpa [bs] using this
theorem bs_ext {a b : ByteArray} (h : a.data.toList = b.data.toList) : a = b := by rw [← bs_toList a, ← bs_toList b, h]
theorem bs_size (l : List UInt8) : (bs l).size = l.length := by simp [bs, ByteArray.size]
theorem bs_append (a b : List UInt8) : bs a ++ bs b = bs (a ++ b) := bs_ext (by rw [toList_bs, ByteArray.data_append, Array.toList_append]; rfl)
/-- What stands ahead of a byte, and behind it. -/
def bef (c : UInt8) : List UInt8 → List UInt8
  | [] => []
  | b :: l => if b == c then [] else b :: bef c l
def aft (c : UInt8) : List UInt8 → List UInt8
  | [] => []
  | b :: l => if b == c then l else aft c l
def hasC (c : UInt8) : List UInt8 → Bool
  | [] => false
  | b :: l => if b == c then true else hasC c l
theorem cut_no (c : UInt8) : ∀ l : List UInt8, Lib.indexByte l c = -1 → bef c l = l ∧ aft c l = [] ∧ hasC c l = false
  | [], _ => ⟨rfl, rfl, rfl⟩
  | b :: l, h => by
    rw [Lib.indexByte] at h
    by_cases hb : (b == c) = true
    · rw [if_pos hb] at h; omega
    · rw [if_neg hb] at h
      have h1 : Lib.indexByte l c = -1 := by
        by_cases h2 : (Lib.indexByte l c == -1) = true
        · simpa using h2
        · rw [if_neg h2] at h
          have := Lib.indexByte_ge l c
          have h3 : Lib.indexByte l c ≠ -1 := by simpa using h2
          omega
      obtain ⟨e1, e2, e3⟩ := cut_no c l h1
      exact ⟨by rw [bef, if_neg hb, e1], by rw [aft, if_neg hb, e2], by rw [hasC, if_neg hb, e3]⟩
theorem cut_yes (c : UInt8) : ∀ (l : List UInt8) (o : Nat), Lib.indexByte l c = (o : Int) → o < l.length ∧ bef c l = l.take o ∧ aft c l = l.drop (o + 1) ∧ hasC c l = true
  | [], o, h => by rw [Lib.indexByte] at h; omega
  | b :: l, o, h => by
    rw [Lib.indexByte] at h
    by_cases hb : (b == c) = true
    · rw [if_pos hb] at h
      obtain rfl : o = 0 := by omega
      exact ⟨by simp, by rw [bef, if_pos hb]; rfl, by rw [aft, if_pos hb]; rfl, by rw [hasC, if_pos hb]⟩
    · rw [if_neg hb] at h
      by_cases h2 : (Lib.indexByte l c == -1) = true
      · rw [if_pos h2] at h; omega
      · rw [if_neg h2] at h
        have := Lib.indexByte_ge l c
        have h3 : Lib.indexByte l c ≠ -1 := by simpa using h2
        obtain ⟨o', rfl⟩ : ∃ o', o = o' + 1 := ⟨o - 1, by omega⟩
        obtain ⟨e0, e1, e2, e3⟩ := cut_yes c l o' (by omega)
        exact ⟨by simp; omega, by rw [bef, if_neg hb, e1]; rfl, by rw [aft, if_neg hb, e2]; rfl, by rw [hasC, if_neg hb, e3]⟩
theorem ext_list (s : ByteArray) (a b : Nat) : s.extract a b = bs ((s.data.toList.take b).drop a) := by
  refine bs_ext ?_
  rw [toList_bs, ByteArray.data_extract, Array.toList_extract, List.extract_eq_take_drop, List.drop_take]
set_option maxHeartbeats 1000000 in
theorem scut_any (s : ByteArray) (c : UInt8) (hs : s.size ≤ 9223372036854775800) (w : World) : Calls Tryz.prog 81 #[.string s, .string ⟨#[c]⟩] w fun e w' => e = .returned (.tuple #[.string (bs (bef c s.data.toList)), .string (bs (aft c s.data.toList)), .bool (hasC c s.data.toList)]) ∧ Below w.heap.size w w' := by
  have J := hide (Tryz.stringslite_Index_one s c w)
  have hg := Lib.indexByte_ge s.data.toList c
  rcases (show Lib.indexByte s.data.toList c = -1 ∨ 0 ≤ Lib.indexByte s.data.toList c by omega) with h | h
  · obtain ⟨e1, e2, e3⟩ := cut_no c _ h
    rw [e1, e2, e3, bs_toList]
    rw [h] at J
    clear hg h e1 e2 e3
    go_enter Tryz.func81, Tryz.ntmps81
    go_wp2_with fail
    refine J.out.mono ?_
    rintro e w' ⟨rfl, rfl⟩
    go_wp2_with fail
    go_ret3
    exact ⟨rfl, Below.refl _ _⟩
  · obtain ⟨o, ho⟩ : ∃ o : Nat, Lib.indexByte s.data.toList c = (o : Int) := ⟨(Lib.indexByte s.data.toList c).toNat, by omega⟩
    obtain ⟨e0, e1, e2, e3⟩ := cut_yes c _ o ho
    rw [e1, e2, e3]
    rw [ho] at J
    rw [Array.length_toList] at e0
    have e0' : o < s.size := e0
    have x1 : s.extract 0 o = bs (s.data.toList.take o) := by rw [ext_list]; rfl
    have x2 : s.extract (o + 1) s.size = bs (s.data.toList.drop (o + 1)) := by
      rw [ext_list, List.take_of_length_le (by rw [Array.length_toList]; exact Nat.le_refl _)]
    rw [← x1, ← x2]
    have c1 : (0 : Int) ≤ (o : Int) := by omega
    have c2 : (o : Int) ≤ (s.size : Int) := by omega
    have c3 : (0 : Int) ≤ (o : Int) + 1 := by omega
    have c4 : (o : Int) + 1 ≤ (s.size : Int) := by omega
    have c5 : IntKind.i64.wrap ((o : Int) + 1) = (o : Int) + 1 := by rw [IntKind.wrap_i64]; omega
    clear hg h ho e1 e2 e3 e0 x1 x2
    go_enter Tryz.func81, Tryz.ntmps81
    go_wp2_with fail
    refine J.out.mono ?_
    rintro e w' ⟨rfl, rfl⟩
    go_upto_region 3 with fail
    go_quiet (fail)
    go_wp2_with fail
    go_ret3
    exact ⟨rfl, below_drawn _ _⟩
theorem cut_any (s : ByteArray) (c : UInt8) (hs : s.size ≤ 9223372036854775800) (w : World) : Calls Tryz.prog 50 #[.string s, .string ⟨#[c]⟩] w fun e w' => e = .returned (.tuple #[.string (bs (bef c s.data.toList)), .string (bs (aft c s.data.toList)), .bool (hasC c s.data.toList)]) ∧ Below w.heap.size w w' := by
  have J := hide (scut_any s c hs w)
  generalize bs (bef c s.data.toList) = x at *
  generalize bs (aft c s.data.toList) = y at *
  generalize hasC c s.data.toList = z at *
  go_enter Tryz.func50, Tryz.ntmps50
  go_wp2_with fail
  refine J.out.mono ?_
  rintro e w' ⟨rfl, hb⟩
  go_wp2_with fail
  go_ret3
  exact ⟨rfl, hb⟩
end Go.Proofs.YtpolajoephjdhaaGreatDoor

/-
  Numbers in digits, read; readNumber.
-/
namespace Go.Proofs.YtpolajoephjdhaaGreatDoor
open Go.RowKit
set_option maxRecDepth 100000
def rdN (l : List UInt8) : Int := match Lib.parseIntB 64 l with
  | .ok v => v
  | .«syntax» => 0
  | .range => Lib.intSat 64 l
theorem sat_i6 (l : List UInt8) : I6 (Lib.intSat 64 l) := by
  unfold Lib.intSat I6
  split <;> omega
theorem ok_i6 {l : List UInt8} {v : Int} (h : Lib.parseIntB 64 l = .ok v) : I6 v := by
  unfold Lib.parseIntB at h
  split at h
  · cases h
  · dsimp only at h
    split at h
    · cases h
    · cases h
    · rename_i u hu
      split at h
      · cases h
      · split at h
        · cases h
        · rename_i h1 h2
          injection h with h
          subst h
          unfold I6
          split
          · rename_i h3
            have : ¬ 2 ^ (64 - 1) < u := fun e => h2 ⟨h3, e⟩
            omega
          · rename_i h3
            have : ¬ 2 ^ (64 - 1) ≤ u := fun e => h1 ⟨h3, e⟩
            omega
theorem rdN_i6 (l : List UInt8) : I6 (rdN l) := by
  unfold rdN
  split
  · rename_i v h; exact ok_i6 h
  · exact ⟨by omega, by omega⟩
  · exact sat_i6 l
theorem parse_any (s : ByteArray) (hs : s.size ≤ 281474976710656) (w : World) (hw : Wd w) : Calls Tryz.prog 102 #[.string s, .int .i64 10, .int .i64 64] w fun e w' => ∃ ve, e = .returned (.tuple #[.int .i64 (rdN s.data.toList), ve]) ∧ Below w.heap.size w w' := by
  cases h : Lib.parseIntB 64 s.data.toList with
  | ok v =>
    have e : rdN s.data.toList = v := by unfold rdN; rw [h]
    rw [e]
    refine (Tryz.strconv_ParseInt_10_at64_ok s (by omega) v h w).mono ?_
    rintro e w' ⟨rfl, hw'⟩
    refine ⟨_, rfl, ?_⟩
    rcases hw' with rfl | ⟨x, rfl⟩
    · exact Below.refl _ _
    · exact Lib.bytesWorld_below w 5 x
  | «syntax» =>
    have e : rdN s.data.toList = 0 := by unfold rdN; rw [h]
    rw [e]
    obtain ⟨ev, h1, h2⟩ := hw 3 (.inl rfl)
    refine (Tryz.strconv_ParseInt_10_at64_syntax s hs h ev w h1 h2).mono ?_
    rintro e w' ⟨N, rfl, -, -, hb⟩
    exact ⟨_, rfl, hb⟩
  | range =>
    have e : rdN s.data.toList = Lib.intSat 64 s.data.toList := by unfold rdN; rw [h]
    rw [e]
    obtain ⟨ev, h1, h2⟩ := hw 4 (.inr rfl)
    refine (Tryz.strconv_ParseInt_10_at64_range s hs h ev w h1 h2).mono ?_
    rintro e w' ⟨N, rfl, -, -, hb⟩
    exact ⟨_, rfl, hb⟩
theorem readnum_any (s : ByteArray) (hs : s.size ≤ 281474976710656) (w : World) (hw : Wd w) : Calls Tryz.prog 82 #[.string s] w fun e w' => e = .returned (.int .i64 (rdN s.data.toList)) ∧ Below w.heap.size w w' := by
  have J := hide (parse_any s hs w hw)
  generalize rdN s.data.toList = x at *
  go_enter Tryz.func82, Tryz.ntmps82
  go_wp2_with fail
  refine J.out.mono ?_
  rintro e w' ⟨ve, rfl, hb⟩
  go_wp2_with fail
  go_ret
  exact ⟨rfl, hb⟩
end Go.Proofs.YtpolajoephjdhaaGreatDoor
