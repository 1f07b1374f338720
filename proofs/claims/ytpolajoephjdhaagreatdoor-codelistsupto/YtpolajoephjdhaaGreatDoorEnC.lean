/-
  The bytes of a program, as a plain function; instrBytes, setBytes.
-/
import Derived.Test.YtpolajoephjdhaaGreatDoorEnB
namespace Go.Proofs.YtpolajoephjdhaaGreatDoor
open Go.RowKit
set_option maxRecDepth 100000
abbrev uv (n : Nat) : List UInt8 := Lib.uvarint n
def insBy (i : Ins) : List UInt8 := uv i.op.toNat ++ (if numb (opk i.op) then uv (Lib.zigzag i.a) else [])
def setBy (l : List Int) : List UInt8 := uv l.length ++ l.flatMap fun k => uv k.toNat
def rtBy (r : Rt) : List UInt8 := uv r.name.size ++ r.name.data.toList ++ uv r.pa.toNat ++ uv r.lo.toNat ++ uv r.code.length ++ r.code.flatMap insBy
def sysBy (s : Sy) : List UInt8 := setBy s.wi ++ setBy s.wo ++ setBy s.re ++ setBy s.wr ++ rtBy s.run
def pgBy (p : Pg) : List UInt8 := uv p.sys.length ++ p.sys.flatMap sysBy ++ uv p.fns.length ++ p.fns.flatMap rtBy
/-- Bytes of the caller's own. -/
def ByOut (W : World) (l : List UInt8) (e : Ending) (w' : World) : Prop := ∃ v', e = .returned v' ∧ w'.ownsRow W.heap.size 5 1 v' l.length (Lib.byteCells l) ∧ Below W.heap.size W w'
theorem own_bs {w : World} {B : Nat} {v : Value} {l : List UInt8} (h : w.ownsRow B 5 1 v l.length (Lib.byteCells l)) : Bs w v l := by
  by_cases h0 : 0 < l.length
  · have hc := h
    obtain ⟨-, ⟨-, h'⟩ | ⟨g, cap, cur, rfl, hB, hg, h1, h2, -⟩⟩ := h
    · omega
    · refine ⟨some ⟨g, 0, none⟩, cap, rfl, h1, h2, fun j hj => ⟨g, 0, rfl, ?_⟩⟩
      have := hc.cellAt j (by omega)
      rw [Nat.zero_add]
      have e : (Lib.byteCells l)[j]? = some (.int .u8 (l[j]).toNat) := by simp [Lib.byteCells, hj]
      rw [e] at this
      simpa using this
  · obtain ⟨ao, c, rfl⟩ := own_len h
    have hcap := own_cap h
    exact ⟨ao, c, rfl, hcap.1, by unfold maxLen; omega, fun j hj => absurd hj (by omega)⟩
theorem uv_len {n : Nat} (h : n < 18446744073709551616) : (uv n).length ≤ 10 := Lib.uvarint_length64 h
theorem zig_lt {n : Int} (h : I6 n) : Lib.zigzag n < 18446744073709551616 := Lib.zigzag_lt h.1 h.2
theorem insBy_len {i : Ins} (h : 1 ≤ i.op ∧ i.op ≤ 39) (ha : I6 i.a) : (insBy i).length ≤ 20 := by
  have h1 := uv_len (n := i.op.toNat) (by omega)
  have h2 := uv_len (zig_lt ha)
  unfold insBy
  rw [List.length_append]
  split
  · omega
  · simp; omega
/-- Pack's three, as calls that hand out bytes of the caller's own. -/
theorem put_out {W : World} {v : Value} {l : List UInt8} (n : Nat) (h : Bs W v l) (hn : n < 18446744073709551616) (hl : l.length ≤ 1000000000) : Calls Tryz.prog 33 #[v, .int .u64 n] W (ByOut W (l ++ uv n)) := by
  refine (put_any v l n W h hn (by omega)).mono ?_
  rintro e w' ⟨v', rfl, h1, h2⟩
  exact ⟨v', rfl, by rw [List.length_append]; exact h1, h2⟩
theorem putint_out {W : World} {v : Value} {l : List UInt8} (n : Int) (h : Bs W v l) (hn : I6 n) (hl : l.length ≤ 1000000000) : Calls Tryz.prog 95 #[v, .int .i64 n] W (ByOut W (l ++ uv (Lib.zigzag n))) := by
  refine (putInt_any v l n W h hn.1 hn.2 (by omega)).mono ?_
  rintro e w' ⟨v', rfl, h1, h2⟩
  exact ⟨v', rfl, by rw [List.length_append]; exact h1, h2⟩
theorem puttext_out {W : World} {v : Value} {l : List UInt8} (s : ByteArray) (h : Bs W v l) (hl : l.length ≤ 1000000000) (hs : s.size ≤ 1000000000) : Calls Tryz.prog 70 #[v, .string s] W (ByOut W (l ++ uv s.size ++ s.data.toList)) := by
  refine (putText_any v l s W h (by omega)).mono ?_
  rintro e w' ⟨v', rfl, h1, h2⟩
  refine ⟨v', rfl, ?_, h2⟩
  rw [List.length_append, List.length_append, Array.length_toList]
  exact h1
theorem ByOut.on {W w1 : World} {l : List UInt8} {e : Ending} {w' : World} (h : ByOut w1 l e w') (hb : Below W.heap.size W w1) : ByOut W l e w' := by
  obtain ⟨v, h1, h2, h3⟩ := h
  exact ⟨v, h1, own_lower h2 hb.size, below_on hb h3⟩
set_option maxHeartbeats 1000000 in
theorem instrbytes_any (i : Ins) (hop : 1 ≤ i.op ∧ i.op ≤ 39) (ha : I6 i.a) (W : World) (ht : Tb W) : Calls Tryz.prog 71 #[insV i] W (ByOut W (insBy i)) := by
  obtain ⟨op, a⟩ := i
  dsimp only at ha hop
  obtain ⟨w0, hw0⟩ : ∃ X, X = W.alloc (.cells #[.int .i64 op, .int .i64 a] 56) := ⟨_, rfl⟩
  have B0 : Below W.heap.size W w0 := hw0 ▸ below_alloc W _
  have n1 : w0.heap[W.heap.size]? = some (.cells #[.int .i64 op, .int .i64 a] 56 (0, 0)) := by rw [hw0]; exact heap_alloc_new W _
  obtain ⟨B, hB⟩ : ∃ B, B = W.heap.size := ⟨_, rfl⟩
  rw [← hB] at n1
  have c0 : w0.cell? ⟨B, 0, none⟩ = some (.int .i64 op) := by rw [cell_of_row w0 _ _ _ 56 (0, 0) n1]; rfl
  obtain ⟨o, rfl⟩ : ∃ o : Nat, op = (o : Int) := ⟨op.toNat, by omega⟩
  have J0 := hide (put_out o (Bs.nil w0) (by omega) (by simp))
  obtain ⟨te, hte⟩ : ∃ t, t = insBy ⟨(o : Int), a⟩ := ⟨_, rfl⟩
  rw [← hte]
  have TE : Hid (te = uv o ++ (if numb (opk (o : Int)) then uv (Lib.zigzag a) else [])) := hte
  have HW := hide hw0
  have HB := hide B0
  have EB := hide hB
  have N1 := hide n1
  have HT := hide ht
  have HA := hide ha
  have hl := uv_len (n := o) (by omega)
  have J1 : Hid (∀ w, Below W.heap.size W w → Calls Tryz.prog 56 #[.int .i64 (o : Int)] w fun e w' => e = .returned (rowV (opk (o : Int))) ∧ Below w.heap.size w w') := fun w h => row_any _ w (ht.later h)
  have f1 := fldR1 (opk (o : Int))
  clear hte n1 B0 ht ha
  unfold insV
  dsimp only
  generalize opk (o : Int) = k at *
  go_enter Tryz.func71, Tryz.ntmps71
  go_upto_region 1 with fail
  rw [← hw0, ← hB]
  clear hw0 hB
  go_wp2_with fail
  refine J0.out.mono ?_
  rintro e w1 ⟨v1, rfl, ho1, hb1⟩
  have n2 := (hb1.block B (lt_of_block N1.out)).trans N1.out
  have y0 : w1.cell? ⟨B, 0, none⟩ = some (.int .i64 (o : Int)) := by rw [cell_of_row w1 _ _ _ 56 (0, 0) n2]; rfl
  have H1 := hide (below_on HB.out hb1)
  have O1 := hide ho1
  have N2 := hide n2
  clear ho1 hb1 n2 c0 J0
  go_wp2_with fail
  refine (J1.out _ H1.out).mono ?_
  rintro e w2 ⟨rfl, hb2⟩
  have n3 := (hb2.block B (lt_of_block N2.out)).trans N2.out
  have y1 : w2.cell? ⟨B, 1, none⟩ = some (.int .i64 a) := by rw [cell_of_row w2 _ _ _ 56 (0, 0) n3]; rfl
  have H2 := hide (below_on H1.out hb2)
  have O2 := hide (own_later O1.out hb2)
  clear hb2 n3 y0
  unfold rowV
  cases hq : numb k with
  | false =>
    rw [hq] at f1
    have T2 : Hid (te = [] ++ uv o) := by unfold Hid; rw [TE.out, hq]; simp
    go_wp2_with fail
    go_ret
    refine ⟨v1, rfl, ?_, H2.out⟩
    rw [T2.out]
    exact own_lower O2.out HB.out.size
  | true =>
    rw [hq] at f1
    have T2 : Hid (te = [] ++ uv o ++ uv (Lib.zigzag a)) := by unfold Hid; rw [TE.out, hq]; simp
    have J3 := hide (putint_out a (own_bs O2.out) HA.out (by simp; omega))
    go_wp2_with fail
    refine J3.out.mono ?_
    rintro e w3 ⟨v3, rfl, ho3, hb3⟩
    go_wp2_with fail
    go_ret
    refine ⟨v3, rfl, ?_, below_on H2.out hb3⟩
    rw [T2.out]
    exact own_lower ho3 H2.out.size
end Go.Proofs.YtpolajoephjdhaaGreatDoor
