import Derived.Test.YtoccbeefmagklaaShown
import Derived.Test.YtoccbeefmagklaaStill
import Derived.Test.YtoccbeefmagklaaRsum
namespace Go.Proofs.Ytoccbeefmagklaa
open Go.RowKit

/-- Bytes of which the first k are raised by one. -/
def raised (l : List UInt8) (k : Nat) : List UInt8 := (l.take k).map (· + 1) ++ l.drop k
theorem raised_length (l : List UInt8) (k : Nat) : (raised l k).length = l.length := by simp [raised]; omega
theorem raised_zero (l : List UInt8) : raised l 0 = l := by simp [raised]
theorem raised_all (l : List UInt8) : raised l l.length = l.map (· + 1) := by simp [raised]
theorem raised_at (l : List UInt8) {k : Nat} (hk : k < l.length) (r : List UInt8) : (raised l k ++ r)[k]'(by simp [raised_length]; omega) = l[k] := by
  rw [List.getElem_append_left (by rw [raised_length]; exact hk)]
  simp only [raised]
  rw [List.getElem_append_right (by simp; omega)]
  simp only [List.getElem_drop, List.length_map, List.length_take]
  congr 1
  omega
theorem raised_set (l : List UInt8) {k : Nat} (hk : k < l.length) (r : List UInt8) : (raised l k ++ r).set k (l[k] + 1) = raised l (k + 1) ++ r := by
  rw [List.set_append_left _ _ (by rw [raised_length]; exact hk)]
  congr 1
  unfold raised
  have e : ((l.take k).map (· + 1)).length = k := by simp; omega
  rw [List.set_append_right _ _ (by omega), e, Nat.sub_self, List.drop_eq_getElem_cons hk, List.take_succ_eq_append_getElem hk]
  simp only [List.set_cons_zero, List.map_append, List.map_cons, List.map_nil, List.append_assoc, List.cons_append, List.nil_append]
theorem plus_one (b : UInt8) : ((b.toNat : Int) + 1) % 256 = ((b + 1).toNat : Int) := by
  have : (b + 1).toNat = (b.toNat + 1) % 256 := by simp [UInt8.toNat_add]
  rw [this]
  omega
theorem turned_snoc (l : List UInt8) {k : Nat} (hk : k < l.length) : ((l.take (k + 1)).map (· + 1)) = ((l.take k).map (· + 1)) ++ [l[k] + 1] := by
  rw [List.take_succ_eq_append_getElem hk]
  simp only [List.map_append, List.map_cons, List.map_nil]

set_option maxHeartbeats 4000000 in
set_option maxRecDepth 100000 in
theorem sums_walk (v : Value) (l : List UInt8) (w : World) (h : Bs w v l) (hl : l.length ≤ 140737488351232) :
    Calls Try.prog 5 #[v] w fun e w' => e = .returned (.bool true) ∧ Below w.heap.size w w' := by
  obtain ⟨i0, hi, hz0, hz1, hz2⟩ := info_parts info5
  have H := hide h
  obtain ⟨ao, c, rfl, hlc, hm, _⟩ := h
  unfold maxLen at hm
  have hsh := shown_any w
  go_enter Try.func5, Try.ntmps5
  go_wp2_with fail
  refine hsh.mono ?_
  rintro e w1 ⟨rfl, hb1⟩
  have hle := lent_any _ l w1 (H.out.below hb1 (Nat.le_refl _)) hl
  have B1 := hide hb1
  have hz1' := hb1.size
  clear hsh hb1
  go_wp2_with fail
  refine hle.mono ?_
  rintro e w2 ⟨rfl, hrow, hb2⟩
  have B2 := hide (below_more B1.out hz1' hb2)
  have g2 := hrow.lt
  have HR := hide hrow
  have hsu := sum_any _ _ w2 (hrow.bs (n := l.length) (c := l.length + 80) (by simp) (by omega) (by simp [maxLen]; omega))
  rw [List.take_left] at hsu
  have hst := still_row w1.heap.size _ l w2 hl hrow ((H.out.below B1.out (Nat.le_refl _)).below hb2 (Nat.le_refl _))
  clear hle hrow hb2
  go_wp2_with fail
  refine hsu.mono ?_
  rintro e w3 ⟨rfl, rfl⟩
  go_wp2_with fail
  refine hst.mono ?_
  rintro e w4 ⟨rfl, hd⟩
  have HD := hide hd
  have B4 := hide (below_more B2.out.1 B2.out.2 (below_drew (B := w3.heap.size) hd))
  have hs4 : w3.heap.size ≤ w4.heap.size := (below_drew (B := 0) hd).size
  have HR4 := hide (HR.out.below (below_drew (B := w3.heap.size) hd) g2)
  clear hsu hst hd
  go_wp2
  go_loopw [7, 8] (fun vt vi wr => ∃ k : Nat, k ≤ l.length ∧ vi = .int .i64 k ∧ wr.ownsRow w4.heap.size 5 1 vt k (Lib.byteCells ((l.take k).map (· + 1))) ∧ Row wr w1.heap.size (raised l k ++ List.replicate 80 201) ∧ Below w1.heap.size w4 wr) (fun _ vi _ => l.length - (intOf vi).toNat)
  case atStart => exact ⟨0, Nat.zero_le _, rfl, by simpa [Lib.byteCells] using World.ownsRow_nil w4 w4.heap.size 5 1, by rw [raised_zero]; exact HR4.out, Below.refl _ _⟩
  case round =>
    obtain ⟨k, hk, rfl, ho, hr, hb⟩ := hrel
    by_cases hlt : k < l.length
    · have e1 : (k : Int) < (l.length : Int) := by omega
      have hcl := hr.cell k (by simp [raised_length]; omega)
      rw [raised_at l hlt] at hcl
      have hfz := hr.frozen k
      have HRr := hide hr
      have HB := hide hb
      have hwr := hb.size
      have h256 := (l[k]).toNat_lt
      have g3 := hr.lt
      clear hr hb
      have hgl : (⟨w1.heap.size, k, none⟩ : Addr).block < w4.heap.size := by show w1.heap.size < _; omega
      have ho1 := ownsRow_setCell_below ho hgl (.int .u8 (((l[k].toNat : Int) + 1) % 256))
      go_wp2_with (at_builtin; refine wpList_append_own _ rfl _ _ 22 rfl w4.heap.size 5 i0 (.int .u8 0) 1 1 Try.underlying22 hi hz0 hz1 hz2 rfl (by decide) _ _ _ rfl (ho1.alloc _) ⟨wr.heap.size, 0, none⟩ 1 1 [Value.int .u8 (((l[k].toNat : Int) + 1) % 256)] rfl rfl ?c1 ?c2 ?c3 ?c4 ?c5 ?_)
      case c2 => first | rfl | (intro u hu; simp at hu; subst hu; rfl) | simp [Value.oneCell']
      case c3 => unfold maxLen; omega
      case c4 => omega
      case c5 => first | omega | (simp; omega)
      intro v5 w5 hown5 hgrow _
      have hrow5 := HRr.out.set k (l[k] + 1)
      rw [raised_set l hlt, ← plus_one] at hrow5
      have hkeep : Row w5 w1.heap.size (raised l (k + 1) ++ List.replicate 80 201) := by
        unfold Row
        rw [hgrow.block w1.heap.size (by simp; omega) (fun e => by have := (ho.lt _ e.symm).1; omega), Below.heap_alloc _ _ _ (by first | omega | (simp; omega))]
        exact hrow5
      have hb5 : Below w1.heap.size w4 w5 := ((HB.out.setCell (p := ⟨w1.heap.size, k, none⟩) (Nat.le_refl _) _).alloc (by simp; omega) _).grown hgrow (by simp; omega) (fun q hq => by have := (ho.lt q hq).1; omega)
      have hown6 : w5.ownsRow w4.heap.size 5 1 v5 (k + 1) (Lib.byteCells ((l.take (k + 1)).map (· + 1))) := by
        rw [turned_snoc l hlt, Lib.byteCells_append]
        rw [plus_one, ← List.map_take] at hown5
        exact hown5
      have H5 := hide hown6
      have HK := hide hkeep
      have HB5 := hide hb5
      clear hown5 hown6 hgrow hrow5 hkeep hb5 ho ho1
      go_wp2
      exact ⟨⟨k + 1, by omega, by go_num, H5.out, HK.out, HB5.out⟩, by simp [intOf]; omega⟩
    · obtain rfl : k = l.length := by omega
      have hbw : Bs wr (.slice ao l.length c) l := H.out.below (B4.out.1.trans (hb.mono hz1')) (Nat.le_refl _)
      rw [raised_all] at hr
      rw [List.take_length] at ho
      have hs1 := rsum_any _ l wr hbw
      have hb2 := hr.bs (n := l.length) (c := l.length + 80) (by simp) (by omega) (by simp [maxLen]; omega)
      rw [List.take_left' (by simp)] at hb2
      have hs2 := sum_any _ _ wr hb2
      have hs3 := rsum_any _ _ wr (own_bs ho)
      have HBB := hide (B4.out.1.trans (hb.mono hz1'))
      clear hr ho hb hb2 hbw
      generalize l.map (· + 1) = l2 at *
      go_wp2_with fail
      refine hs1.mono ?_
      rintro e w6 ⟨rfl, rfl⟩
      go_wp2_with fail
      refine hs2.mono ?_
      rintro e w7 ⟨rfl, rfl⟩
      go_wp2_with fail
      refine hs3.mono ?_
      rintro e w8 ⟨rfl, rfl⟩
      go_wp2
      go_ret
      exact ⟨by simp, HBB.out⟩
end Go.Proofs.Ytoccbeefmagklaa
