/-
  PackGets (function 4), walked.
-/
import Derived.Test.YtoccbeefmagklaaSumsWalk
import Derived.Test.YtoccbeefmagklaaApart
namespace Go.Proofs.Ytoccbeefmagklaa
open Go.RowKit
theorem own_weak {w : World} {B B' e size n : Nat} {v : Value} {xs : List Value} (h : w.ownsRow B e size v n xs) (hb : B' ≤ B) : w.ownsRow B' e size v n xs :=
  ⟨h.1, h.2.imp id (fun ⟨g, cap, cur, a, b, r⟩ => ⟨g, cap, cur, a, Nat.le_trans hb b, r⟩)⟩

set_option maxHeartbeats 8000000 in
set_option maxRecDepth 100000 in
theorem gets_walk (v : Value) (l : List UInt8) (most : Int) (w : World) (h : Bs w v l) (hl : l.length ≤ 140737488351232) (h0 : -9223372036854775808 ≤ most) (h1 : most ≤ 9223372036854775807) :
    Calls Try.prog 4 #[v, .int .i64 most] w fun e w' => e = .returned (.bool true) ∧ Below w.heap.size w w' := by
  obtain ⟨i0, hi, hz0, hz1, hz2⟩ := info_parts info5
  have H := hide h
  have hsh := shown_any w
  obtain ⟨ao, c, hv, hlc, hm, hcc⟩ := h
  unfold maxLen at hm
  clear hcc
  subst hv
  go_enter Try.func4, Try.ntmps4
  go_wp2_with fail
  refine hsh.mono ?_
  rintro e w1 ⟨rfl, hb1⟩
  have hle := lent_any _ l w1 (H.out.below hb1 (Nat.le_refl _)) hl
  have B1 := hide hb1
  have hz1' := hb1.size
  clear hsh hb1
  go_wp2_with fail
  refine hle.mono ?_
  rintro e w2 ⟨rfl, hrow, hb2⟩
  have B2 := hide (below_more B1.out hz1' hb2)
  have g2 := hrow.lt
  have HR := hide hrow
  have hin := hrow.bs (n := l.length) (c := l.length + 80) (by simp) (by omega) (by simp [maxLen]; omega)
  rw [List.take_left] at hin
  have HIN := hide hin
  have HV2 := hide (H.out.below B2.out.1 (Nat.le_refl _))
  have k1 := hide (get_any _ l w2 hin)
  have k2 := hide (rget_any _ l w2 HV2.out)
  have k3 := hide (getInt_any _ l w2 hin)
  have k4 := hide (rgetInt_any _ l w2 HV2.out)
  have k5 := hide (getText_any _ l w2 hin)
  have k6 := hide (rgetText_any _ l w2 HV2.out)
  have k7 := hide (rgetRow_any _ l most w2 HV2.out h0 h1)
  have LR := hide (fun (vin vw : Value) (W : World) (hb : Bs W vin l) (hn : Ns W vw (Rd.row l most).1) => lawrow_any vin vw l most W hb h0 h1 hn)
  have hrl := (row_facts (b := l) (most := most)).2.1
  clear hle hrow hb2 hin
  generalize hp1 : (Dec.getN l).1 = p1 at k1 k2 k3 k4
  generalize hp2 : (Dec.getN l).2 = p2 at k1 k2 k3 k4
  generalize hp3 : Dec.unzig p1 = p3 at k3 k4
  generalize hp4 : (textN l).1 = p4 at k5 k6
  generalize hp5 : (textN l).2 = p5 at k5 k6
  clear hp1 hp2 hp3 hp4 hp5
  go_wp2_with fail
  refine k1.out.mono ?_
  rintro e w3 ⟨rfl, rfl⟩
  go_wp2_with fail
  refine k2.out.mono ?_
  rintro e w4 ⟨rfl, rfl⟩
  go_wp2_with fail
  refine k3.out.mono ?_
  rintro e w5 ⟨rfl, rfl⟩
  go_wp2_with fail
  refine k4.out.mono ?_
  rintro e w6 ⟨rfl, rfl⟩
  go_wp2_with fail
  refine k5.out.mono ?_
  rintro e w7 ⟨rfl, rfl⟩
  go_wp2_with fail
  refine k6.out.mono ?_
  rintro e w8 ⟨rfl, rfl⟩
  clear k1 k2 k3 k4 k5 k6
  have y1 : ((p1 : Int) != p1) = false := by simp
  have y2 : ((p2 : Int) != p2) = false := by simp
  have y3 : (p3 != p3) = false := by simp
  have y4 : (p4 == p4) = true := by simp
  have y5 : ((p5 : Int) != p5) = false := by simp
  generalize Rd.row l most = r at *
  obtain ⟨rr, t⟩ := r
  simp only at hrl
  go_wp2_with fail
  refine k7.out.mono ?_
  rintro e w9 ⟨⟨v20, rfl, ho⟩, hb9⟩
  have N20 := hide ho.ns
  have B9 := hide (below_more B2.out.1 B2.out.2 hb9)
  have X9 := hide hb9
  have IN9 := hide (HIN.out.below hb9 (Nat.le_refl _))
  have k8 := hide (LR.out _ _ w9 IN9.out N20.out)
  clear k7 ho hb9
  go_wp2_with fail
  refine k8.out.mono ?_
  rintro e w10 ⟨v22, rfl, ho, hb10⟩
  have O22 := hide ho
  have N20b := hide (N20.out.below hb10 (Nat.le_refl _))
  have k9 := hide (LR.out _ _ w10 (IN9.out.below hb10 (Nat.le_refl _)) N20b.out)
  have X10 := hide hb10
  clear k8 ho hb10
  go_wp2_with fail
  refine k9.out.mono ?_
  rintro e w11 ⟨v24, rfl, ho, hb11⟩
  have O24 := hide ho
  have O22b := hide (own_later O22.out hb11)
  have k10 := hide (rows_any v22 v20 rr w11 (Nown.ns O22b.out) (N20b.out.below hb11 (Nat.le_refl _)) (by omega))
  have X11 := hide hb11
  clear k9 ho hb11 LR
  go_wp2_with fail
  refine k10.out.mono ?_
  rintro e w12 ⟨rfl, hd12⟩
  have s10 := X10.out.size
  have AP : Hid (Ap v22 v24) := fun g hg he => by
    have h1 := (O22.out.lt g hg).2
    have h2 := (O24.out.lt g he).1
    omega
  have X12 := hide (below_drew' (B := w9.heap.size) hd12)
  have s12 : w9.heap.size ≤ w12.heap.size := Nat.le_trans s10 (Nat.le_trans X11.out.size X12.out.size)
  have k11 := hide (apart_any v22 v24 rr rr w9.heap.size w12 (owns_drew' O22b.out hd12) (owns_drew' (own_weak O24.out s10) hd12) s12 AP.out (by omega) (by omega))
  clear k10 hd12
  go_wp2_with fail
  refine k11.out.mono ?_
  rintro e w13 ⟨rfl, hb13⟩
  have X13 : Hid (Below w9.heap.size w9 w13) := ((X10.out.trans (X11.out.mono s10)).trans X12.out).trans hb13
  have s13 := X13.out.size
  have Y13 : Hid (Below w8.heap.size w8 w13) := X9.out.trans (X13.out.mono X9.out.size)
  have B13 := hide (below_more B9.out.1 B9.out.2 X13.out)
  have HR13 := hide (HR.out.below Y13.out g2)
  have g13 := HR13.out.lt
  have k12 := hide (still_row w1.heap.size _ l w13 hl HR13.out (HV2.out.below Y13.out (Nat.le_refl _)))
  clear k11 hb13 O22 O24 O22b N20 N20b X9 X10 X11 X12 IN9 AP
  go_wp2_with fail
  refine k12.out.mono ?_
  rintro e w14 ⟨rfl, hd⟩
  have HD := hide hd
  have B14 := hide (below_more B13.out.1 B13.out.2 (below_drew (B := w13.heap.size) hd))
  have hs14 : w13.heap.size ≤ w14.heap.size := (below_drew (B := 0) hd).size
  have HR14 := hide (HR13.out.below (below_drew (B := w13.heap.size) hd) g13)
  clear k12 hd
  go_wp2
  clear HR HIN HV2 HR13 Y13 X13 B13 B9
  go_loopw [28, 29] (fun vt vi wr => ∃ k : Nat, k ≤ l.length ∧ vi = .int .i64 k ∧ wr.ownsRow w14.heap.size 5 1 vt k (Lib.byteCells ((l.take k).map (· + 1))) ∧ Row wr w1.heap.size (raised l k ++ List.replicate 80 201) ∧ Below w1.heap.size w14 wr) (fun _ vi _ => l.length - (intOf vi).toNat)
  case atStart => exact ⟨0, Nat.zero_le _, rfl, by simpa [Lib.byteCells] using World.ownsRow_nil w14 w14.heap.size 5 1, by rw [raised_zero]; exact HR14.out, Below.refl _ _⟩
  case round =>
    obtain ⟨k, hk, rfl, ho, hr, hb⟩ := hrel
    by_cases hlt : k < l.length
    · have e1 : (k : Int) < (l.length : Int) := by omega
      have hcl := hr.cell k (by simp [raised_length]; omega)
      rw [raised_at l hlt] at hcl
      have hfz := hr.frozen k
      have HRr := hide hr
      have HB := hide hb
      have hwr := hb.size
      have h256 := (l[k]).toNat_lt
      have g3 := hr.lt
      clear hr hb
      have hgl : (⟨w1.heap.size, k, none⟩ : Addr).block < w14.heap.size := by show w1.heap.size < _; omega
      have ho1 := ownsRow_setCell_below ho hgl (.int .u8 (((l[k].toNat : Int) + 1) % 256))
      go_wp2_with (at_builtin; refine wpList_append_own _ rfl _ _ 22 rfl w14.heap.size 5 i0 (.int .u8 0) 1 1 Try.underlying22 hi hz0 hz1 hz2 rfl (by decide) _ _ _ rfl (ho1.alloc _) ⟨wr.heap.size, 0, none⟩ 1 1 [Value.int .u8 (((l[k].toNat : Int) + 1) % 256)] rfl rfl ?c1 ?c2 ?c3 ?c4 ?c5 ?_)
      case c2 => first | rfl | (intro u hu; simp at hu; subst hu; rfl) | simp [Value.oneCell']
      case c3 => unfold maxLen; omega
      case c4 => omega
      case c5 => first | omega | (simp; omega)
      intro v5 w5 hown5 hgrow _
      have hrow5 := HRr.out.set k (l[k] + 1)
      rw [raised_set l hlt, ← plus_one] at hrow5
      have hkeep : Row w5 w1.heap.size (raised l (k + 1) ++ List.replicate 80 201) := by
        unfold Row
        rw [hgrow.block w1.heap.size (by simp; omega) (fun e => by have := (ho.lt _ e.symm).1; omega), Below.heap_alloc _ _ _ (by first | omega | (simp; omega))]
        exact hrow5
      have hb5 : Below w1.heap.size w14 w5 := ((HB.out.setCell (p := ⟨w1.heap.size, k, none⟩) (Nat.le_refl _) _).alloc (by simp; omega) _).grown hgrow (by simp; omega) (fun q hq => by have := (ho.lt q hq).1; omega)
      have hown6 : w5.ownsRow w14.heap.size 5 1 v5 (k + 1) (Lib.byteCells ((l.take (k + 1)).map (· + 1))) := by
        rw [turned_snoc l hlt, Lib.byteCells_append]
        rw [plus_one, ← List.map_take] at hown5
        exact hown5
      have H5 := hide hown6
      have HK := hide hkeep
      have HB5 := hide hb5
      clear hown5 hown6 hgrow hrow5 hkeep hb5 ho ho1
      go_wp2
      go_roundw
      case rel => exact ⟨k + 1, by omega, by go_num, H5.out, HK.out, HB5.out⟩
      case measure => simp [intOf]; omega
    · obtain rfl : k = l.length := by omega
      rw [raised_all] at hr
      rw [List.take_length] at ho
      have hb2 := hr.bs (n := l.length) (c := l.length + 80) (by simp) (by omega) (by simp [maxLen]; omega)
      rw [List.take_left' (by simp)] at hb2
      have hb3 := own_bs ho
      have k1 := hide (get_any _ _ wr hb2)
      have k2 := hide (rget_any _ _ wr hb3)
      have k3 := hide (getInt_any _ _ wr hb2)
      have k4 := hide (rgetInt_any _ _ wr hb3)
      have k5 := hide (getText_any _ _ wr hb2)
      have k6 := hide (rgetText_any _ _ wr hb3)
      have k7 := hide (rgetRow_any _ _ most wr hb3 h0 h1)
      have LR := hide (fun (vin vw : Value) (W : World) (hb : Bs W vin (l.map (· + 1))) (hn : Ns W vw (Rd.row (l.map (· + 1)) most).1) => lawrow_any vin vw (l.map (· + 1)) most W hb h0 h1 hn)
      have IN := hide hb2
      have HBB := hide (B14.out.1.trans (hb.mono hz1'))
      have hsw := hb.size
      clear hr ho hb hb2 hb3
      generalize l.map (· + 1) = l2 at *
      generalize hp1 : (Dec.getN l2).1 = q1 at k1 k2 k3 k4
      generalize hp2 : (Dec.getN l2).2 = q2 at k1 k2 k3 k4
      generalize hp3 : Dec.unzig q1 = q3 at k3 k4
      generalize hp4 : (textN l2).1 = q4 at k5 k6
      generalize hp5 : (textN l2).2 = q5 at k5 k6
      generalize Rd.row l2 most = r2 at k7 LR
      obtain ⟨r3, t3⟩ := r2
      clear hp1 hp2 hp3 hp4 hp5 y1 y2 y3 y4 y5
      have y1 : ((q1 : Int) != q1) = false := by simp
      have y2 : ((q2 : Int) != q2) = false := by simp
      have y3 : (q3 != q3) = false := by simp
      have y4 : (q4 == q4) = true := by simp
      have y5 : ((q5 : Int) != q5) = false := by simp
      go_wp2_with fail
      refine k1.out.mono ?_
      rintro e x1 ⟨rfl, rfl⟩
      go_wp2_with fail
      refine k2.out.mono ?_
      rintro e x2 ⟨rfl, rfl⟩
      go_wp2_with fail
      refine k3.out.mono ?_
      rintro e x3 ⟨rfl, rfl⟩
      go_wp2_with fail
      refine k4.out.mono ?_
      rintro e x4 ⟨rfl, rfl⟩
      go_wp2_with fail
      refine k5.out.mono ?_
      rintro e x5 ⟨rfl, rfl⟩
      go_wp2_with fail
      refine k6.out.mono ?_
      rintro e x6 ⟨rfl, rfl⟩
      clear k1 k2 k3 k4 k5 k6
      go_wp2_with fail
      refine k7.out.mono ?_
      rintro e x7 ⟨⟨v20, rfl, ho⟩, hb9⟩
      have k8 := hide (LR.out _ _ x7 (IN.out.below hb9 (Nat.le_refl _)) ho.ns)
      have B9 := hide (HBB.out.trans (hb9.mono (Nat.le_trans B14.out.2 hsw)))
      have s9 := hb9.size
      clear k7 ho hb9 LR
      go_wp2_with fail
      refine k8.out.mono ?_
      rintro e x8 ⟨v22, rfl, ho, hb10⟩
      have B10 := hide (B9.out.trans (hb10.mono (Nat.le_trans B14.out.2 (Nat.le_trans hsw s9))))
      clear k8 ho hb10
      go_wp2
      go_ret
      exact ⟨rfl, B10.out⟩
end Go.Proofs.Ytoccbeefmagklaa
