import Derived.Test.YtpolajoephjdhaaGreatDoorRfM
import Derived.Test.YtpolajoephjdhaaGreatDoorCoG
import Derived.Test.YtpolajoephjdhaaGreatDoorLsM
/-
  The document's HasA, instrs, routine, listed.
-/
namespace Go.Proofs.YtpolajoephjdhaaGreatDoor
open Go.RowKit
set_option maxRecDepth 100000
theorem dhasa_any (op : Int) (w : World) : Calls Tryz.prog 49 #[.int .i64 op] w fun e w' => e = .returned (.bool (numb (opk op))) ∧ Below w.heap.size w w' := by
  have i1 := hide (disop_any op)
  by_cases h : 1 ≤ op ∧ op ≤ 39
  · rw [opk_in h]
    have t1 : decide (1 ≤ op ∧ op ≤ 39) = true := by simp [h]
    rw [t1] at i1
    go_enter Tryz.func49, Tryz.ntmps49
    go_wp2_with fail
    refine (i1.out _).mono ?_
    rintro e w' ⟨rfl, rfl⟩
    go_wp2_with fail
    refine (table_any w').mono ?_
    rintro e w2 ⟨rfl, hb, ht⟩
    obtain ⟨-, c1, -, -⟩ := ht op.toNat (by omega)
    go_wp2_with fail
    go_ret
    exact ⟨rfl, hb⟩
  · rw [opk_out h]
    have t1 : decide (1 ≤ op ∧ op ≤ 39) = false := by simp; omega
    rw [t1] at i1
    go_enter Tryz.func49, Tryz.ntmps49
    go_wp2_with fail
    refine (i1.out _).mono ?_
    rintro e w' ⟨rfl, rfl⟩
    go_wp2_with fail
    go_ret
    exact ⟨rfl, Below.refl _ _⟩
set_option maxHeartbeats 2000000 in
theorem dinstrs_any {Q : Nat → Prop} {W : World} {v : Value} {l : List Ins} (h : Il Q W v l) : Calls Tryz.prog 96 #[v] W fun e w' => e = .returned (.bool (l.all isIns)) ∧ Below W.heap.size W w' := by
  have H := hide h
  obtain ⟨ao, c, rfl, hc1, hc2⟩ := h.at
  obtain ⟨n, hn⟩ : ∃ n, n = l.length := ⟨_, rfl⟩
  rw [← hn] at H hc1 ⊢
  have HN := hide hn
  obtain ⟨te, hte⟩ : ∃ t, t = l.all isIns := ⟨_, rfl⟩
  rw [← hte]
  have TE := hide hte
  clear h hn hte
  go_enter Tryz.func96, Tryz.ntmps96
  go_wp2_with fail
  go_loopw [3] (fun u wr => ∃ k : Nat, u = .int .i64 (k : Int) ∧ k ≤ n ∧ Hid (Below W.heap.size W wr) ∧ Hid ((l.take k).all isIns = true)) (fun u _ => n - (intOf u).toNat)
  case atStart => exact ⟨0, rfl, by omega, Below.refl _ _, rfl⟩
  case round =>
    obtain ⟨k, rfl, hk, hb, ha⟩ := hrel
    by_cases hlt : k < n
    · have hlt' : k < l.length := by rw [← HN.out]; exact hlt
      have E4 : Hid ((l.take (k + 1)).all isIns = isIns l[k]) := by
        unfold Hid
        rw [List.take_add_one, List.getElem?_eq_getElem hlt', List.all_append, ha.out]
        simp
      have E5 : Hid (isIns l[k] = false → l.all isIns = false) := fun h => by
        rw [List.all_eq_false]
        exact ⟨l[k], List.getElem_mem _, by rw [h]; simp⟩
      obtain ⟨g, o, rfl, -, d0, d1, -, -⟩ := (H.out.later hb.out).nth hlt'
      have J0 := hide (H.out.later hb.out)
      have NT : Hid (∀ w', Below wr.heap.size wr w' → w'.cell? ⟨g, o + k * 2, none⟩ = some (.int .i64 l[k].op) ∧ w'.cell? ⟨g, o + k * 2 + 1, none⟩ = some (.int .i64 l[k].a)) := fun w' hb' => ⟨(hb'.cell (World.block_lt_of_cell? wr _ d0)).trans d0, (hb'.cell (World.block_lt_of_cell? wr _ d1)).trans d1⟩
      have ID : Hid (isIns l[k] = (decide (1 ≤ l[k].op ∧ l[k].op ≤ 39) && (l[k].a == 0 || numb (opk l[k].op)))) := rfl
      have i1 := hide (disop_any l[k].op wr)
      have i2 := hide (dhasa_any l[k].op wr)
      generalize hq : isIns l[k] = q at *
      generalize l[k] = x at *
      obtain ⟨xo, xa⟩ := x
      dsimp only at d0 d1 ID i1 i2 NT
      clear J0 hq
      generalize decide (1 ≤ xo ∧ xo ≤ 39) = t1 at *
      generalize numb (opk xo) = t2 at *
      go_wp2_with fail
      refine i1.out.mono ?_
      rintro e w1 ⟨rfl, rfl⟩
      go_wp2_with fail
      refine i2.out.mono ?_
      rintro e w2 ⟨rfl, hb2⟩
      obtain ⟨e0, e1⟩ := NT.out w2 hb2
      have HX := hide (below_on hb.out hb2)
      clear d0 d1 hb2 i1 i2 NT
      cases t1 with
      | false =>
        obtain rfl : q = false := by rw [ID.out]; rfl
        obtain rfl : te = false := by rw [TE.out]; exact E5.out rfl
        go_wp2_with fail
        go_ret
        exact ⟨rfl, HX.out⟩
      | true =>
        cases t2 with
        | true =>
          obtain rfl : q = true := by rw [ID.out]; simp
          go_wp2_with fail
          exact ⟨⟨k + 1, by go_num, by omega, HX.out, E4.out⟩, by simp [intOf]; omega⟩
        | false =>
          by_cases hx : xa = 0
          · obtain rfl : q = true := by rw [ID.out]; simp [hx]
            subst hx
            go_wp2_with fail
            exact ⟨⟨k + 1, by go_num, by omega, HX.out, E4.out⟩, by simp [intOf]; omega⟩
          · obtain rfl : q = false := by rw [ID.out]; simp [hx]
            obtain rfl : te = false := by rw [TE.out]; exact E5.out rfl
            have hx' : (xa != 0) = true := by simpa using hx
            go_wp2_with fail
            go_ret
            exact ⟨rfl, HX.out⟩
    · obtain rfl : k = n := by omega
      obtain rfl : te = true := by
        rw [TE.out]
        have := ha.out
        rw [HN.out, List.take_length] at this
        exact this
      go_wp2_with fail
      go_ret
      exact ⟨rfl, hb.out⟩
end Go.Proofs.YtpolajoephjdhaaGreatDoor

/-
  The document's routine and listed.
-/
namespace Go.Proofs.YtpolajoephjdhaaGreatDoor
open Go.RowKit
set_option maxRecDepth 100000
/-- May a routine be written, but for its length? -/
def rtD (r : Rt) : Bool := decide (1 ≤ r.name.size ∧ r.name.size ≤ 16 ∧ 0 ≤ r.pa ∧ r.pa ≤ 4 ∧ r.pa ≤ r.lo ∧ r.lo ≤ 32) && r.code.all isIns
theorem rtOk_rtD (r : Rt) : rtOk r = (rtD r && decide (r.code.length ≤ 2000)) := by
  rw [Bool.eq_iff_iff]
  unfold rtOk rtD
  simp only [Bool.and_eq_true, decide_eq_true_eq]
  constructor
  · rintro ⟨⟨⟨⟨⟨a, b⟩, c, d⟩, e, f⟩, g⟩, h⟩
    exact ⟨⟨⟨a, b, c, d, e, f⟩, h⟩, g⟩
  · rintro ⟨⟨⟨a, b, c, d, e, f⟩, h⟩, g⟩
    exact ⟨⟨⟨⟨⟨a, b⟩, c, d⟩, e, f⟩, g⟩, h⟩
set_option maxHeartbeats 2000000 in
theorem droutine_at {Q : Nat → Prop} {W : World} {n c : Nat} {ao : Option Addr} (nm : ByteArray) (pa lo : Int) (code : List Ins) (h : Il Q W (.slice ao n c) code) (hs : nm.size ≤ 9223372036854775807) : Calls Tryz.prog 73 #[.agg #[.string nm, .int .i64 pa, .int .i64 lo, .slice ao n c]] W fun e w' => e = .returned (.bool (rtD ⟨nm, pa, lo, code⟩)) ∧ Below W.heap.size W w' := by
  obtain ⟨w0, hw0⟩ : ∃ X, X = W.alloc (.cells #[.string nm, .int .i64 pa, .int .i64 lo, .slice ao n c] 45) := ⟨_, rfl⟩
  have B0 : Below W.heap.size W w0 := hw0 ▸ below_alloc W _
  have n1 : w0.heap[W.heap.size]? = some (.cells #[.string nm, .int .i64 pa, .int .i64 lo, .slice ao n c] 45 (0, 0)) := by rw [hw0]; exact heap_alloc_new W _
  obtain ⟨B, hB⟩ : ∃ B, B = W.heap.size := ⟨_, rfl⟩
  rw [← hB] at n1
  have AT : Hid (∀ w', Below w0.heap.size w0 w' → w'.cell? ⟨B, 0, none⟩ = some (.string nm) ∧ w'.cell? ⟨B, 1, none⟩ = some (.int .i64 pa) ∧ w'.cell? ⟨B, 2, none⟩ = some (.int .i64 lo) ∧ w'.cell? ⟨B, 3, none⟩ = some (.slice ao n c)) := fun w' hb => row4 ((hb.block B (lt_of_block n1)).trans n1)
  have J := hide (dinstrs_any (h.later B0))
  obtain ⟨te, hte⟩ : ∃ t, t = rtD ⟨nm, pa, lo, code⟩ := ⟨_, rfl⟩
  rw [← hte]
  have TE := hide hte
  have HB := hide B0
  unfold rtD at TE
  dsimp only at TE
  generalize code.all isIns = q at *
  clear hte n1 B0 h
  go_enter Tryz.func73, Tryz.ntmps73
  go_upto_region 1 with fail
  rw [← hw0, ← hB]
  clear hw0 hB
  obtain ⟨c0, c1, c2, c3⟩ := AT.out w0 (Below.refl _ _)
  go_wp2_with fail
  refine J.out.mono ?_
  rintro e w2 ⟨rfl, hb2⟩
  clear c0 c1 c2 c3
  obtain ⟨c0, c1, c2, c3⟩ := AT.out w2 hb2
  have HX := hide (below_on HB.out hb2)
  clear J AT HB hb2
  cases q with
  | false =>
    obtain rfl : te = false := by rw [TE.out]; simp
    go_wp2_with fail
    go_ret
    exact ⟨rfl, HX.out⟩
  | true =>
    rw [Bool.and_true] at TE
    rcases (show ¬ (1 : Int) ≤ nm.size ∨ ((1 : Int) ≤ nm.size ∧ ¬ (nm.size : Int) ≤ 16) ∨ ((1 : Int) ≤ nm.size ∧ (nm.size : Int) ≤ 16 ∧ ¬ 0 ≤ pa) ∨ ((1 : Int) ≤ nm.size ∧ (nm.size : Int) ≤ 16 ∧ 0 ≤ pa ∧ ¬ pa ≤ 4) ∨ ((1 : Int) ≤ nm.size ∧ (nm.size : Int) ≤ 16 ∧ 0 ≤ pa ∧ pa ≤ 4 ∧ ¬ pa ≤ lo) ∨ ((1 : Int) ≤ nm.size ∧ (nm.size : Int) ≤ 16 ∧ 0 ≤ pa ∧ pa ≤ 4 ∧ pa ≤ lo) by omega) with a1 | ⟨a1, a2⟩ | ⟨a1, a2, a3⟩ | ⟨a1, a2, a3, a4⟩ | ⟨a1, a2, a3, a4, a5⟩ | ⟨a1, a2, a3, a4, a5⟩
    · obtain rfl : te = false := by rw [TE.out]; exact decide_eq_false (by omega)
      go_wp2_with fail
      go_ret
      exact ⟨rfl, HX.out⟩
    · obtain rfl : te = false := by rw [TE.out]; exact decide_eq_false (by omega)
      go_wp2_with fail
      go_ret
      exact ⟨rfl, HX.out⟩
    · obtain rfl : te = false := by rw [TE.out]; exact decide_eq_false (by omega)
      go_wp2_with fail
      go_ret
      exact ⟨rfl, HX.out⟩
    · obtain rfl : te = false := by rw [TE.out]; exact decide_eq_false (by omega)
      go_wp2_with fail
      go_ret
      exact ⟨rfl, HX.out⟩
    · obtain rfl : te = false := by rw [TE.out]; exact decide_eq_false (by omega)
      go_wp2_with fail
      go_ret
      exact ⟨rfl, HX.out⟩
    · obtain rfl : te = decide (lo ≤ 32) := by rw [TE.out, decide_eq_decide]; omega
      go_wp2_with fail
      go_ret
      exact ⟨rfl, HX.out⟩
theorem droutine_any {Q : Nat → Prop} {W : World} {vc : Value} (r : Rt) (h : Il Q W vc r.code) (hs : r.name.size ≤ 9223372036854775807) : Calls Tryz.prog 73 #[rtV r vc] W fun e w' => e = .returned (.bool (rtD r)) ∧ Below W.heap.size W w' := by
  obtain ⟨ao, c, rfl, -⟩ := h.at
  exact droutine_at r.name r.pa r.lo r.code h hs
set_option maxHeartbeats 2000000 in
theorem dlisted_at {Q : Nat → Prop} {W : World} {n c : Nat} {ao : Option Addr} (nm : ByteArray) (pa lo : Int) (code : List Ins) (hn : n = code.length) (_hc1 : n ≤ c) (_hc2 : c ≤ 9223372036854775807) (h : Il Q W (.slice ao n c) code) (hs : nm.size ≤ 9223372036854775807) : Calls Tryz.prog 46 #[.agg #[.string nm, .int .i64 pa, .int .i64 lo, .slice ao n c]] W fun e w' => e = .returned (.bool (lstOk ⟨nm, pa, lo, code⟩)) ∧ Below W.heap.size W w' := by
  obtain ⟨w0, hw0⟩ : ∃ X, X = W.alloc (.cells #[.string nm, .int .i64 pa, .int .i64 lo, .slice ao n c] 45) := ⟨_, rfl⟩
  have B0 : Below W.heap.size W w0 := hw0 ▸ below_alloc W _
  have n1 : w0.heap[W.heap.size]? = some (.cells #[.string nm, .int .i64 pa, .int .i64 lo, .slice ao n c] 45 (0, 0)) := by rw [hw0]; exact heap_alloc_new W _
  obtain ⟨B, hB⟩ : ∃ B, B = W.heap.size := ⟨_, rfl⟩
  rw [← hB] at n1
  have AT : Hid (∀ w', Below w0.heap.size w0 w' → w'.cell? ⟨B, 0, none⟩ = some (.string nm) ∧ w'.cell? ⟨B, 1, none⟩ = some (.int .i64 pa) ∧ w'.cell? ⟨B, 2, none⟩ = some (.int .i64 lo) ∧ w'.cell? ⟨B, 3, none⟩ = some (.slice ao n c)) := fun w' hb => row4 ((hb.block B (lt_of_block n1)).trans n1)
  have J := hide (droutine_at nm pa lo code (h.later B0) hs)
  obtain ⟨te, hte⟩ : ∃ t, t = lstOk ⟨nm, pa, lo, code⟩ := ⟨_, rfl⟩
  rw [← hte]
  have HB := hide B0
  have TE : Hid (te = (rtD ⟨nm, pa, lo, code⟩ && decide (n ≤ 2000) && nm.data.toList.all seen)) := by
    unfold Hid
    rw [hte, hn, ← rtOk_rtD]
    rfl
  generalize rtD ⟨nm, pa, lo, code⟩ = q at *
  clear hte n1 B0 h hn
  go_enter Tryz.func46, Tryz.ntmps46
  go_upto_region 1 with fail
  rw [← hw0, ← hB]
  clear hw0 hB
  obtain ⟨c0, c1, c2, c3⟩ := AT.out w0 (Below.refl _ _)
  go_wp2_with fail
  go_loop [3] (fun v => ∃ k : Nat, v = .int .i64 (k : Int) ∧ k ≤ nm.size ∧ Hid ((nm.data.toList.take k).all seen = true)) (fun v => nm.size - (intOf v).toNat)
  case atStart => exact ⟨0, rfl, by omega, rfl⟩
  case round =>
    obtain ⟨k, rfl, hk, ha⟩ := hrel
    by_cases hlt : k < nm.size
    · have E4 := hide (seen_go hlt ha.out)
      have E5 := hide (fun h => seen_no hlt h)
      by_cases hsn : 33 ≤ nm[k].toNat ∧ nm[k].toNat ≤ 126
      · have e2 : Hid (seen nm[k] = true) := by unfold Hid seen; exact decide_eq_true hsn
        have h33 : ¬ (nm[k].toNat : Int) < 33 := by omega
        have h126 : ¬ (126 : Int) < (nm[k].toNat : Int) := by omega
        clear hsn
        go_wp2_with fail
        exact ⟨⟨k + 1, by go_num, by omega, E4.out.trans e2.out⟩, by simp [intOf]; omega⟩
      · have e2 : Hid (seen nm[k] = false) := by unfold Hid seen; exact decide_eq_false hsn
        obtain rfl : te = false := by rw [TE.out, E5.out e2.out]; simp
        rcases (show nm[k].toNat < 33 ∨ (33 ≤ nm[k].toNat ∧ 126 < nm[k].toNat) by omega) with h33 | ⟨h33, h126⟩
        · have h33' : (nm[k].toNat : Int) < 33 := by omega
          clear hsn
          go_wp2_with fail
          go_ret
          exact ⟨rfl, HB.out⟩
        · have h33' : ¬ (nm[k].toNat : Int) < 33 := by omega
          have h126' : (126 : Int) < (nm[k].toNat : Int) := by omega
          clear hsn
          go_wp2_with fail
          go_ret
          exact ⟨rfl, HB.out⟩
    · obtain rfl : te = (q && decide (n ≤ 2000)) := by
        rw [TE.out]
        have := ha.out
        rw [List.take_of_length_le (by rw [Array.length_toList]; show nm.size ≤ k; omega)] at this
        rw [this, Bool.and_true]
      go_wp2_with fail
      refine J.out.mono ?_
      rintro e w2 ⟨rfl, hb2⟩
      clear c0 c1 c2 c3
      obtain ⟨c0, c1, c2, c3⟩ := AT.out w2 hb2
      have HX := hide (below_on HB.out hb2)
      clear hb2
      cases q with
      | false =>
        go_wp2_with fail
        go_ret
        exact ⟨rfl, HX.out⟩
      | true =>
        go_wp2_with fail
        go_ret
        exact ⟨ret_bool (by rw [Bool.true_and, decide_eq_decide]; omega), HX.out⟩
theorem dlisted_any {Q : Nat → Prop} {W : World} {vc : Value} (r : Rt) (h : Il Q W vc r.code) (hs : r.name.size ≤ 9223372036854775807) : Calls Tryz.prog 46 #[rtV r vc] W fun e w' => e = .returned (.bool (lstOk r)) ∧ Below W.heap.size W w' := by
  obtain ⟨ao, c, rfl, hc1, hc2⟩ := h.at
  exact dlisted_at r.name r.pa r.lo r.code rfl hc1 hc2 h hs
end Go.Proofs.YtpolajoephjdhaaGreatDoor

/-
  The document's decimal.
-/
namespace Go.Proofs.YtpolajoephjdhaaGreatDoor
open Go.RowKit
set_option maxRecDepth 100000
theorem itB_min : itB (-9223372036854775808) = ⟨#[45, 57, 50, 50, 51, 51, 55, 50, 48, 51, 54, 56, 53, 52, 55, 55, 53, 56, 48, 56]⟩ := by
  have : Lib.itoa (-9223372036854775808) = [45, 57, 50, 50, 51, 51, 55, 50, 48, 51, 54, 56, 53, 52, 55, 55, 53, 56, 48, 56] := by
    simp [Lib.itoa, Lib.decDigits]
  unfold itB
  rw [this]
theorem itB_neg {n : Int} (h : n < 0) : itB n = ⟨#[45]⟩ ++ itB (-n) := by
  have e1 : ¬ -n < 0 := by omega
  have e2 : (-n).toNat = n.natAbs := by omega
  refine bs_ext ?_
  rw [ByteArray.data_append, Array.toList_append]
  unfold itB Lib.itoa
  rw [if_pos h, if_neg e1, e2]
  rfl
theorem itB_ten {u : Nat} (h : ¬ u < 10) : itB (u : Int) = itB ((u / 10 : Nat) : Int) ++ ⟨#[UInt8.ofNat (48 + u % 10)]⟩ := by
  refine bs_ext ?_
  rw [ByteArray.data_append, Array.toList_append]
  unfold itB Lib.itoa
  rw [if_neg (by omega), if_neg (by omega), Int.toNat_natCast, Int.toNat_natCast]
  conv => lhs; rw [Lib.decDigits]
  rw [dif_neg h]
theorem itB_one {u : Nat} (h : u < 10) : itB (u : Int) = ⟨#[UInt8.ofNat (48 + u % 10)]⟩ := by
  unfold itB Lib.itoa
  rw [if_neg (by omega), Int.toNat_natCast, Lib.decDigits, dif_pos h, Nat.mod_eq_of_lt h]
theorem dig_ext : ∀ d : Fin 10, (⟨#[48, 49, 50, 51, 52, 53, 54, 55, 56, 57]⟩ : ByteArray).extract d.val (d.val + 1) = ⟨#[UInt8.ofNat (48 + d.val)]⟩ := by decide +kernel
theorem decimal_pos (n : Nat) : ∀ u : Nat, u ≤ n → u ≤ 9223372036854775807 → ∀ w, Calls Tryz.prog 47 #[.int .i64 (u : Int)] w fun e w' => e = .returned (.string (itB (u : Int))) ∧ w' = w := by
  induction n with
  | zero =>
    intro u hu hm w
    obtain rfl : u = 0 := by omega
    go_enter Tryz.func47, Tryz.ntmps47
    go_wp2_with fail
    go_ret
    refine ⟨?_, rfl⟩
    have := itB_one (u := 0) (by omega)
    show Ending.returned (.string _) = .returned (.string (itB ((0 : Nat) : Int)))
    rw [this]
    rfl
  | succ n ih =>
    intro u hu hm w
    have hd := hide (dig_ext ⟨u % 10, Nat.mod_lt _ (by omega)⟩)
    by_cases h : u < 10
    · have E := hide (itB_one h)
      go_enter Tryz.func47, Tryz.ntmps47
      go_wp2_with fail
      go_ret
      refine ⟨?_, rfl⟩
      rw [E.out]
      exact congrArg (fun x => Ending.returned (.string x)) hd.out
    · have E := hide (itB_ten h)
      have J := hide (ih (u / 10) (by omega) (by omega))
      have z := itB_size (n := ((u / 10 : Nat) : Int)) ⟨by omega, by omega⟩
      have e10 : ((u / 10 : Nat) : Int) = (u : Int) / 10 := by omega
      have k1 := cat_any (itB ((u / 10 : Nat) : Int)) ((⟨#[48, 49, 50, 51, 52, 53, 54, 55, 56, 57]⟩ : ByteArray).extract (u % 10) (u % 10 + 1)) (by
        have := hd.out
        dsimp only at this
        rw [this]
        show _ + 1 ≤ _
        omega)
      have EX : Hid (Ending.returned (.string (itB ((u / 10 : Nat) : Int) ++ (⟨#[48, 49, 50, 51, 52, 53, 54, 55, 56, 57]⟩ : ByteArray).extract (u % 10) (u % 10 + 1))) = Ending.returned (.string (itB (u : Int)))) := by
        unfold Hid
        rw [E.out]
        exact congrArg (fun x => Ending.returned (.string (itB ((u / 10 : Nat) : Int) ++ x))) hd.out
      rw [e10] at J k1 EX
      clear E e10 hd
      go_enter Tryz.func47, Tryz.ntmps47
      go_wp2_with fail
      refine (J.out _).mono ?_
      rintro e w' ⟨rfl, rfl⟩
      go_wp2_with fail
      go_ret
      exact ⟨EX.out, rfl⟩
theorem decimal_any (n : Int) (h : I6 n) (w : World) : Calls Tryz.prog 47 #[.int .i64 n] w fun e w' => e = .returned (.string (itB n)) ∧ w' = w := by
  obtain ⟨h1, h2⟩ := h
  by_cases h0 : n < 0
  · by_cases hm : n = -9223372036854775808
    · subst hm
      have E := hide itB_min
      go_enter Tryz.func47, Tryz.ntmps47
      go_wp2_with fail
      go_ret
      rw [E.out]
      exact ⟨rfl, rfl⟩
    · have E := hide (itB_neg h0)
      have J := hide (decimal_pos (-n).toNat (-n).toNat (Nat.le_refl _) (by omega) w)
      have e10 : (((-n).toNat : Nat) : Int) = -n := by omega
      rw [e10] at J
      have z := itB_size (n := -n) ⟨by omega, by omega⟩
      have k1 := cat_any ⟨#[45]⟩ (itB (-n)) (by show 1 + _ ≤ _; omega)
      have hm' : (n == -9223372036854775808) = false := by simpa using hm
      clear e10
      go_enter Tryz.func47, Tryz.ntmps47
      go_wp2_with fail
      refine J.out.mono ?_
      rintro e w' ⟨rfl, rfl⟩
      go_wp2_with fail
      go_ret
      rw [E.out]
      exact ⟨rfl, rfl⟩
  · have J := decimal_pos n.toNat n.toNat (Nat.le_refl _) (by omega) w
    have e10 : ((n.toNat : Nat) : Int) = n := by omega
    rw [e10] at J
    exact J
end Go.Proofs.YtpolajoephjdhaaGreatDoor
