/-
  The document's forms (function 50): the three forms of a row, each behind the byte that tells it.
-/
import Derived.Test.YtoccbeefmagklaaRefPut
import Derived.Test.YtoccbeefmagklaaRefRuns
import Derived.BigQuiet
import Derived.Laws.Rows
import Derived.Deep.QuietTactic
namespace Go.Proofs.Ytoccbeefmagklaa
open Go.RowKit

def W4 (w : World) : World := (((w.alloc (.cells #[.slice none 0 0, .slice none 0 0, .slice none 0 0] 72)).alloc (.cells #[.int .u8 0] 5)).alloc (.cells #[.int .u8 1] 5)).alloc (.cells #[.int .u8 2] 5)
theorem W4_size (w : World) : (W4 w).heap.size = w.heap.size + 4 := by simp [W4]
theorem W4_0 (w : World) : (W4 w).heap[w.heap.size]? = some (.cells #[.slice none 0 0, .slice none 0 0, .slice none 0 0] 72 (0, 0)) := by
  show ((((w.heap.push _).push _).push _).push _)[_]? = _
  simp only [Array.getElem?_push, Array.size_push]
  rw [if_neg (by omega)]
  rw [if_neg (by omega)]
  rw [if_neg (by omega)]
  rw [if_pos trivial]
theorem W4_1 (w : World) : (W4 w).heap[w.heap.size + 1]? = some (.cells #[.int .u8 0] 5 (0, 0)) := by
  show ((((w.heap.push _).push _).push _).push _)[_]? = _
  simp only [Array.getElem?_push, Array.size_push]
  rw [if_neg (by omega)]
  rw [if_neg (by omega)]
  rw [if_pos trivial]
theorem W4_2 (w : World) : (W4 w).heap[w.heap.size + 1 + 1]? = some (.cells #[.int .u8 1] 5 (0, 0)) := by
  show ((((w.heap.push _).push _).push _).push _)[_]? = _
  simp only [Array.getElem?_push, Array.size_push]
  rw [if_neg (by omega)]
  rw [if_pos trivial]
theorem W4_3 (w : World) : (W4 w).heap[w.heap.size + 1 + 1 + 1]? = some (.cells #[.int .u8 2] 5 (0, 0)) := by
  show ((((w.heap.push _).push _).push _).push _)[_]? = _
  simp only [Array.getElem?_push, Array.size_push]
  rw [if_pos trivial]
theorem one_bs {W : World} {g : Nat} {b : UInt8} (h : W.heap[g]? = some (.cells #[.int .u8 b.toNat] 5 (0, 0))) : Bs W (.slice (some ⟨g, 0, none⟩) 1 1) [b] := by
  refine ⟨some ⟨g, 0, none⟩, 1, rfl, Nat.le_refl _, by decide, fun j hj => ⟨g, 0, rfl, ?_⟩⟩
  obtain rfl : j = 0 := by simp at hj; omega
  have := (show Row W g [b] from h).cell 0 (by simp)
  simpa using this
theorem W4_below (w : World) : Below w.heap.size w (W4 w) :=
  ((((Below.refl _ w).alloc (Nat.le_refl _) _).alloc (by simp) _).alloc (by simp; omega) _).alloc (by simp; omega) _
theorem bs_set {W : World} {v : Value} {b : List UInt8} {q : Addr} {u x : Value} (h : Bs W v b ∧ NilOr v) (hq : W.cell? q = some u) (hu : ∀ n : Int, u ≠ .int .u8 n) : Bs (W.setCell q x) v b ∧ NilOr v := by
  obtain ⟨⟨ao, c, rfl, h1, h2, h3⟩, hn⟩ := h
  refine ⟨⟨ao, c, rfl, h1, h2, fun j hj => ?_⟩, hn⟩
  obtain ⟨g, o, e, hc⟩ := h3 j hj
  refine ⟨g, o, e, ?_⟩
  have hne : q ≠ ⟨g, o + j, none⟩ := fun he => by
    rw [← he, hq] at hc
    exact hu _ (Option.some.inj hc)
  exact (World.cell?_setCell_other (h := hne) ..).trans hc
theorem set3 {W : World} {g : Nat} {a b c : Value} (h : W.heap[g]? = some (.cells #[.slice none 0 0, .slice none 0 0, .slice none 0 0] 72 (0, 0))) :
    (((W.setCell ⟨g, 0, none⟩ a).setCell ⟨g, 1, none⟩ b).setCell ⟨g, 2, none⟩ c).heap[g]? = some (.cells #[a, b, c] 72 (0, 0)) := by
  have hg : g < W.heap.size := by
    rcases Nat.lt_or_ge g W.heap.size with h' | h'
    · exact h'
    · rw [Array.getElem?_eq_none h'] at h; cases h
  have hx : W.heap[g] = .cells #[.slice none 0 0, .slice none 0 0, .slice none 0 0] 72 (0, 0) := by
    rw [Array.getElem?_eq_getElem hg] at h; exact Option.some.inj h
  simp [World.setCell, Array.getElem?_modify, h]
theorem rput_bs {v : Value} {b : List UInt8} {W : World} (n : Nat) (h : Bs W v b ∧ NilOr v) (hn : n < 18446744073709551616) (hl : b.length + 20 ≤ 140737488355328) :
    Calls Try.prog 14 #[v, .int .u64 n] W fun e W' => ∃ v', e = .returned v' ∧ (Bs W' v' (b ++ Lib.uvarint n) ∧ NilOr v') ∧ Below W.heap.size W W' :=
  (rput_any v b n W h.1 h.2 hn hl).mono fun _ _ ⟨v', a, o, c⟩ => ⟨v', a, ⟨own_bs (by simpa using o), own_nil o⟩, c⟩
theorem rputInt_bs {v : Value} {b : List UInt8} {W : World} (z : Int) (h : Bs W v b ∧ NilOr v) (hz : Rw.Fits z) (hl : b.length + 20 ≤ 140737488355328) :
    Calls Try.prog 15 #[v, .int .i64 z] W fun e W' => ∃ v', e = .returned v' ∧ (Bs W' v' (b ++ Rw.ivar z) ∧ NilOr v') ∧ Below W.heap.size W W' :=
  (rputInt_any v b z W h.1 h.2 hz.1 hz.2 hl).mono fun _ _ ⟨v', a, o, c⟩ => ⟨v', a, ⟨own_bs (by simpa [Rw.ivar] using o), own_nil o⟩, c⟩
theorem bsn_below {v : Value} {b : List UInt8} {W W' : World} (h : Bs W v b ∧ NilOr v) (hb : Below W.heap.size W W') : Bs W' v b ∧ NilOr v := ⟨h.1.below hb (Nat.le_refl _), h.2⟩

theorem body0 {zs : List Int} {k : Nat} {x : Int} (h : zs.getD k 0 = x) : (0 :: Rw.bodyTo zs 0 k) ++ Rw.ivar x = 0 :: Rw.bodyTo zs 0 (k + 1) := by
  have e : Rw.entry zs k 0 = x := by unfold Rw.entry; rw [if_neg (by omega)]; exact h
  rw [List.cons_append, Rw.bodyTo, e]
theorem body1 {zs : List Int} {k : Nat} {x last : Int} (h : zs.getD k 0 = x) (hx : Rw.Fits x) (hl : last = if k = 0 then 0 else zs.getD (k - 1) 0) : (1 :: Rw.bodyTo zs 1 k) ++ Rw.ivar (wrap64 (x - last)) = 1 :: Rw.bodyTo zs 1 (k + 1) := by
  have e : Rw.entry zs k 1 = wrap64 (x - last) := by
    unfold Rw.entry
    rcases Nat.eq_zero_or_pos k with h0 | h0
    · rw [if_neg (by omega), h, hl, if_pos h0]
      unfold Rw.Fits at hx
      unfold wrap64
      omega
    · rw [if_pos ⟨rfl, h0⟩, h, hl, if_neg (by omega)]
  rw [List.cons_append, Rw.bodyTo, e]
theorem ns_cell {W : World} {g o n c : Nat} {zs : List Int} (h : Ns W (.slice (some ⟨g, o, none⟩) n c) zs) {i : Nat} (hi : i < zs.length) : W.cell? ⟨g, o + i, none⟩ = some (.int .i64 (zs.getD i 0)) := by
  obtain ⟨ao, c', hv, _, _, hc⟩ := h
  simp only [Value.slice.injEq] at hv
  obtain ⟨rfl, _, _⟩ := hv
  obtain ⟨g', o', e, hx⟩ := hc i hi
  cases e
  exact hx
theorem ns_some {W : World} {ao : Option Addr} {n c : Nat} {zs : List Int} (h : Ns W (.slice ao n c) zs) (hi : 0 < zs.length) : ∃ g o, ao = some ⟨g, o, none⟩ := by
  obtain ⟨ao', c', hv, _, _, hc⟩ := h
  simp only [Value.slice.injEq] at hv
  obtain ⟨rfl, _, _⟩ := hv
  obtain ⟨g', o', e, hx⟩ := hc 0 hi
  exact ⟨g', o', e⟩

set_option maxHeartbeats 8000000 in
set_option maxRecDepth 100000 in
theorem forms_any (vl : Value) (zs : List Int) (w : World) (hl : Ns w vl zs) (hz : Rw.AllFit zs) (hzl : zs.length ≤ 1048576) :
    Calls Try.prog 50 #[vl] w fun e w' => ∃ v0 v1 v2, e = .returned (.agg #[v0, v1, v2]) ∧ (Bs w' v0 (0 :: Rw.formB zs 0) ∧ NilOr v0) ∧ (Bs w' v1 (1 :: Rw.formB zs 1) ∧ NilOr v1) ∧ (Bs w' v2 (2 :: Rw.formB zs 2) ∧ NilOr v2) ∧ Below w.heap.size w w' := by
  have HL := hide hl
  have HZ := hide hz
  obtain ⟨aol, cl, rfl, hlc, hlm, hlcell⟩ := hl
  unfold maxLen at hlm
  clear hlcell hz
  have K3 : Bs ((((w.alloc (.cells #[.slice none 0 0, .slice none 0 0, .slice none 0 0] 72)).alloc (.cells #[.int .u8 0] 5)).alloc (.cells #[.int .u8 1] 5)).alloc (.cells #[.int .u8 2] 5)) (.slice (some ⟨w.heap.size + 1, 0, none⟩) 1 1) [0] := one_bs (b := 0) (W4_1 w)
  have K4 : Bs ((((w.alloc (.cells #[.slice none 0 0, .slice none 0 0, .slice none 0 0] 72)).alloc (.cells #[.int .u8 0] 5)).alloc (.cells #[.int .u8 1] 5)).alloc (.cells #[.int .u8 2] 5)) (.slice (some ⟨w.heap.size + 1 + 1, 0, none⟩) 1 1) [1] := one_bs (b := 1) (W4_2 w)
  have K5 : Bs ((((w.alloc (.cells #[.slice none 0 0, .slice none 0 0, .slice none 0 0] 72)).alloc (.cells #[.int .u8 0] 5)).alloc (.cells #[.int .u8 1] 5)).alloc (.cells #[.int .u8 2] 5)) (.slice (some ⟨w.heap.size + 1 + 1 + 1, 0, none⟩) 1 1) [2] := one_bs (b := 2) (W4_3 w)
  have KN : Ns ((((w.alloc (.cells #[.slice none 0 0, .slice none 0 0, .slice none 0 0] 72)).alloc (.cells #[.int .u8 0] 5)).alloc (.cells #[.int .u8 1] 5)).alloc (.cells #[.int .u8 2] 5)) (.slice aol zs.length cl) zs := HL.out.below (W4_below w) (Nat.le_refl _)
  have KB : Below w.heap.size w ((((w.alloc (.cells #[.slice none 0 0, .slice none 0 0, .slice none 0 0] 72)).alloc (.cells #[.int .u8 0] 5)).alloc (.cells #[.int .u8 1] 5)).alloc (.cells #[.int .u8 2] 5)) := W4_below w
  have H3 := hide K3
  have H4 := hide K4
  have H5 := hide K5
  have HN := hide KN
  have HB := hide KB
  clear K3 K4 K5 KN KB
  go_enter Try.func50, Try.ntmps50
  go_wp2
  generalize hW0 : ((((w.alloc (.cells #[.slice none 0 0, .slice none 0 0, .slice none 0 0] 72)).alloc (.cells #[.int .u8 0] 5)).alloc (.cells #[.int .u8 1] 5)).alloc (.cells #[.int .u8 2] 5)) = W0 at *
  have HW := hide hW0
  clear hW0
  go_loopw [3, 4, 6, 7, 8, 9] (fun v3 v4 v6 v7 v8 v9 wr => ∃ (i e : Nat) (last : Int), i ≤ zs.length ∧ v9 = .int .i64 i ∧ v8 = .int .i64 last ∧ Hid (last = if i = 0 then 0 else zs.getD (i - 1) 0) ∧ v7 = .int .i64 ((Rw.runsTo zs e).count : Nat) ∧ Hid (Rw.Begun zs i e) ∧ Hid (Bs wr v3 (0 :: Rw.bodyTo zs 0 i) ∧ NilOr v3) ∧ Hid (Bs wr v4 (1 :: Rw.bodyTo zs 1 i) ∧ NilOr v4) ∧ Hid (Bs wr v6 (Rw.runsTo zs e).bytes ∧ NilOr v6) ∧ Hid (Below W0.heap.size W0 wr))
    (fun _ _ _ _ _ v9 _ => zs.length - (intOf v9).toNat)
  case atStart => exact ⟨0, 0, 0, Nat.zero_le _, rfl, rfl, rfl, rfl, Rw.Begun.start _, ⟨H3.out, .inr ⟨_, _, _, rfl⟩⟩, ⟨H4.out, .inr ⟨_, _, _, rfl⟩⟩, ⟨Bs.nil _, .inl rfl⟩, Below.refl _ _⟩
  case round =>
    obtain ⟨i, e, last, hi, rfl, rfl, HLast, rfl, HBeg, A3, A4, A6, HBr⟩ := hrel
    by_cases hlt : i < zs.length
    · have hfit := hide (Rw.getD_fits HZ.out i)
      obtain ⟨g, o, rfl⟩ := ns_some HN.out (by omega)
      have N1 := hide (HN.out.below HBr.out (Nat.le_refl _))
      have hc := ns_cell N1.out hlt
      have hlti : (i : Int) < (zs.length : Int) := by omega
      have len3 := Rw.bodyTo_length HZ.out 0 i
      have len4 := Rw.bodyTo_length HZ.out 1 i
      have p1 := hide (rputInt_bs (zs.getD i 0) A3.out hfit.out (by simp only [List.length_cons]; omega))
      have q2 := hide (fun W (hb : Below wr.heap.size wr W) => rputInt_bs (wrap64 (zs.getD i 0 - last)) (bsn_below A4.out hb) (Rw.wrap64_fits _) (by simp only [List.length_cons]; omega))
      generalize hx : zs.getD i 0 = x at hc p1 q2 hfit
      have HX := hide hx
      clear hx
      go_wp2_with fail
      refine p1.out.mono ?_
      rintro e1 w1 ⟨u3, rfl, D3, b1⟩
      have N2 := hide (N1.out.below b1 (Nat.le_refl _))
      have hc1 := ns_cell N2.out hlt
      rw [HX.out] at hc1
      have hq := hide (q2.out w1 b1)
      have E3 := hide D3
      have b1' := hide b1
      clear D3 b1 hc p1 q2
      go_wp2_with fail
      refine hq.out.mono ?_
      rintro e2 w2 ⟨u4, rfl, D4, b2⟩
      have N3 := hide (N2.out.below b2 (Nat.le_refl _))
      have hc2 := ns_cell N3.out hlt
      rw [HX.out] at hc2
      have E4 := hide D4
      have b2' := hide b2
      clear D4 b2 hc1 hq
      rcases Nat.lt_or_ge i e with hie | hie
      · obtain ⟨hi0, hsame, hbeg⟩ := HBeg.out.mid hie
        obtain ⟨i', rfl⟩ : ∃ i', i = i' + 1 := ⟨i - 1, by omega⟩
        have hcm := ns_cell N3.out (show i' < zs.length by omega)
        rw [show zs.getD i' 0 = x by rw [← HX.out, ← hsame]; rfl] at hcm
        have HG := hide hbeg
        clear hbeg hsame
        have z1 : ((i' : Int) + 1 == 0) = false := by rw [beq_eq_false_iff_ne]; omega
        have hlti' : (i' : Int) < (zs.length : Int) := by omega
        go_wp2
        go_quiet (fail)
        go_wp2
        go_roundw
        case rel =>
          have b3 : Below w2.heap.size w2 (w2.drewN nq) := below_drew ⟨nq, rfl⟩
          refine ⟨i' + 1 + 1, e, x, by omega, by go_num, rfl, ?_, rfl, HG.out, ?_, ?_, ?_, ?_⟩
          · show x = _
            rw [if_neg (by omega)]
            exact HX.out.symm
          · have := bsn_below (bsn_below E3.out b2'.out) b3
            rw [body0 HX.out] at this
            exact this
          · have := bsn_below E4.out b3
            rw [body1 HX.out hfit.out HLast.out] at this
            exact this
          · exact bsn_below (bsn_below (bsn_below A6.out b1'.out) b2'.out) b3
          · exact ((HBr.out.trans (b1'.out.mono HBr.out.size)).trans (b2'.out.mono (Nat.le_trans HBr.out.size b1'.out.size))).trans (b3.mono (Nat.le_trans (Nat.le_trans HBr.out.size b1'.out.size) b2'.out.size))
        case measure => simp [intOf]; omega
      · have hei : e = i := by have := HBeg.out.1; omega
        subst hei
        rcases HBeg.out.fresh hlt with h0 | hne
        · have z1 : ((e : Int) == 0) = true := by simp [h0]
          clear h0
          go_wp2
          go_quiet (fail)
          go_wp2
          go_loopw [10] (fun v10 wq => ∃ m : Nat, v10 = .int .i64 ((m + 1 : Nat) : Int) ∧ e + m < zs.length ∧ Hid (∀ j, j ≤ m → zs.getD (e + j) 0 = x) ∧ Hid (∃ d, wq = w2.drewN d)) (fun v10 _ => zs.length - (intOf v10).toNat)
          case atStart => exact ⟨0, rfl, hlt, fun j hj => by rw [show e + j = e by omega]; exact HX.out, ⟨nq, rfl⟩⟩
          case round =>
            obtain ⟨m, rfl, hm, HAll, HD⟩ := hrel
            have hcB : wr.cell? ⟨g, o + e, none⟩ = some (.int .i64 x) := by obtain ⟨d, rfl⟩ := HD.out; exact hc2
            by_cases hmore : e + (m + 1) < zs.length
            · have hcA : wr.cell? ⟨g, o + (e + (m + 1)), none⟩ = some (.int .i64 (zs.getD (e + (m + 1)) 0)) := by
                have := ns_cell N3.out hmore
                obtain ⟨d, rfl⟩ := HD.out; exact this
              have hlt2 : (e : Int) + ((m : Int) + 1) < (zs.length : Int) := by omega
              generalize hy : zs.getD (e + (m + 1)) 0 = y at hcA
              have HY := hide hy
              clear hy
              by_cases hyx : y = x
              · subst hyx
                go_wp2
                go_quiet (fail)
                go_wp2
                refine ⟨⟨m + 1, by go_num, by omega, fun j hj => ?_, drew_trans HD.out ⟨nq, rfl⟩⟩, by simp [intOf]; omega⟩
                rcases Nat.lt_or_ge m j with hj2 | hj2
                · rw [show j = m + 1 by omega]; exact HY.out
                · exact HAll.out j hj2
              · have hyx1 : (y == x) = false := by rw [beq_eq_false_iff_ne]; exact hyx
                have hyx2 : decide (y = x) = false := by simp [hyx]
                go_wp2
                go_quiet (fail)
                go_wp2_with fail
                have hend : e + m + 1 = zs.length ∨ zs.getD (e + m + 1) 0 ≠ zs.getD e 0 := .inr (fun h => hyx (by rw [← HY.out, ← HX.out]; exact h))
                have hall : ∀ j, j ≤ m → zs.getD (e + j) 0 = zs.getD e 0 := fun j hj => (HAll.out j hj).trans HX.out.symm
                have HN2 := hide (HBeg.out.next hm hall hend)
                have HR := hide (Rw.runs_run HBeg.out.2.2.1 hm hall hend)
                have hbq : Below w2.heap.size w2 (wr.drewN nq) := below_drew (drew_trans HD.out ⟨nq, rfl⟩)
                have l6 := Rw.runsTo_length HZ.out e (by omega)
                have hcnt := (Rw.runsTo_count zs e).1
                have P := rput_bs (m + 1) (bsn_below (bsn_below (bsn_below A6.out b1'.out) b2'.out) hbq) (by omega) (by omega)
                refine P.mono ?_
                rintro e3 w3 ⟨u6', rfl, D6, b3⟩
                have hl6 := Lib.uvarint_length64 (x := m + 1) (by omega)
                have hc3 := ns_cell ((N3.out.below hbq (Nat.le_refl _)).below b3 (Nat.le_refl _)) hlt
                rw [HX.out] at hc3
                have Q := hide (rputInt_bs x D6 hfit.out (by simp only [List.length_append]; omega))
                have b3' := hide b3
                have hbq' := hide hbq
                clear P D6 b3 hbq hend hall
                go_wp2_with fail
                refine Q.out.mono ?_
                rintro e4 w4 ⟨u7, rfl, D7, b4⟩
                have E7 := hide D7
                have b4' := hide b4
                clear D7 b4 Q
                go_wp2
                refine ⟨⟨e + 1, e + (m + 1), x, by omega, by go_num, rfl, ?_, ?_, HN2.out, ?_, ?_, ?_, ?_⟩, by simp [intOf]; omega⟩
                · show x = _
                  rw [if_neg (by omega)]
                  exact HX.out.symm
                · refine val_int ?_
                  rw [HR.out]
                  show wrap64 _ = (((Rw.runsTo zs e).count + 1 : Nat) : Int)
                  unfold wrap64
                  omega
                · have := bsn_below (bsn_below (bsn_below (bsn_below E3.out b2'.out) hbq'.out) b3'.out) b4'.out
                  rw [body0 HX.out] at this
                  exact this
                · have := bsn_below (bsn_below (bsn_below E4.out hbq'.out) b3'.out) b4'.out
                  rw [body1 HX.out hfit.out HLast.out] at this
                  exact this
                · rw [HR.out]
                  have := E7.out
                  rw [List.append_assoc, ← HX.out] at this
                  exact this
                · have s0 := HBr.out.size
                  have s1 := b1'.out.size
                  have s2 := b2'.out.size
                  have s3 := hbq'.out.size
                  have s4 := b3'.out.size
                  exact ((((HBr.out.trans (b1'.out.mono s0)).trans (b2'.out.mono (by omega))).trans (hbq'.out.mono (by omega))).trans (b3'.out.mono (by omega))).trans (b4'.out.mono (by omega))
            · have hlt2 : decide ((e : Int) + ((m : Int) + 1) < (zs.length : Int)) = false := by simp; omega
              go_wp2
              go_quiet (fail)
              go_wp2_with fail
              have hend : e + m + 1 = zs.length ∨ zs.getD (e + m + 1) 0 ≠ zs.getD e 0 := .inl (by omega)
              have hall : ∀ j, j ≤ m → zs.getD (e + j) 0 = zs.getD e 0 := fun j hj => (HAll.out j hj).trans HX.out.symm
              have HN2 := hide (HBeg.out.next hm hall hend)
              have HR := hide (Rw.runs_run HBeg.out.2.2.1 hm hall hend)
              have hbq : Below w2.heap.size w2 (wr.drewN nq) := below_drew (drew_trans HD.out ⟨nq, rfl⟩)
              have l6 := Rw.runsTo_length HZ.out e (by omega)
              have hcnt := (Rw.runsTo_count zs e).1
              have P := rput_bs (m + 1) (bsn_below (bsn_below (bsn_below A6.out b1'.out) b2'.out) hbq) (by omega) (by omega)
              refine P.mono ?_
              rintro e3 w3 ⟨u6', rfl, D6, b3⟩
              have hl6 := Lib.uvarint_length64 (x := m + 1) (by omega)
              have hc3 := ns_cell ((N3.out.below hbq (Nat.le_refl _)).below b3 (Nat.le_refl _)) hlt
              rw [HX.out] at hc3
              have Q := hide (rputInt_bs x D6 hfit.out (by simp only [List.length_append]; omega))
              have b3' := hide b3
              have hbq' := hide hbq
              clear P D6 b3 hbq hend hall
              go_wp2_with fail
              refine Q.out.mono ?_
              rintro e4 w4 ⟨u7, rfl, D7, b4⟩
              have E7 := hide D7
              have b4' := hide b4
              clear D7 b4 Q
              go_wp2
              refine ⟨⟨e + 1, e + (m + 1), x, by omega, by go_num, rfl, ?_, ?_, HN2.out, ?_, ?_, ?_, ?_⟩, by simp [intOf]; omega⟩
              · show x = _
                rw [if_neg (by omega)]
                exact HX.out.symm
              · refine val_int ?_
                rw [HR.out]
                show wrap64 _ = (((Rw.runsTo zs e).count + 1 : Nat) : Int)
                unfold wrap64
                omega
              · have := bsn_below (bsn_below (bsn_below (bsn_below E3.out b2'.out) hbq'.out) b3'.out) b4'.out
                rw [body0 HX.out] at this
                exact this
              · have := bsn_below (bsn_below (bsn_below E4.out hbq'.out) b3'.out) b4'.out
                rw [body1 HX.out hfit.out HLast.out] at this
                exact this
              · rw [HR.out]
                have := E7.out
                rw [List.append_assoc, ← HX.out] at this
                exact this
              · have s0 := HBr.out.size
                have s1 := b1'.out.size
                have s2 := b2'.out.size
                have s3 := hbq'.out.size
                have s4 := b3'.out.size
                exact ((((HBr.out.trans (b1'.out.mono s0)).trans (b2'.out.mono (by omega))).trans (hbq'.out.mono (by omega))).trans (b3'.out.mono (by omega))).trans (b4'.out.mono (by omega))

        · have he0 : 0 < e := by
            rcases Nat.eq_zero_or_pos e with h | h
            · exact absurd rfl (by rw [h] at hne; exact hne)
            · exact h
          have z1 : ((e : Int) == 0) = false := by rw [beq_eq_false_iff_ne]; omega
          have hcm := ns_cell N3.out (show e - 1 < zs.length by omega)
          have hep : (e : Int) - 1 = ((e - 1 : Nat) : Int) := by omega
          have hpl : ((e - 1 : Nat) : Int) < (zs.length : Int) := by omega
          rw [HX.out] at hne
          generalize zs.getD (e - 1) 0 = y0 at hcm hne
          generalize e - 1 = p at hcm hep hpl
          have hy0 : decide (y0 = x) = false := by simp [hne]
          go_wp2
          go_quiet (fail)
          go_wp2
          go_loopw [10] (fun v10 wq => ∃ m : Nat, v10 = .int .i64 ((m + 1 : Nat) : Int) ∧ e + m < zs.length ∧ Hid (∀ j, j ≤ m → zs.getD (e + j) 0 = x) ∧ Hid (∃ d, wq = w2.drewN d)) (fun v10 _ => zs.length - (intOf v10).toNat)
          case atStart => exact ⟨0, rfl, hlt, fun j hj => by rw [show e + j = e by omega]; exact HX.out, ⟨nq, rfl⟩⟩
          case round =>
            obtain ⟨m, rfl, hm, HAll, HD⟩ := hrel
            have hcB : wr.cell? ⟨g, o + e, none⟩ = some (.int .i64 x) := by obtain ⟨d, rfl⟩ := HD.out; exact hc2
            by_cases hmore : e + (m + 1) < zs.length
            · have hcA : wr.cell? ⟨g, o + (e + (m + 1)), none⟩ = some (.int .i64 (zs.getD (e + (m + 1)) 0)) := by
                have := ns_cell N3.out hmore
                obtain ⟨d, rfl⟩ := HD.out; exact this
              have hlt2 : (e : Int) + ((m : Int) + 1) < (zs.length : Int) := by omega
              generalize hy : zs.getD (e + (m + 1)) 0 = y at hcA
              have HY := hide hy
              clear hy
              by_cases hyx : y = x
              · subst hyx
                go_wp2
                go_quiet (fail)
                go_wp2
                refine ⟨⟨m + 1, by go_num, by omega, fun j hj => ?_, drew_trans HD.out ⟨nq, rfl⟩⟩, by simp [intOf]; omega⟩
                rcases Nat.lt_or_ge m j with hj2 | hj2
                · rw [show j = m + 1 by omega]; exact HY.out
                · exact HAll.out j hj2
              · have hyx1 : (y == x) = false := by rw [beq_eq_false_iff_ne]; exact hyx
                have hyx2 : decide (y = x) = false := by simp [hyx]
                go_wp2
                go_quiet (fail)
                go_wp2_with fail
                have hend : e + m + 1 = zs.length ∨ zs.getD (e + m + 1) 0 ≠ zs.getD e 0 := .inr (fun h => hyx (by rw [← HY.out, ← HX.out]; exact h))
                have hall : ∀ j, j ≤ m → zs.getD (e + j) 0 = zs.getD e 0 := fun j hj => (HAll.out j hj).trans HX.out.symm
                have HN2 := hide (HBeg.out.next hm hall hend)
                have HR := hide (Rw.runs_run HBeg.out.2.2.1 hm hall hend)
                have hbq : Below w2.heap.size w2 (wr.drewN nq) := below_drew (drew_trans HD.out ⟨nq, rfl⟩)
                have l6 := Rw.runsTo_length HZ.out e (by omega)
                have hcnt := (Rw.runsTo_count zs e).1
                have P := rput_bs (m + 1) (bsn_below (bsn_below (bsn_below A6.out b1'.out) b2'.out) hbq) (by omega) (by omega)
                refine P.mono ?_
                rintro e3 w3 ⟨u6', rfl, D6, b3⟩
                have hl6 := Lib.uvarint_length64 (x := m + 1) (by omega)
                have hc3 := ns_cell ((N3.out.below hbq (Nat.le_refl _)).below b3 (Nat.le_refl _)) hlt
                rw [HX.out] at hc3
                have Q := hide (rputInt_bs x D6 hfit.out (by simp only [List.length_append]; omega))
                have b3' := hide b3
                have hbq' := hide hbq
                clear P D6 b3 hbq hend hall
                go_wp2_with fail
                refine Q.out.mono ?_
                rintro e4 w4 ⟨u7, rfl, D7, b4⟩
                have E7 := hide D7
                have b4' := hide b4
                clear D7 b4 Q
                go_wp2
                refine ⟨⟨e + 1, e + (m + 1), x, by omega, by go_num, rfl, ?_, ?_, HN2.out, ?_, ?_, ?_, ?_⟩, by simp [intOf]; omega⟩
                · show x = _
                  rw [if_neg (by omega)]
                  exact HX.out.symm
                · refine val_int ?_
                  rw [HR.out]
                  show wrap64 _ = (((Rw.runsTo zs e).count + 1 : Nat) : Int)
                  unfold wrap64
                  omega
                · have := bsn_below (bsn_below (bsn_below (bsn_below E3.out b2'.out) hbq'.out) b3'.out) b4'.out
                  rw [body0 HX.out] at this
                  exact this
                · have := bsn_below (bsn_below (bsn_below E4.out hbq'.out) b3'.out) b4'.out
                  rw [body1 HX.out hfit.out HLast.out] at this
                  exact this
                · rw [HR.out]
                  have := E7.out
                  rw [List.append_assoc, ← HX.out] at this
                  exact this
                · have s0 := HBr.out.size
                  have s1 := b1'.out.size
                  have s2 := b2'.out.size
                  have s3 := hbq'.out.size
                  have s4 := b3'.out.size
                  exact ((((HBr.out.trans (b1'.out.mono s0)).trans (b2'.out.mono (by omega))).trans (hbq'.out.mono (by omega))).trans (b3'.out.mono (by omega))).trans (b4'.out.mono (by omega))
            · have hlt2 : decide ((e : Int) + ((m : Int) + 1) < (zs.length : Int)) = false := by simp; omega
              go_wp2
              go_quiet (fail)
              go_wp2_with fail
              have hend : e + m + 1 = zs.length ∨ zs.getD (e + m + 1) 0 ≠ zs.getD e 0 := .inl (by omega)
              have hall : ∀ j, j ≤ m → zs.getD (e + j) 0 = zs.getD e 0 := fun j hj => (HAll.out j hj).trans HX.out.symm
              have HN2 := hide (HBeg.out.next hm hall hend)
              have HR := hide (Rw.runs_run HBeg.out.2.2.1 hm hall hend)
              have hbq : Below w2.heap.size w2 (wr.drewN nq) := below_drew (drew_trans HD.out ⟨nq, rfl⟩)
              have l6 := Rw.runsTo_length HZ.out e (by omega)
              have hcnt := (Rw.runsTo_count zs e).1
              have P := rput_bs (m + 1) (bsn_below (bsn_below (bsn_below A6.out b1'.out) b2'.out) hbq) (by omega) (by omega)
              refine P.mono ?_
              rintro e3 w3 ⟨u6', rfl, D6, b3⟩
              have hl6 := Lib.uvarint_length64 (x := m + 1) (by omega)
              have hc3 := ns_cell ((N3.out.below hbq (Nat.le_refl _)).below b3 (Nat.le_refl _)) hlt
              rw [HX.out] at hc3
              have Q := hide (rputInt_bs x D6 hfit.out (by simp only [List.length_append]; omega))
              have b3' := hide b3
              have hbq' := hide hbq
              clear P D6 b3 hbq hend hall
              go_wp2_with fail
              refine Q.out.mono ?_
              rintro e4 w4 ⟨u7, rfl, D7, b4⟩
              have E7 := hide D7
              have b4' := hide b4
              clear D7 b4 Q
              go_wp2
              refine ⟨⟨e + 1, e + (m + 1), x, by omega, by go_num, rfl, ?_, ?_, HN2.out, ?_, ?_, ?_, ?_⟩, by simp [intOf]; omega⟩
              · show x = _
                rw [if_neg (by omega)]
                exact HX.out.symm
              · refine val_int ?_
                rw [HR.out]
                show wrap64 _ = (((Rw.runsTo zs e).count + 1 : Nat) : Int)
                unfold wrap64
                omega
              · have := bsn_below (bsn_below (bsn_below (bsn_below E3.out b2'.out) hbq'.out) b3'.out) b4'.out
                rw [body0 HX.out] at this
                exact this
              · have := bsn_below (bsn_below (bsn_below E4.out hbq'.out) b3'.out) b4'.out
                rw [body1 HX.out hfit.out HLast.out] at this
                exact this
              · rw [HR.out]
                have := E7.out
                rw [List.append_assoc, ← HX.out] at this
                exact this
              · have s0 := HBr.out.size
                have s1 := b1'.out.size
                have s2 := b2'.out.size
                have s3 := hbq'.out.size
                have s4 := b3'.out.size
                exact ((((HBr.out.trans (b1'.out.mono s0)).trans (b2'.out.mono (by omega))).trans (hbq'.out.mono (by omega))).trans (b3'.out.mono (by omega))).trans (b4'.out.mono (by omega))

    · have hil : i = zs.length := by omega
      have hnl : ¬ (i : Int) < (zs.length : Int) := by omega
      have hee : e = zs.length := by have h := HBeg.out; rw [hil] at h; exact h.over
      have l6 : (Rw.runsTo zs e).bytes.length ≤ 20 * e := Rw.runsTo_length HZ.out e (by omega)
      have hcnt : (Rw.runsTo zs e).count ≤ 1048576 := by have := (Rw.runsTo_count zs e).1; omega
      have hel : e ≤ 1048576 := by omega
      obtain ⟨ao3, c3, rfl, _, _, _⟩ := A3.out.1
      obtain ⟨ao4, c4, rfl, _, _, _⟩ := A4.out.1
      have V5 := H5.out.below HBr.out (Nat.le_refl _)
      have P := hide (rput_any _ [2] (Rw.runsTo zs e).count wr V5 (.inr ⟨_, _, _, rfl⟩) (by omega) (by simp))
      have HEE := hide hee
      have HIL := hide hil
      have hwr : IntKind.u64.wrap ((Rw.runsTo zs e).count : Int) = ((Rw.runsTo zs e).count : Int) := by rw [IntKind.wrap_u64]; omega
      clear V5 hee hil
      have hcl := Lib.uvarint_length64 (x := (Rw.runsTo zs e).count) (by omega)
      go_wp2_with fail
      refine P.out.mono ?_
      rintro e1 w1 ⟨v5, rfl, ho, b1⟩
      have B6 := bsn_below A6.out b1
      have b1' := hide b1
      have hs1 := b1.size
      go_wp2_with (at_builtin; refine wpList_append_bs _ rfl _ _ rfl wr.heap.size _ _ _ rfl ho _ (Rw.runsTo zs e).bytes rfl B6.1 B6.2 ?k1 ?k2 ?_)
      case k1 => simp; omega
      case k2 => omega
      intro v7 w2 ho2 b2
      have b2' := hide b2
      obtain ⟨ao7, c7, rfl⟩ := own_len ho2
      have OO := hide ho2
      have h0 : w.heap.size < W0.heap.size := by
        rw [← HW.out]
        show _ < (W4 w).heap.size
        rw [W4_size]
        omega
      have hs0 := HBr.out.size
      have hblk : w2.heap[w.heap.size]? = some (.cells #[.slice none 0 0, .slice none 0 0, .slice none 0 0] 72 (0, 0)) := by
        rw [b2.block _ (by omega), b1.block _ (by omega), HBr.out.block _ h0, ← HW.out]
        exact W4_0 w
      have hk0 : w2.cell? ⟨w.heap.size, 0, none⟩ = some (.slice none 0 0) := by rw [cell_of_row w2 _ 0 _ 72 (0, 0) hblk]; rfl
      have hk1 : w2.cell? ⟨w.heap.size, 1, none⟩ = some (.slice none 0 0) := by rw [cell_of_row w2 _ 1 _ 72 (0, 0) hblk]; rfl
      have hk2 : w2.cell? ⟨w.heap.size, 2, none⟩ = some (.slice none 0 0) := by rw [cell_of_row w2 _ 2 _ 72 (0, 0) hblk]; rfl
      have hf0 : w2.frozen? ⟨w.heap.size, 0, none⟩ = false := by simp [World.frozen?, hblk]
      have hf1 : w2.frozen? ⟨w.heap.size, 1, none⟩ = false := by simp [World.frozen?, hblk]
      have hf2 : w2.frozen? ⟨w.heap.size, 2, none⟩ = false := by simp [World.frozen?, hblk]
      have HBK := hide hblk
      clear hblk
      clear P b1 b2 ho B6 ho2
      go_wp2
      try simp only [Exit.inBlock, Exit.then]
      refine bodyPost_ret (results_cell_row rfl _ _ w.heap.size 72 _ (0, 0) _ rfl (set3 HBK.out) Try.underlying72 rfl (by kernel_rfl)) rfl ?_
      have b12 : Below wr.heap.size wr w2 := b1'.out.trans b2'.out
      have hs0 := HBr.out.size
      have hsB := HB.out.size
      have T : ∀ {v : Value} {b : List UInt8} {x0 x1 x2 : Value}, (Bs w2 v b ∧ NilOr v) → (Bs (((w2.setCell ⟨w.heap.size, 0, none⟩ x0).setCell ⟨w.heap.size, 1, none⟩ x1).setCell ⟨w.heap.size, 2, none⟩ x2) v b ∧ NilOr v) := fun h =>
        bs_set (bs_set (bs_set h hk0 (by simp)) ((World.cell?_setCell_other _ _ _ _ (by simp)).trans hk1) (by simp)) (((World.cell?_setCell_other _ _ _ _ (by simp)).trans (World.cell?_setCell_other _ _ _ _ (by simp))).trans hk2) (by simp)
      refine ⟨_, _, _, rfl, T ?_, T ?_, T ?_, ?_⟩
      · have h := bsn_below A3.out b12
        rw [HIL.out] at h ⊢
        exact h
      · have h := bsn_below A4.out b12
        rw [HIL.out] at h ⊢
        exact h
      · have h := OO.out
        have hn := own_nil h
        rw [← Lib.byteCells_append] at h
        refine ⟨?_, hn⟩
        have h2 := own_bs h
        rw [show (2 :: Rw.formB zs 2 : List UInt8) = [2] ++ Lib.uvarint (Rw.runsTo zs e).count ++ (Rw.runsTo zs e).bytes by rw [HEE.out]; rfl]
        exact h2
      · exact ((((HB.out.trans (HBr.out.mono hsB)).trans (b12.mono (by omega))).setCell (p := ⟨w.heap.size, 0, none⟩) (Nat.le_refl _) _).setCell (p := ⟨w.heap.size, 1, none⟩) (Nat.le_refl _) _).setCell (p := ⟨w.heap.size, 2, none⟩) (Nat.le_refl _) _
end Go.Proofs.Ytoccbeefmagklaa
