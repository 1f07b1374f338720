/-
  Shuffle: the document's.
-/
import Derived.Test.YtihlhidpiehehaaOrd
import Derived.Deep.OwnRows
namespace Go.Proofs.Ytihlhidpiehehaa
open Go.RowKit
theorem made_row (n : Nat) : madeCells #[(.int .i64 0 : Value)] n = (zc (List.replicate n 0)).toArray := by
  apply Array.toList_inj.1
  rw [toList_madeCells_one]
  simp [zc]
theorem iota_step {w : World} {g n i : Nat} (h : Ir w g (iota i ++ List.replicate (n - i) 0)) (hi : i < n) : Ir (w.setCell ⟨g, i, none⟩ (.int .i64 (i : Int))) g (iota (i + 1) ++ List.replicate (n - (i + 1)) 0) := by
  have h1 := h.set i (i : Int)
  rw [List.set_append_right _ _ (by rw [iota_len]; omega), iota_len, Nat.sub_self, show n - i = (n - (i + 1)) + 1 by omega, List.replicate_succ, List.set_cons_zero] at h1
  rw [show iota (i + 1) = iota i ++ [(i : Int)] by simp [iota, List.range_succ]]
  simpa using h1
theorem shuf_step {i : Nat} (l : List Int) (s : Int) (h : 1 ≤ i) : shuf i l s = shuf (i - 1) (swp l i (belA ((i : Int) + 1) s).toNat) (belS ((i : Int) + 1) s) := by
  obtain ⟨k, rfl⟩ : ∃ k, i = k + 1 := ⟨i - 1, by omega⟩
  rw [shuf, Nat.add_sub_cancel, show ((k + 1 : Nat) : Int) + 1 = (k : Int) + 2 by omega]
theorem swp_ir {w : World} {g : Nat} {l : List Int} (h : Ir w g l) (i j : Nat) : Ir ((w.setCell ⟨g, i, none⟩ (.int .i64 (l.getD j 0))).setCell ⟨g, j, none⟩ (.int .i64 (l.getD i 0))) g (swp l i j) := (h.set i _).set j _
theorem dshuffle_bad {w : World} {g : Nat} (n : Int) (h : n < 1 ∨ 1000 < n) : Calls Try.prog 22 #[.pointer (some ⟨g, 0, none⟩), .int .i64 n] w fun e w' => e = .returned (.slice none 0 0) ∧ w' = w := by
  rcases h with h | h
  · go_enter Try.func22, Try.ntmps22
    go_wp2_with fail
    go_ret
    exact ⟨rfl, rfl⟩
  · go_enter Try.func22, Try.ntmps22
    go_wp2_with fail
    go_ret
    exact ⟨rfl, rfl⟩
theorem dshuffle_any {w : World} {g : Nat} {s : Int} (h : Rz w g s) (n : Nat) (h1 : 1 ≤ n) (h2 : n ≤ 1000) : Calls Try.prog 22 #[.pointer (some ⟨g, 0, none⟩), .int .i64 (n : Int)] w fun e w' => e = .returned (.slice (some ⟨w.heap.size, 0, none⟩) n n) ∧ Ir w' w.heap.size (ordL n s) ∧ Rz w' g (ordS n s) ∧ Mv w w' (fun k => k = g) := by
  have hmk := run_make_row' (P := Try.prog) 45 3 (.int .i64 0) 8 Try.underlying45 info3 rfl .i64 .i64 n (by omega) (by omega)
  have H := hide h
  have hgl := h.lt
  have JB := hide (fun (W : World) (s : Int) (x : Int) (h : Rz W g s) h1 h2 => dbelow_any h x h1 h2)
  obtain ⟨gs, hgs⟩ : ∃ k, k = w.heap.size := ⟨_, rfl⟩
  rw [← hgs] at hgl ⊢
  clear h
  go_enter Try.func22, Try.ntmps22
  go_wp2_with fail
  rw [← hgs]
  have HI : Hid (Ir (w.alloc (.cells (madeCells #[.int .i64 0] n) 3)) gs (iota 0 ++ List.replicate (n - 0) 0)) := by
    show Ir _ _ _
    unfold Ir
    rw [hgs, made_row]
    exact heap_alloc_new _ _
  have HGS := hide hgs
  clear hgs
  go_loopg [6] n (fun k v6 wr => ∃ i : Nat, k = n - i ∧ i ≤ n ∧ v6 = .int .i64 (i : Int) ∧ Hid (Ir wr gs (iota i ++ List.replicate (n - i) 0)) ∧ Hid (Below w.heap.size w wr))
  case atStart => exact ⟨0, rfl, by omega, rfl, HI, below_alloc _ _⟩
  case round =>
    clear HI
    obtain ⟨i, hk, hi, rfl, HI, HW⟩ := hrel
    by_cases hlt : i < n
    · have hlt' : (i : Int) < (n : Int) := by omega
      have f0 : wr.frozen? ⟨gs, i, none⟩ = false := HI.out.frozen i
      have c0 : wr.cell? ⟨gs, i, none⟩ = some (.int .i64 ((iota i ++ List.replicate (n - i) 0).getD i 0)) := HI.out.cellD i (by simp [iota_len]; omega)
      go_wp2_with fail
      go_roundg (n - (i + 1))
      case measure => omega
      case rel => exact ⟨i + 1, rfl, hlt, by simp, iota_step HI.out hlt, HW.out.setCell (p := ⟨gs, i, none⟩) (Nat.le_of_eq HGS.out.symm) _⟩
    · obtain rfl : n = i := by omega
      go_wp2_with fail
      have HI2 : Hid (Ir wr gs (iota n)) := by
        have := HI.out
        simp only [Nat.sub_self, List.replicate_zero, List.append_nil] at this
        exact this
      have HZ : Hid (Rz wr g s) := H.out.later HW.out
      have HW2 := hide (Mv.of_below HW.out (fun k => k = g))
      clear HW HI
      go_loopg [7] (n - 1) (fun k v7 wr => ∃ (i : Nat) (l : List Int) (s' : Int), k = i ∧ v7 = .int .i64 (i : Int) ∧ i < n ∧ l.length = n ∧ Hid (shuf i l s' = shuf (n - 1) (iota n) s) ∧ Hid (Ir wr gs l) ∧ Hid (Rz wr g s') ∧ Hid (Mv w wr (fun k => k = g)))
      case atStart => exact ⟨n - 1, iota n, s, rfl, by simp; omega, by omega, iota_len n, rfl, HI2, HZ, HW2⟩
      case round =>
        clear HI2 HZ HW2
        obtain ⟨i, l, s', hk, rfl, hi, hl, HE, HI, HZ, HW⟩ := hrel
        by_cases hi1 : 1 ≤ i
        · have hi1' : (1 : Int) ≤ (i : Int) := by omega
          have hr := belA_b (n := (i : Int) + 1) s' (by omega)
          have hs := shuf_step l s' hi1
          have JB2 := hide (JB.out wr s' ((i : Int) + 1) HZ.out (by omega) (by omega))
          obtain ⟨j, hj⟩ : ∃ j : Nat, belA ((i : Int) + 1) s' = (j : Int) := ⟨(belA ((i : Int) + 1) s').toNat, by omega⟩
          rw [hj] at hr JB2 hs
          rw [Int.toNat_natCast] at hs
          have hjn : j < n := by omega
          have hji : (j : Int) < (n : Int) := by omega
          have HS := hide hs
          have hgg : gs ≠ g := by omega
          clear hs hj
          generalize belS ((i : Int) + 1) s' = s2 at *
          go_wp2_with fail
          refine JB2.out.mono ?_
          rintro e w2 ⟨rfl, hd, hm⟩
          have HD := hide hd
          have HM := hide hm
          have HI2 := hide (HI.out.frame hm hgg)
          have c0 : w2.cell? ⟨gs, i, none⟩ = some (.int .i64 (l.getD i 0)) := HI2.out.cellD i (by omega)
          have c1 : w2.cell? ⟨gs, j, none⟩ = some (.int .i64 (l.getD j 0)) := HI2.out.cellD j (by omega)
          have f0 : w2.frozen? ⟨gs, i, none⟩ = false := HI2.out.frozen i
          have f1 : w2.frozen? ⟨gs, j, none⟩ = false := HI2.out.frozen j
          have K := hide (swp_ir HI2.out i j)
          have K1 := hide (HI2.out.set i (l.getD j 0))
          clear hd hm
          generalize l.getD i 0 = x at *
          generalize l.getD j 0 = y at *
          go_upto_region 14 with fail
          obtain ⟨w3, hw3⟩ : ∃ W, W = w2.setCell ⟨gs, i, none⟩ (.int .i64 y) := ⟨_, rfl⟩
          rw [← hw3] at K K1 ⊢
          have d0 : w3.cell? ⟨gs, j, none⟩ = some (.int .i64 ((l.set i y).getD j 0)) := K1.out.cellD j (by simp; omega)
          have d1 : w3.frozen? ⟨gs, j, none⟩ = false := K1.out.frozen j
          generalize (l.set i y).getD j 0 = z at *
          have HM3 := hide (show Mv w2 w3 (fun k => k = gs) by rw [hw3]; exact (Mv.refl w2 (fun k => k = gs)).set rfl _ _)
          clear hw3 c0 c1 f0 f1
          go_wp2_with fail
          have HM4 := hide ((HM3.out).set (g := gs) rfl j (.int .i64 x))
          go_roundg (i - 1)
          case measure => omega
          case rel =>
            refine ⟨i - 1, swp l i j, s2, rfl, by simp; omega, by omega, by rw [swp_len]; exact hl, ?_, K, ?_, ?_⟩
            · show shuf _ _ _ = _
              rw [← HS.out]
              exact HE.out
            · exact HD.out.frame HM4.out (fun e => hgg e.symm)
            · exact (HW.out.trans HM.out (fun _ _ e => e)).trans HM4.out (fun k hk' e => by have := HGS.out; omega)
        · obtain rfl : i = 0 := by omega
          have HF := hide (show (l, s') = shuf (n - 1) (iota n) s from HE.out)
          go_wp2_with fail
          go_ret
          have e1 : ordL n s = l := by unfold ordL; rw [← HF.out]
          have e2 : ordS n s = s' := by unfold ordS; rw [← HF.out]
          rw [e1, e2]
          exact ⟨rfl, HI.out, HZ.out, HW.out⟩
end Go.Proofs.Ytihlhidpiehehaa
