/-
  Verify: slices.Repeat of one number.
-/
import Derived.Test.YtklamaibinjcmaaDoorMgF
import Derived.Test.YtklamaibinjcmaaDoorShelf
import Derived.Laws.CopyOwn
import Derived.Maps.RangeWalk
namespace Go.Proofs.YtklamaibinjcmaaDoor
open Go.RowKit
set_option maxRecDepth 100000
def m1v : Value := .int .i64 (-1)
def rpL (n k : Nat) : List Value := List.replicate k m1v ++ List.replicate (n - k) (.int .i64 0)
theorem rpL_len {n k : Nat} (h : k ≤ n) : (rpL n k).length = n := by simp [rpL]; omega
theorem rpL_splice {n k j : Nat} (h : k + j ≤ n) : splice (rpL n k) k (List.replicate j m1v) = rpL n (k + j) := by
  unfold splice rpL
  rw [List.take_left' (by simp), List.length_replicate, List.drop_append, List.drop_eq_nil_of_le (by simp), List.drop_replicate, List.length_replicate, List.nil_append, ← List.append_assoc, List.replicate_append_replicate]
  congr 2
  omega
theorem rpL_at {n k j : Nat} (h : j < k) : (rpL n k)[j]? = some m1v := by
  unfold rpL
  rw [List.getElem?_append_left (by simpa using h)]
  simp [h]
set_option maxHeartbeats 4000000 in
theorem repeat_any (W : World) (gx n : Nat) (hx : W.cell? ⟨gx, 0, none⟩ = some (.int .i64 (-1))) (h0 : 0 < n) (hn : n ≤ 1000000) : Calls Tryd.prog 39 #[.slice (some ⟨gx, 0, none⟩) 1 1, .int .i64 (n : Int)] W fun e w' => ∃ c, e = .returned (.slice (some ⟨W.heap.size, 0, none⟩) n c) ∧ w'.ownsRow W.heap.size 3 1 (.slice (some ⟨W.heap.size, 0, none⟩) n c) n (List.replicate n m1v) ∧ Below W.heap.size W w' := by
  obtain ⟨ii, hii, hzi0, hzi1, hzi2⟩ := info_parts infoI2
  have JM := hide (Tryd.bits_Mul 1 n (by omega) (by omega) W)
  have e1 : 1 * n / 18446744073709551616 = 0 := by omega
  have e2 : 1 * n % 18446744073709551616 = n := by omega
  rw [e1, e2] at JM
  have t0 : ¬ (n : Int) < 0 := by omega
  have t1 : IntKind.u64.wrap (n : Int) = (n : Int) := by rw [IntKind.wrap_u64]; omega
  have t2 : ¬ (n : Int) > 9223372036854775807 := by omega
  have HX := hide hx
  have HN := hide hn
  have H0 := hide h0
  clear hx e1 e2
  go_enter Tryd.func39, Tryd.ntmps39
  go_wp2_with fail
  refine JM.out.mono ?_
  rintro e w1 ⟨rfl, rfl⟩
  have t3 : IntKind.i64.wrap (n : Int) = (n : Int) := by rw [IntKind.wrap_i64]; omega
  go_wp2_with (at_make; refine wpList_make_full _ rfl _ _ 32 rfl w1.heap.size 3 ii (.int .i64 0) 1 Tryd.underlying32 hii hzi0 hzi1 .i64 .i64 _ _ n rfl rfl ?c1 ?c2 ?c3 ?c4 ?c5 ?_)
  case c1 => rfl
  case c2 => rfl
  case c3 => have := HN.out; rw [hzi2]; omega
  case c4 => have := HN.out; unfold maxLen; omega
  case c5 => omega
  intro w2 hown hgrow
  rw [toList_madeCells_one] at hown
  have B2 : Hid (Below w1.heap.size w1 w2) := (Below.refl _ w1).grown hgrow (Nat.le_refl _) (fun k e => by cases e)
  obtain ⟨gs, hgs⟩ : ∃ x, x = w1.heap.size := ⟨_, rfl⟩
  have HGS := hide hgs
  have k2 : w2.heap[gs]? = some (.cells (rpL n 0).toArray 3 (0, 0)) := by
    rcases hown.2 with ⟨h', _⟩ | ⟨g', c', cur, h', hb, hg, h1, h2, h3, h4⟩
    · simp at h'
    · simp only [Value.slice.injEq, Option.some.injEq, Addr.mk.injEq, and_true, true_and] at h'
      obtain ⟨rfl, rfl⟩ := h'
      rw [hgs, hg]
      congr 2
      apply Array.toList_inj.1
      have hcl : cur.toList.length = n := by rw [Array.length_toList]; omega
      rw [List.take_of_length_le (by omega)] at h4
      rw [h4]
      simp [rpL]
  have dx : w2.cell? ⟨gx, 0, none⟩ = some (.int .i64 (-1)) := (Mv.of_below B2.out (fun _ => False)).cell HX.out id
  rw [← hgs]
  have K2 := hide k2
  have B2' : Hid (Below gs w1 w2) := by unfold Hid; rw [hgs]; exact B2.out
  have HSZ : Hid ((Tryd.prog.info? 3).map (·.size) = some 1) := by unfold Hid; rw [hii]; simp [hzi1]
  have HS : Hid (∀ j v, [m1v][j]? = some v → w2.cell? ((⟨gx, 0, none⟩ : Addr).add j) = some v) := fun j v hj => by
    have hj0 : j = 0 := by
      have := (List.getElem?_eq_some_iff.1 hj).1
      simpa using this
    subst hj0
    simp at hj
    rw [show (⟨gx, 0, none⟩ : Addr).add 0 = ⟨gx, 0, none⟩ by simp [Addr.add], dx, ← hj]
    rfl
  have HQ1 : Hid ([m1v].length = Nat.min 1 n) := by have := H0.out; show 1 = min 1 n; omega
  have HQ3 : Hid (0 + [m1v].length ≤ (rpL n 0).length) := by unfold Hid; rw [rpL_len (by omega)]; have := H0.out; simp; omega
  have HQ4 : Hid (∀ v ∈ [m1v], v.oneCell' = true) := by intro v hv; rw [List.mem_singleton.1 hv]; rfl
  clear hown hgrow hgs k2 B2
  go_wp2_with (refine wpList_copy_splice rfl _ _ 32 32 rfl 3 Tryd.underlying32 HSZ.out (some ⟨gs, 0, none⟩) (some ⟨gx, 0, none⟩) n n 1 1 rfl rfl gs 0 (rpL n 0) 3 K2.out [m1v] HQ1.out (fun _ => ⟨rfl, ⟨gx, 0, none⟩, rfl, HS.out⟩) HQ3.out HQ4.out gs w1 B2'.out (Nat.le_refl _) ?_)
  intro w3 k3 b3
  have es : splice (rpL n 0) 0 [m1v] = rpL n 1 := by
    have := rpL_splice (n := n) (k := 0) (j := 1) (by have := H0.out; omega)
    simpa using this
  rw [es] at k3
  have B3 := hide b3
  clear dx K2 B2' b3 es
  go_wp2_with fail
  go_loopw [8] (fun v8 V => ∃ k : Nat, 1 ≤ k ∧ k ≤ n ∧ v8 = .int .i64 (k : Int) ∧ Hid (V.heap[gs]? = some (.cells (rpL n k).toArray 3 (0, 0))) ∧ Hid (Below gs w1 V)) (fun v8 _ => n - (intOf v8).toNat)
  case atStart => exact ⟨1, by omega, by have := H0.out; omega, rfl, k3, B3⟩
  case round =>
    obtain ⟨k, hk1, hk2, rfl, KR, BR⟩ := hrel
    clear k3 B3
    by_cases hlt : k < n
    · have u1 : (k : Int) < (n : Int) := by omega
      have u2 : (0 : Int) ≤ (k : Int) := by omega
      have u3 : (k : Int) ≤ (n : Int) := by omega
      go_upto_region 9 with fail
      obtain ⟨j, hj⟩ : ∃ j, j = min k (n - k) := ⟨_, rfl⟩
      have hnk : ¬ n = k := by omega
      have BD : Below gs w1 wr.drew := BR.out.drew
      have KD : wr.drew.heap[gs]? = some (.cells (rpL n k).toArray 3 (0, 0)) := KR.out
      have HS : Hid (∀ i v, (List.replicate j m1v)[i]? = some v → wr.drew.cell? ((⟨gs, 0, none⟩ : Addr).add i) = some v) := fun i v hi => by
        have hi2 : i < j := by
          have := (List.getElem?_eq_some_iff.1 hi).1
          simpa using this
        rw [show (⟨gs, 0, none⟩ : Addr).add i = ⟨gs, i, none⟩ by (unfold Addr.add; split <;> simp_all), cell_of_row _ _ _ _ 3 (0, 0) KD, List.getElem?_toArray, rpL_at (by omega), ← hi]
        simp [hi2]
      have HQ4 : Hid (∀ v ∈ List.replicate j m1v, v.oneCell' = true) := by intro v hv; rw [List.eq_of_mem_replicate hv]; rfl
      go_region_law (refine step_copy_splice rfl (.tmp 41) (.tmp 44) 32 32 rfl 3 Tryd.underlying32 HSZ.out (some ⟨gs, k, none⟩) (some ⟨gs, 0, none⟩) (n - k) (n - k) k n (by simp [Act.eval, Act.put]) (by simp [Act.eval, Act.put]) gs k (rpL n k) 3 KD (List.replicate j m1v) (by rw [List.length_replicate]; exact hj) (fun _ => ⟨rfl, ⟨gs, 0, none⟩, rfl, HS.out⟩) (by rw [List.length_replicate, rpL_len (by omega)]; omega) HQ4.out gs w1 BD (Nat.le_refl _) ?_; intro w5 k5 b5)
      rw [rpL_splice (by omega)] at k5
      have u4 : IntKind.i64.wrap ((k : Int) + (j : Int)) = ((k + j : Nat) : Int) := by rw [IntKind.wrap_i64]; omega
      have hj0 : 0 < j := by omega
      have hj1 : k + j ≤ n := by omega
      have u5 : ((min k (n - k) : Nat) : Int) = (j : Int) := by rw [hj]
      have BB := hide b5
      clear KD BD HS HQ4 b5 hnk
      rw [u5, u4]
      simp only [List.getElem_toArray, List.getElem_cons_succ, List.getElem_cons_zero]
      go_frame
      go_wp2_with fail
      go_roundw
      case rel => exact ⟨k + j, by omega, by omega, rfl, k5, BB⟩
      case measure => simp only [intOf]; omega
    · have u1 : ¬ (k : Int) < (n : Int) := by omega
      obtain rfl : k = n := by omega
      have HF : Hid (wr.ownsRow gs 3 1 (.slice (some ⟨gs, 0, none⟩) k k) k (List.replicate k m1v)) := by
        refine ⟨by simp, .inr ⟨gs, k, (rpL k k).toArray, rfl, Nat.le_refl _, KR.out, Nat.le_refl _, by unfold maxLen; omega, by rw [List.size_toArray, rpL_len (Nat.le_refl _)]; omega, ?_⟩⟩
        simp [rpL]
      go_wp2_with fail
      go_ret
      refine ⟨k, ?_⟩
      rw [← HGS.out]
      exact ⟨rfl, HF.out, BR.out⟩
end Go.Proofs.YtklamaibinjcmaaDoor
