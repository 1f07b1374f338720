/-
  The document's number.
-/
import Derived.Test.YtaaiogfbohndaaaDoorDoc
namespace Go.Proofs.YtaaiogfbohndaaaDoor
open Go.RowKit
set_option maxRecDepth 1000000
theorem numV_snoc (f : Nat → Nat) (k : Nat) : ∀ acc i, numV f acc (k + 1) i = numV f acc k i * 10 + (f (i + k) - 48) := by
  induction k with
  | zero => intro acc i; rw [numV_succ, numV_zero, numV_zero, Nat.add_zero]
  | succ k ih =>
    intro acc i
    rw [numV_succ, ih, numV_succ, show i + 1 + k = i + (k + 1) by omega]
def dnF (s : ByteArray) (p0 q n : Nat) (gr : Bool) (u : Nat → Value) : Act := { tmps := #[.string s, .int .i64 (q : Nat), undef, undef, .int .i64 0, .bool false, .int .u64 (n : Nat), .bool gr, .int .i64 (p0 : Nat), u 9, u 10, u 11, u 12, u 13, u 14, u 15, u 16, u 17, u 18, u 19, u 20, u 21, u 22, u 23, u 24, u 25, u 26, u 27, u 28, u 29, u 30, u 31, u 32, u 33, u 34, u 35, u 36, u 37, u 38, u 39, u 40, u 41, u 42, u 43, u 44, u 45, u 46, u 47, u 48, u 49, u 50, u 51, u 52, u 53, u 54, u 55, u 56, u 57, u 58, u 59, u 60, u 61, u 62], defers := [] }
def DnI (s : ByteArray) (p0 : Nat) (w : World) (m : Nat) (A : Act) (W : World) : Prop := W = w ∧ ∃ (q n : Nat) (gr : Bool), A = dnF s p0 q n gr (fun k => A.tmps.getD k undef) ∧ p0 ≤ q ∧ q ≤ s.size ∧ runE (fun j => isDi (bt s j)) (s.size - p0) p0 = runE (fun j => isDi (bt s j)) (s.size - q) q ∧
  gr = decide (9223372036854775808 ≤ numV (bt s) 0 (q - p0) p0) ∧ n ≤ 9223372036854775807 ∧ (gr = false → n = numV (bt s) 0 (q - p0) p0) ∧ m = s.size - q
set_option maxHeartbeats 4000000 in
theorem dnumber_any (s : ByteArray) (p0 : Nat) (hp : p0 < s.size) (_hd : isDi (bt s p0) = true) (hs : s.size ≤ 8000) (w : World) :
    Calls Tryd.prog 35 #[.string s, .int .i64 p0] w fun e w' => e = .returned (.tuple #[.int .i64 (runE (fun j => isDi (bt s j)) (s.size - p0) p0 : Nat), .bool (numOk (bt s) p0 (runE (fun j => isDi (bt s j)) (s.size - p0) p0))]) ∧ Below w.heap.size w w' := by
  go_enter Tryd.func35, Tryd.ntmps35
  go_wp2
  refine loop_ghost (DnI s p0 w) (s.size - p0) ⟨rfl, p0, 0, false, rfl, Nat.le_refl _, by omega, rfl, by rw [Nat.sub_self, numV_zero]; rfl, by omega, fun _ => by rw [Nat.sub_self, numV_zero], rfl⟩ ?_
  rintro m A W ⟨rfl, q, n, gr, hA, h1, h2, hr, hg, hn, hnv, hm⟩
  generalize (fun k => A.tmps.getD k undef) = u at hA
  subst hA
  simp only [dnF]
  have HR := hide hr
  have HM := hide hm
  have HG := hide hg
  have HV := hide hnv
  clear hr hm hg hnv
  by_cases hql : q < s.size ∧ isDi (bt s q) = true
  · obtain ⟨hql, hdq⟩ := hql
    have hdv := (isDi_iff _).1 hdq
    rw [bt_at s q hql] at hdv
    obtain ⟨dv, hdve⟩ : ∃ d : Nat, d = (s[q]'hql).toNat - 48 := ⟨_, rfl⟩
    have hd9 : dv ≤ 9 := by omega
    have hsn := numV_snoc (bt s) (q - p0) 0 p0
    rw [show p0 + (q - p0) = q by omega, show q - p0 + 1 = q + 1 - p0 by omega, bt_at s q hql, ← hdve] at hsn
    have HSN := hide hsn
    have hrn : runE (fun j => isDi (bt s j)) (s.size - p0) p0 = runE (fun j => isDi (bt s j)) (s.size - (q + 1)) (q + 1) := HR.out.trans (runE_succ (p := fun j => isDi (bt s j)) hql hdq)
    have HRN := hide hrn
    clear hsn hrn
    cases gr
    · go_wp2
      · have g : (!decide ((9223372036854775807 - (((s[q]'hql).toNat : Int) - 48)) / 10 < (n : Int))) = true := by assumption
        have g' : decide ((9223372036854775807 - (((s[q]'hql).toNat : Int) - 48)) / 10 < (n : Int)) = false := by simpa using g
        have g2 : (n : Int) ≤ (9223372036854775807 - (((s[q]'hql).toNat : Int) - 48)) / 10 := by
          have := of_decide_eq_false g'
          omega
        have hv : n = numV (bt s) 0 (q - p0) p0 := by first | exact HV.out rfl | exact HV.out trivial
        have hsn := HSN.out
        have hm := HM.out
        have hw1 : IntKind.u64.wrap (IntKind.u64.wrap (10 * (n : Int)) + (((s[q]'hql).toNat : Int) - 48)) = ((n * 10 + dv : Nat) : Int) := by
          simp [IntKind.wrap, IntKind.signed, IntKind.bits]
          omega
        rw [g', hw1]
        refine ⟨s.size - (q + 1), by omega, rfl, q + 1, n * 10 + dv, false, rfl, by omega, by omega, HRN.out, ?_, by omega, fun _ => by rw [hsn, ← hv], rfl⟩
        rw [hsn, ← hv]
        exact (decide_eq_false (by omega)).symm
      · have g : (!decide ((9223372036854775807 - (((s[q]'hql).toNat : Int) - 48)) / 10 < (n : Int))) = false := by assumption
        have g' : decide ((9223372036854775807 - (((s[q]'hql).toNat : Int) - 48)) / 10 < (n : Int)) = true := by simpa using g
        have g2 : (9223372036854775807 - (((s[q]'hql).toNat : Int) - 48)) / 10 < (n : Int) := of_decide_eq_true g'
        have hv : n = numV (bt s) 0 (q - p0) p0 := by first | exact HV.out rfl | exact HV.out trivial
        have hsn := HSN.out
        have hm := HM.out
        rw [g']
        refine ⟨s.size - (q + 1), by omega, rfl, q + 1, n, true, rfl, by omega, by omega, HRN.out, ?_, hn, fun h => (by cases h), rfl⟩
        rw [hsn, ← hv]
        exact (decide_eq_true (by omega)).symm
    · go_wp2
      have hg := of_decide_eq_true HG.out.symm
      have hsn := HSN.out
      have hm := HM.out
      refine ⟨s.size - (q + 1), by omega, rfl, q + 1, n, true, rfl, by omega, by omega, HRN.out, ?_, hn, fun h => (by cases h), rfl⟩
      rw [hsn]
      exact (decide_eq_true (by omega)).symm
  · have hst : runE (fun j => isDi (bt s j)) (s.size - p0) p0 = q := HR.out.trans (runE_stop (p := fun j => isDi (bt s j)) (by
      by_cases h : q < s.size
      · right
        cases hx : isDi (bt s q) with
        | false => rfl
        | true => exact absurd ⟨h, hx⟩ hql
      · left; omega))
    have HST := hide hst
    clear hst
    have hx : ∀ (h : q < s.size), ¬ (48 ≤ ((s[q]'h).toNat : Int) ∧ ((s[q]'h).toNat : Int) ≤ 57) := fun h hh => hql ⟨h, by rw [isDi_iff, bt_at s q h]; omega⟩
    go_wp2
    · exact absurd ⟨by assumption, by assumption⟩ (hx (by assumption))
    · exact absurd ⟨by assumption, by assumption⟩ (hx (by assumption))
    · exact absurd ⟨by assumption, by assumption⟩ (hx (by assumption))
    · clear hx hql
      cases gr
      · by_cases hq1 : q = p0 + 1
        · have y1 : ((q : Int) == (p0 : Int) + 1) = true := by rw [beq_iff_eq]; omega
          have y2 : IntKind.i64.wrap ((p0 : Int) + 1) = (p0 : Int) + 1 := by
            simp [IntKind.wrap, IntKind.signed, IntKind.bits]
            omega
          have hnk : numOk (bt s) p0 q = true := by
            have hg := of_decide_eq_false HG.out.symm
            unfold numOk
            rw [show (q == p0 + 1) = true by rw [beq_iff_eq]; exact hq1, Bool.true_or, Bool.true_and]
            exact decide_eq_true (by omega)
          have HNK := hide hnk
          clear hnk hq1
          go_quiet (fail)
          rename_i K hK
          refine hK _ _ ?_
          clear hK
          go_wp2
          rw [HST.out, HNK.out]
          go_ret2
          exact ⟨rfl, rfl, rfl, rfl, Nat.le_refl _, fun _ _ => rfl⟩
        · have y1 : ((q : Int) == (p0 : Int) + 1) = false := by rw [beq_eq_false_iff_ne]; omega
          have y2 : IntKind.i64.wrap ((p0 : Int) + 1) = (p0 : Int) + 1 := by
            simp [IntKind.wrap, IntKind.signed, IntKind.bits]
            omega
          have hnk : numOk (bt s) p0 q = (((s[p0]'hp).toNat : Int) != 48) := by
            have hg := of_decide_eq_false HG.out.symm
            unfold numOk
            rw [show (q == p0 + 1) = false by rw [beq_eq_false_iff_ne]; exact hq1, Bool.false_or, decide_eq_true (by omega), Bool.and_true, bt_at s p0 hp, Bool.eq_iff_iff]
            simp
            omega
          have HNK := hide hnk
          clear hnk hq1
          go_quiet (fail)
          rename_i K hK
          refine hK _ _ ?_
          clear hK
          go_wp2
          rw [HST.out, HNK.out]
          go_ret2
          exact ⟨rfl, rfl, rfl, rfl, Nat.le_refl _, fun _ _ => rfl⟩
      · have hnk : numOk (bt s) p0 q = false := by
          have hg := of_decide_eq_true HG.out.symm
          unfold numOk
          rw [decide_eq_false (by omega), Bool.and_false]
        have HNK := hide hnk
        clear hnk
        go_quiet (fail)
        rename_i K hK
        refine hK _ _ ?_
        clear hK
        go_wp2
        rw [HST.out, HNK.out]
        go_ret2
        exact ⟨rfl, rfl, rfl, rfl, Nat.le_refl _, fun _ _ => rfl⟩
    · clear hx hql
      cases gr
      · by_cases hq1 : q = p0 + 1
        · have y1 : ((q : Int) == (p0 : Int) + 1) = true := by rw [beq_iff_eq]; omega
          have y2 : IntKind.i64.wrap ((p0 : Int) + 1) = (p0 : Int) + 1 := by
            simp [IntKind.wrap, IntKind.signed, IntKind.bits]
            omega
          have hnk : numOk (bt s) p0 q = true := by
            have hg := of_decide_eq_false HG.out.symm
            unfold numOk
            rw [show (q == p0 + 1) = true by rw [beq_iff_eq]; exact hq1, Bool.true_or, Bool.true_and]
            exact decide_eq_true (by omega)
          have HNK := hide hnk
          clear hnk hq1
          go_quiet (fail)
          rename_i K hK _
          refine hK _ _ ?_
          clear hK
          go_wp2
          rw [HST.out, HNK.out]
          go_ret2
          exact ⟨rfl, rfl, rfl, rfl, Nat.le_refl _, fun _ _ => rfl⟩
        · have y1 : ((q : Int) == (p0 : Int) + 1) = false := by rw [beq_eq_false_iff_ne]; omega
          have y2 : IntKind.i64.wrap ((p0 : Int) + 1) = (p0 : Int) + 1 := by
            simp [IntKind.wrap, IntKind.signed, IntKind.bits]
            omega
          have hnk : numOk (bt s) p0 q = (((s[p0]'hp).toNat : Int) != 48) := by
            have hg := of_decide_eq_false HG.out.symm
            unfold numOk
            rw [show (q == p0 + 1) = false by rw [beq_eq_false_iff_ne]; exact hq1, Bool.false_or, decide_eq_true (by omega), Bool.and_true, bt_at s p0 hp, Bool.eq_iff_iff]
            simp
            omega
          have HNK := hide hnk
          clear hnk hq1
          go_quiet (fail)
          rename_i K hK _
          refine hK _ _ ?_
          clear hK
          go_wp2
          rw [HST.out, HNK.out]
          go_ret2
          exact ⟨rfl, rfl, rfl, rfl, Nat.le_refl _, fun _ _ => rfl⟩
      · have hnk : numOk (bt s) p0 q = false := by
          have hg := of_decide_eq_true HG.out.symm
          unfold numOk
          rw [decide_eq_false (by omega), Bool.and_false]
        have HNK := hide hnk
        clear hnk
        go_quiet (fail)
        rename_i K hK _
        refine hK _ _ ?_
        clear hK
        go_wp2
        rw [HST.out, HNK.out]
        go_ret2
        exact ⟨rfl, rfl, rfl, rfl, Nat.le_refl _, fun _ _ => rfl⟩
    · clear hx hql
      cases gr
      · by_cases hq1 : q = p0 + 1
        · have y1 : ((q : Int) == (p0 : Int) + 1) = true := by rw [beq_iff_eq]; omega
          have y2 : IntKind.i64.wrap ((p0 : Int) + 1) = (p0 : Int) + 1 := by
            simp [IntKind.wrap, IntKind.signed, IntKind.bits]
            omega
          have hnk : numOk (bt s) p0 q = true := by
            have hg := of_decide_eq_false HG.out.symm
            unfold numOk
            rw [show (q == p0 + 1) = true by rw [beq_iff_eq]; exact hq1, Bool.true_or, Bool.true_and]
            exact decide_eq_true (by omega)
          have HNK := hide hnk
          clear hnk hq1
          go_quiet (fail)
          rename_i K hK
          refine hK _ _ ?_
          clear hK
          go_wp2
          rw [HST.out, HNK.out]
          go_ret2
          exact ⟨rfl, rfl, rfl, rfl, Nat.le_refl _, fun _ _ => rfl⟩
        · have y1 : ((q : Int) == (p0 : Int) + 1) = false := by rw [beq_eq_false_iff_ne]; omega
          have y2 : IntKind.i64.wrap ((p0 : Int) + 1) = (p0 : Int) + 1 := by
            simp [IntKind.wrap, IntKind.signed, IntKind.bits]
            omega
          have hnk : numOk (bt s) p0 q = (((s[p0]'hp).toNat : Int) != 48) := by
            have hg := of_decide_eq_false HG.out.symm
            unfold numOk
            rw [show (q == p0 + 1) = false by rw [beq_eq_false_iff_ne]; exact hq1, Bool.false_or, decide_eq_true (by omega), Bool.and_true, bt_at s p0 hp, Bool.eq_iff_iff]
            simp
            omega
          have HNK := hide hnk
          clear hnk hq1
          go_quiet (fail)
          rename_i K hK
          refine hK _ _ ?_
          clear hK
          go_wp2
          rw [HST.out, HNK.out]
          go_ret2
          exact ⟨rfl, rfl, rfl, rfl, Nat.le_refl _, fun _ _ => rfl⟩
      · have hnk : numOk (bt s) p0 q = false := by
          have hg := of_decide_eq_true HG.out.symm
          unfold numOk
          rw [decide_eq_false (by omega), Bool.and_false]
        have HNK := hide hnk
        clear hnk
        go_quiet (fail)
        rename_i K hK
        refine hK _ _ ?_
        clear hK
        go_wp2
        rw [HST.out, HNK.out]
        go_ret2
        exact ⟨rfl, rfl, rfl, rfl, Nat.le_refl _, fun _ _ => rfl⟩
end Go.Proofs.YtaaiogfbohndaaaDoor
