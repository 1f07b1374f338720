/-
  The document's small questions.
-/
import Derived.Test.YtaaiogfbohndaaaDoorLex
namespace Go.Proofs.YtaaiogfbohndaaaDoor
open Go.RowKit
set_option maxRecDepth 1000000
theorem dletter_any (x : Nat) (hx : x < 256) (w : World) : Calls Tryd.prog 31 #[.int .u8 x] w fun e w' => e = .returned (.bool (isLe x)) ∧ w' = w := by
  go_enter Tryd.func31, Tryd.ntmps31
  go_wp2
  all_goals go_ret
  all_goals refine ⟨?_, rfl⟩
  all_goals simp_all [isLe]
  all_goals first | omega | (rw [Bool.eq_iff_iff]; simp; omega)
theorem ddigit_any (x : Nat) (hx : x < 256) (w : World) : Calls Tryd.prog 32 #[.int .u8 x] w fun e w' => e = .returned (.bool (isDi x)) ∧ w' = w := by
  go_enter Tryd.func32, Tryd.ntmps32
  go_wp2
  all_goals go_ret
  all_goals refine ⟨?_, rfl⟩
  all_goals simp_all [isDi]
  all_goals first | omega | (rw [Bool.eq_iff_iff]; simp; omega)
theorem pre_two {s : ByteArray} {p : Nat} (c d : UInt8) (_hc : c ≠ 0) (hd : d ≠ 0) : (decide (p + 2 ≤ s.size) && ((s.extract p (p + 2)).toList == [c, d])) = (bt s p == c.toNat && bt s (p + 1) == d.toNat) := by
  have hb : ∀ i, bt s i = (s.data.toList.getD i 0).toNat := fun i => rfl
  have q : ∀ x y : UInt8, (x.toNat == y.toNat) = (x == y) := fun x y => by
    rw [Bool.eq_iff_iff]
    simp [UInt8.toNat_inj]
  rw [Lib.extract_toList, hb, hb, q, q, show p + 2 - p = 2 by omega]
  have hl : s.data.toList.length = s.size := by rw [Array.length_toList]; rfl
  by_cases h : p + 2 ≤ s.size
  · rw [decide_eq_true h, Bool.true_and]
    have e1 : s.data.toList.drop p = s[p] :: s[p + 1] :: s.data.toList.drop (p + 1 + 1) := by rw [drop_cons s p (by omega), drop_cons s (p + 1) (by omega)]
    have g1 : s.data.toList.getD p 0 = s[p] := by
      have := congrArg (fun l => l[0]?) e1
      simp only [List.getElem?_drop, Nat.add_zero, List.getElem?_cons_zero] at this
      rw [List.getD_eq_getElem?_getD, this]; rfl
    have g2 : s.data.toList.getD (p + 1) 0 = s[p + 1] := by
      have := congrArg (fun l => l[1]?) e1
      simp only [List.getElem?_drop, List.getElem?_cons_succ, List.getElem?_cons_zero] at this
      rw [List.getD_eq_getElem?_getD, this]; rfl
    rw [e1, g1, g2]
    rw [Bool.eq_iff_iff]
    simp
  · rw [decide_eq_false h, Bool.false_and]
    have : s.data.toList.getD (p + 1) 0 = 0 := by rw [List.getD_eq_getElem?_getD, List.getElem?_eq_none (by omega)]; rfl
    rw [this, show ((0 : UInt8) == d) = false from beq_eq_false_iff_ne.2 (fun h => hd h.symm), Bool.and_false]
theorem starts_two (s : ByteArray) (p : Nat) (hp : p ≤ s.size) (hs : s.size ≤ 8000) (c d : UInt8) (hc : c ≠ 0) (hd : d ≠ 0) (w : World) :
    Calls Tryd.prog 46 #[.string s, .int .i64 p, .string ⟨#[c, d]⟩] w fun e w' => e = .returned (.bool (bt s p == c.toNat && bt s (p + 1) == d.toNat)) ∧ w' = w := by
  have h := pre_two (s := s) (p := p) c d hc hd
  go_enter Tryd.func46, Tryd.ntmps46
  have H := hide h
  clear h
  go_wp2
  · rename_i g
    have h := H.out
    rw [decide_eq_true (by omega), Bool.true_and] at h
    go_ret
    refine ⟨?_, rfl⟩
    rw [← h]
    rfl
  · rename_i g
    have h := H.out
    rw [decide_eq_false (by omega), Bool.false_and] at h
    go_ret
    refine ⟨?_, rfl⟩
    rw [← h]
    rfl
theorem pre_one {s : ByteArray} {p : Nat} (c : UInt8) (hc : c ≠ 0) : (decide (p + 1 ≤ s.size) && ((s.extract p (p + 1)).toList == [c])) = (bt s p == c.toNat) := by
  have hb : bt s p = (s.data.toList.getD p 0).toNat := rfl
  have q : ∀ x y : UInt8, (x.toNat == y.toNat) = (x == y) := fun x y => by
    rw [Bool.eq_iff_iff]
    simp [UInt8.toNat_inj]
  rw [Lib.extract_toList, hb, q, show p + 1 - p = 1 by omega]
  have hl : s.data.toList.length = s.size := by rw [Array.length_toList]; rfl
  by_cases h : p + 1 ≤ s.size
  · rw [decide_eq_true h, Bool.true_and]
    have e1 : s.data.toList.drop p = s[p] :: s.data.toList.drop (p + 1) := drop_cons s p (by omega)
    have g1 : s.data.toList.getD p 0 = s[p] := by
      have := congrArg (fun l => l[0]?) e1
      simp only [List.getElem?_drop, Nat.add_zero, List.getElem?_cons_zero] at this
      rw [List.getD_eq_getElem?_getD, this]; rfl
    rw [e1, g1]
    rw [Bool.eq_iff_iff]
    simp
  · rw [decide_eq_false h, Bool.false_and]
    have : s.data.toList.getD p 0 = 0 := by rw [List.getD_eq_getElem?_getD, List.getElem?_eq_none (by omega)]; rfl
    rw [this, show ((0 : UInt8) == c) = false from beq_eq_false_iff_ne.2 (fun h => hc h.symm)]
theorem starts_one (s : ByteArray) (p : Nat) (hp : p ≤ s.size) (hs : s.size ≤ 8000) (c : UInt8) (hc : c ≠ 0) (w : World) :
    Calls Tryd.prog 46 #[.string s, .int .i64 p, .string ⟨#[c]⟩] w fun e w' => e = .returned (.bool (bt s p == c.toNat)) ∧ w' = w := by
  have h := pre_one (s := s) (p := p) c hc
  go_enter Tryd.func46, Tryd.ntmps46
  have H := hide h
  clear h
  go_wp2
  · rename_i g
    have h := H.out
    rw [decide_eq_true (by omega), Bool.true_and] at h
    go_ret
    refine ⟨?_, rfl⟩
    rw [← h]
    rfl
  · rename_i g
    have h := H.out
    rw [decide_eq_false (by omega), Bool.false_and] at h
    go_ret
    refine ⟨?_, rfl⟩
    rw [← h]
    rfl
def dwF (s : ByteArray) (p : Nat) (u : Nat → Value) : Act := { tmps := #[.string s, .int .i64 (p : Nat), undef, undef, .int .i64 0, u 5, u 6, u 7, u 8, u 9, u 10, u 11, u 12, u 13, u 14, u 15, u 16, u 17, u 18, u 19, u 20, u 21, u 22, u 23, u 24, u 25, u 26, u 27, u 28, u 29, u 30, u 31, u 32, u 33, u 34], defers := [] }
def DwI (s : ByteArray) (p0 : Nat) (w : World) (m : Nat) (A : Act) (W : World) : Prop := W = w ∧ ∃ p : Nat, A = dwF s p (fun k => A.tmps.getD k undef) ∧ p ≤ s.size ∧ runE (fun j => isWo (bt s j)) (s.size - p0) p0 = runE (fun j => isWo (bt s j)) (s.size - p) p ∧ m = s.size - p
theorem dword_any (s : ByteArray) (p0 : Nat) (hp : p0 ≤ s.size) (hs : s.size ≤ 8000) (w : World) :
    Calls Tryd.prog 34 #[.string s, .int .i64 p0] w fun e w' => e = .returned (.int .i64 (runE (fun j => isWo (bt s j)) (s.size - p0) p0 : Nat)) ∧ w' = w := by
  go_enter Tryd.func34, Tryd.ntmps34
  go_wp2
  refine loop_ghost (DwI s p0 w) (s.size - p0) ⟨rfl, p0, rfl, hp, rfl, rfl⟩ ?_
  rintro m A W ⟨rfl, p, hA, hle, hr, hm⟩
  generalize (fun k => A.tmps.getD k undef) = u at hA
  subst hA
  simp only [dwF]
  have HR := hide hr
  have HM := hide hm
  clear hr hm
  have cle : ∀ (h : p < s.size) (w : World), Calls Tryd.prog 31 #[.int .u8 ((s[p]'h).toNat : Nat)] w fun e w' => e = .returned (.bool (isLe (bt s p))) ∧ w' = w := fun h w => by
    have := dletter_any (bt s p) (bt_lt s p) w
    rw [bt_at s p h] at this ⊢
    exact this
  have cdi : ∀ (h : p < s.size) (w : World), Calls Tryd.prog 32 #[.int .u8 ((s[p]'h).toNat : Nat)] w fun e w' => e = .returned (.bool (isDi (bt s p))) ∧ w' = w := fun h w => by
    have := ddigit_any (bt s p) (bt_lt s p) w
    rw [bt_at s p h] at this ⊢
    exact this
  go_wp2_with (first | (go_at_call 31; refine (cle (by assumption) _).mono ?_; rintro e w' ⟨rfl, rfl⟩) | (go_at_call 32; refine (cdi (by assumption) _).mono ?_; rintro e w' ⟨rfl, rfl⟩))
  · have hpl : p < s.size := by assumption
    have g : isLe (bt s p) = true := by assumption
    have hw : isWo (bt s p) = true := isLe_wo g
    have hr := HR.out
    have hm := HM.out
    exact ⟨s.size - (p + 1), by omega, rfl, p + 1, rfl, by omega, by rw [hr, runE_succ hpl hw], rfl⟩
  · have hpl : p < s.size := by assumption
    have g : isDi (bt s p) = true := by assumption
    have hw : isWo (bt s p) = true := isDi_wo g
    have hr := HR.out
    have hm := HM.out
    exact ⟨s.size - (p + 1), by omega, rfl, p + 1, rfl, by omega, by rw [hr, runE_succ hpl hw], rfl⟩
  · have hpl : p < s.size := by assumption
    have g1 : ¬ isLe (bt s p) = true := by assumption
    have g2 : ¬ isDi (bt s p) = true := by assumption
    have g3 : (((s[p]'hpl).toNat : Int) != 95) = true := by assumption
    rw [← bt_at s p hpl] at g3
    have hw : isWo (bt s p) = false := by
      simp only [bne_iff_ne, ne_eq] at g3
      have g4 : (bt s p == 95) = false := by rw [beq_eq_false_iff_ne]; omega
      simp only [isWo, g4, Bool.or_false]
      simp only [Bool.not_eq_true] at g1 g2
      rw [g1, g2]
      rfl
    have hr := HR.out
    rw [runE_stop (p := fun j => isWo (bt s j)) (n := s.size) (i := p) (Or.inr hw)] at hr
    rw [hr]
    go_ret
    exact ⟨rfl, rfl⟩
  · have hpl : p < s.size := by assumption
    have g3 : (((s[p]'hpl).toNat : Int) != 95) = false := by assumption
    rw [← bt_at s p hpl] at g3
    have hw : isWo (bt s p) = true := by
      have g4 : (bt s p == 95) = true := by
        simp only [bne_eq_false_iff_eq] at g3
        rw [beq_iff_eq]; omega
      simp [isWo, g4]
    have hr := HR.out
    have hm := HM.out
    exact ⟨s.size - (p + 1), by omega, rfl, p + 1, rfl, by omega, by rw [hr, runE_succ hpl hw], rfl⟩
  · have hpl : ¬ p < s.size := by assumption
    have hr := HR.out
    rw [runE_stop (p := fun j => isWo (bt s j)) (n := s.size) (i := p) (Or.inl (by omega))] at hr
    rw [hr]
    go_ret
    exact ⟨rfl, rfl⟩
/-- Where a remark ends that begins at a place; the place itself: none does; below 0: it has no end. -/
def remD (s : ByteArray) (p : Nat) : Int :=
  if bt s p = 47 ∧ bt s (p + 1) = 47 then (runE (fun j => bt s j != 10) (s.size - p) p : Nat)
  else if bt s p = 47 ∧ bt s (p + 1) = 42 then (match remE (bt s) (s.size - (p + 2)) (p + 2) with | none => -1 | some e => (e : Nat))
  else (p : Nat)
def drF (s : ByteArray) (p : Nat) (u : Nat → Value) : Act := { tmps := #[.string s, .int .i64 (p : Nat), undef, undef, .int .i64 0, u 5, u 6, u 7, u 8, u 9, u 10, u 11, u 12, u 13, u 14, u 15, u 16, u 17, u 18, u 19, u 20, u 21, u 22, u 23, u 24, u 25, u 26, u 27, u 28, u 29, u 30, u 31, u 32, u 33, u 34, u 35, u 36, u 37, u 38, u 39, u 40, u 41, u 42, u 43, u 44, u 45], defers := [] }
def DrI (s : ByteArray) (p0 : Nat) (w : World) (m : Nat) (A : Act) (W : World) : Prop := W = w ∧ ∃ p : Nat, A = drF s p (fun k => A.tmps.getD k undef) ∧ p ≤ s.size ∧ runE (fun j => bt s j != 10) (s.size - p0) p0 = runE (fun j => bt s j != 10) (s.size - p) p ∧ m = s.size - p
def drG (s : ByteArray) (p q : Nat) (u : Nat → Value) : Act := { tmps := #[.string s, .int .i64 (p : Nat), undef, undef, .int .i64 0, u 5, u 6, .int .i64 (q : Nat), u 8, u 9, u 10, u 11, u 12, u 13, u 14, u 15, u 16, u 17, u 18, u 19, u 20, u 21, u 22, u 23, u 24, u 25, u 26, u 27, u 28, u 29, u 30, u 31, u 32, u 33, u 34, u 35, u 36, u 37, u 38, u 39, u 40, u 41, u 42, u 43, u 44, u 45], defers := [] }
def DrK (s : ByteArray) (p : Nat) (w : World) (m : Nat) (A : Act) (W : World) : Prop := W = w ∧ ∃ q : Nat, A = drG s p q (fun k => A.tmps.getD k undef) ∧ q ≤ s.size ∧ remE (bt s) (s.size - (p + 2)) (p + 2) = remE (bt s) (s.size - q) q ∧ m = s.size - q
theorem dremark_any (s : ByteArray) (p : Nat) (hp : p ≤ s.size) (hs : s.size ≤ 8000) (w : World) :
    Calls Tryd.prog 30 #[.string s, .int .i64 p] w fun e w' => e = .returned (.int .i64 (remD s p)) ∧ w' = w := by
  have c1 := starts_two s p hp hs 47 47 (by decide) (by decide)
  have c2 := starts_two s p hp hs 47 42 (by decide) (by decide)
  go_enter Tryd.func30, Tryd.ntmps30
  go_upto_region 2 with (go_at_call 46; refine (c1 _).mono ?_; rintro e w' ⟨rfl, rfl⟩)
  go_wp2_with (go_at_call 46; refine (c2 _).mono ?_; rintro e w' ⟨rfl, rfl⟩)
  · have g : (bt s p == 47) = true ∧ (bt s (p + 1) == 47) = true := by assumption
    simp only [beq_iff_eq] at g
    have hrd : remD s p = (runE (fun j => bt s j != 10) (s.size - p) p : Nat) := by unfold remD; rw [if_pos g]
    have HRD := hide hrd
    clear hrd c1 c2
    refine loop_ghost (DrI s p w') (s.size - p) ⟨rfl, p, rfl, hp, rfl, rfl⟩ ?_
    rintro m A W ⟨rfl, q, hA, hle, hr, hm⟩
    generalize (fun k => A.tmps.getD k undef) = u at hA
    subst hA
    simp only [drF]
    have HR := hide hr
    have HM := hide hm
    clear hr hm
    go_wp2
    · have hpl : q < s.size := by assumption
      have g3 : (((s[q]'hpl).toNat : Int) != 10) = true := by assumption
      rw [← bt_at s q hpl] at g3
      have hw : (bt s q != 10) = true := by
        simp only [bne_iff_ne, ne_eq] at g3 ⊢
        omega
      have hr := HR.out
      have hm := HM.out
      exact ⟨s.size - (q + 1), by omega, rfl, q + 1, rfl, by omega, by rw [hr, runE_succ (p := fun j => bt s j != 10) hpl hw], rfl⟩
    · have hpl : q < s.size := by assumption
      have g3 : (((s[q]'hpl).toNat : Int) != 10) = false := by assumption
      rw [← bt_at s q hpl] at g3
      have hw : (bt s q != 10) = false := by
        simp only [bne_eq_false_iff_eq] at g3 ⊢
        omega
      have hr := HR.out
      rw [runE_stop (p := fun j => bt s j != 10) (n := s.size) (i := q) (Or.inr hw)] at hr
      rw [HRD.out, hr]
      go_ret
      exact ⟨rfl, rfl⟩
    · have hpl : ¬ q < s.size := by assumption
      have hr := HR.out
      rw [runE_stop (p := fun j => bt s j != 10) (n := s.size) (i := q) (Or.inl (by omega))] at hr
      rw [HRD.out, hr]
      go_ret
      exact ⟨rfl, rfl⟩
  · have g1 : (bt s p == 47) = false ∨ (bt s (p + 1) == 47) = false := by assumption
    have g2 : (!bt s p == 47) = true ∨ (!bt s (p + 1) == 42) = true := by assumption
    simp only [beq_eq_false_iff_ne, ne_eq, Bool.not_eq_true'] at g1 g2
    have hrd : remD s p = (p : Nat) := by unfold remD; rw [if_neg (by omega), if_neg (by omega)]
    rw [hrd]
    go_ret
    exact ⟨rfl, rfl⟩
  · have g1 : (bt s p == 47) = false ∨ (bt s (p + 1) == 47) = false := by assumption
    have g2 : (!bt s p == 47) = false ∧ (!bt s (p + 1) == 42) = false := by assumption
    simp only [beq_eq_false_iff_ne, ne_eq, Bool.not_eq_false', beq_iff_eq] at g1 g2
    have hn : p + 1 < s.size := by
      by_cases g : p + 1 < s.size
      · exact g
      · have := bt_z s (p + 1) (by omega); omega
    have hrd : remD s p = (match remE (bt s) (s.size - (p + 2)) (p + 2) with | none => -1 | some e => ((e : Nat) : Int)) := by unfold remD; rw [if_neg (by omega), if_pos (by omega)]
    have HRD := hide hrd
    clear hrd c1 c2
    refine loop_ghost (DrK s p w') (s.size - (p + 2)) ⟨rfl, p + 2, rfl, by omega, rfl, rfl⟩ ?_
    rintro m A W ⟨rfl, q, hA, hle, hr, hm⟩
    generalize (fun k => A.tmps.getD k undef) = u at hA
    subst hA
    simp only [drG]
    have HR := hide hr
    have HM := hide hm
    clear hr hm
    have c3 := starts_two s q hle hs 42 47 (by decide) (by decide)
    by_cases hql : q < s.size
    · by_cases hh : bt s q = 42 ∧ bt s (q + 1) = 47
      · have he := HR.out.trans (remE_hit hql hh)
        have HE := hide he
        clear he
        have hx : (bt s q == (42 : UInt8).toNat && bt s (q + 1) == (47 : UInt8).toNat) = true := by rw [hh.1, hh.2]; rfl
        rw [hx] at c3
        clear hh hx
        go_wp2_with (go_at_call 46; refine (c3 _).mono ?_; rintro e w' ⟨rfl, rfl⟩)
        rw [HRD.out, HE.out]
        go_ret
        exact ⟨rfl, rfl⟩
      · have hx : (bt s q == (42 : UInt8).toNat && bt s (q + 1) == (47 : UInt8).toNat) = false := by
          rw [Bool.eq_false_iff]
          intro h
          simp only [Bool.and_eq_true, beq_iff_eq] at h
          exact hh h
        rw [hx] at c3
        have HH := hide hh
        clear hh hx
        go_wp2_with (go_at_call 46; refine (c3 _).mono ?_; rintro e w' ⟨rfl, rfl⟩)
        have hm := HM.out
        exact ⟨s.size - (q + 1), by omega, rfl, q + 1, rfl, by omega, HR.out.trans (remE_miss hql HH.out), rfl⟩
    · have he := HR.out
      rw [show s.size - q = 0 by omega, remE] at he
      have HE := hide he
      clear he
      go_wp2
      rw [HRD.out, HE.out]
      go_ret
      exact ⟨rfl, rfl⟩
end Go.Proofs.YtaaiogfbohndaaaDoor
