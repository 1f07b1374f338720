import Derived.Test.YtfbhoemfabgjpaaGreatMgAT
import Derived.Deep.QuietTactic
import Derived.BigQuiet
namespace Go.Proofs.YtfbhoemfabgjpaaGreat.Pak
open Go.RowKit
set_option maxRecDepth 100000

/-- A slice of int64 that reads as zs. -/
def Ns (w : World) (v : Value) (zs : List Int) : Prop :=
  ∃ ao c, v = .slice ao zs.length c ∧ zs.length ≤ c ∧ c ≤ maxLen ∧ ∀ j, j < zs.length → ∃ g o, ao = some ⟨g, o, none⟩ ∧ w.cell? ⟨g, o + j, none⟩ = some (.int .i64 (zs.getD j 0))
theorem Ns.row {w : World} {g o c : Nat} {zs : List Int} (h1 : zs.length ≤ c) (h2 : c ≤ maxLen) (h3 : ∀ j, j < zs.length → w.cell? ⟨g, o + j, none⟩ = some (.int .i64 (zs.getD j 0))) : Ns w (.slice (some ⟨g, o, none⟩) zs.length c) zs :=
  ⟨some ⟨g, o, none⟩, c, rfl, h1, h2, fun j hj => ⟨g, o, rfl, h3 j hj⟩⟩
theorem Ns.parts {w : World} {v : Value} {zs : List Int} (h : Ns w v zs) :
    (∃ ao c, v = .slice ao 0 c ∧ zs = []) ∨ ∃ g o c, v = .slice (some ⟨g, o, none⟩) zs.length c ∧ 0 < zs.length ∧ zs.length ≤ c ∧ c ≤ maxLen ∧ ∀ j, j < zs.length → w.cell? ⟨g, o + j, none⟩ = some (.int .i64 (zs.getD j 0)) := by
  obtain ⟨ao, c, rfl, h1, h2, h3⟩ := h
  by_cases h0 : 0 < zs.length
  · obtain ⟨g, o, rfl, _⟩ := h3 0 h0
    refine .inr ⟨g, o, c, rfl, h0, h1, h2, fun j hj => ?_⟩
    obtain ⟨g', o', e, hc⟩ := h3 j hj
    simp at e
    obtain ⟨rfl, rfl⟩ := e
    exact hc
  · obtain rfl : zs = [] := List.eq_nil_of_length_eq_zero (by omega)
    exact .inl ⟨ao, c, rfl, rfl⟩
theorem Ns.below {B : Nat} {w w' : World} {v : Value} {zs : List Int} (h : Ns w v zs) (hb : Below B w w') (hB : w.heap.size ≤ B) : Ns w' v zs := by
  obtain ⟨ao, c, rfl, h1, h2, h3⟩ := h
  refine ⟨ao, c, rfl, h1, h2, fun j hj => ?_⟩
  obtain ⟨g, o, e, hc⟩ := h3 j hj
  have hlt := World.block_lt_of_cell? w _ hc
  exact ⟨g, o, e, (hb.cell (p := ⟨g, o + j, none⟩) (by exact Nat.lt_of_lt_of_le hlt hB)).trans hc⟩
/-- The cells that a walk over a row reads. -/
abbrev Cells (w : World) (g o : Nat) (zs : List Int) : Prop := ∀ j, j < zs.length → w.cell? ⟨g, o + j, none⟩ = some (.int .i64 (zs.getD j 0))

set_option maxHeartbeats 1000000 in
set_option maxRecDepth 100000 in
theorem entry_any (g o c i form : Nat) (zs : List Int) (w : World) (hi : i < zs.length) (hl : zs.length ≤ 9223372036854775807) (hf : form ≤ 1) (hc : Cells w g o zs) :
    Calls Tryz.prog 53 #[.slice (some ⟨g, o, none⟩) zs.length c, .int .i64 i, .int .i64 form] w fun e w' => e = .returned (.int .i64 (Rw.entry zs i form)) ∧ ∃ n, w' = w.drewN n := by
  have h1 := hc i hi
  have e1 : (i : Int) < (zs.length : Int) := by omega
  by_cases hs : form = 1 ∧ 0 < i
  · obtain ⟨rfl, hpos⟩ := hs
    have E : Hid (Rw.entry zs i 1 = wrap64 (zs.getD i 0 - zs.getD (i - 1) 0)) := by unfold Rw.entry; rw [if_pos ⟨rfl, hpos⟩]; rfl
    have h2 := hc (i - 1) (by omega)
    generalize zs.getD i 0 = x at *
    generalize zs.getD (i - 1) 0 = y at *
    obtain ⟨k, rfl⟩ : ∃ k, i = k + 1 := ⟨i - 1, by omega⟩
    simp only [Nat.add_sub_cancel] at h2
    clear hc
    go_enter Tryz.func53, Tryz.ntmps53
    go_wp2
    go_quiet (fail)
    go_wp2
    go_ret
    rw [E.out]
    exact ⟨rfl, nq, rfl⟩
  · have E : Hid (Rw.entry zs i form = zs.getD i 0) := by unfold Rw.entry; rw [if_neg hs]; rfl
    generalize zs.getD i 0 = x at *
    clear hc
    rcases (show form = 0 ∨ (form = 1 ∧ i = 0) by omega) with rfl | ⟨rfl, rfl⟩
    · go_enter Tryz.func53, Tryz.ntmps53
      go_wp2
      go_ret
      rw [E.out]
      exact ⟨rfl, 0, rfl⟩
    · have h1' : w.cell? ⟨g, o, none⟩ = some (.int .i64 x) := h1
      go_enter Tryz.func53, Tryz.ntmps53
      go_wp2
      go_ret
      rw [E.out]
      exact ⟨rfl, 0, rfl⟩

set_option maxHeartbeats 1000000 in
set_option maxRecDepth 100000 in
theorem endsRun_any (g o c i : Nat) (zs : List Int) (w : World) (hi : i < zs.length) (hl : zs.length ≤ 9223372036854775807) (hc : Cells w g o zs) :
    Calls Tryz.prog 75 #[.slice (some ⟨g, o, none⟩) zs.length c, .int .i64 i] w fun e w' => e = .returned (.bool (Rw.ends zs i)) ∧ ∃ n, w' = w.drewN n := by
  have h1 := hc i hi
  have e1 : (i : Int) < (zs.length : Int) := by omega
  by_cases hs : i + 1 = zs.length
  · have E := hide (show Rw.ends zs i = true by unfold Rw.ends; simp [hs])
    have hz : ((i : Int) == (zs.length : Int) - 1) = true := by rw [beq_iff_eq]; omega
    clear hc hs
    go_enter Tryz.func75, Tryz.ntmps75
    go_wp2
    go_quiet (fail)
    go_wp2
    go_ret
    rw [E.out]
    exact ⟨rfl, nq, rfl⟩
  · have E := hide (show Rw.ends zs i = (zs.getD i 0 != zs.getD (i + 1) 0) by unfold Rw.ends; rw [show (i + 1 == zs.length) = false by simp [hs], Bool.false_or])
    have hz : ((i : Int) == (zs.length : Int) - 1) = false := by rw [beq_eq_false_iff_ne]; omega
    have h2 := hc (i + 1) (by omega)
    have e2 : (i : Int) + 1 < (zs.length : Int) := by omega
    generalize zs.getD i 0 = x at *
    generalize zs.getD (i + 1) 0 = y at *
    clear hc hs
    go_enter Tryz.func75, Tryz.ntmps75
    go_wp2
    go_quiet (fail)
    go_wp2
    go_ret
    rw [E.out]
    exact ⟨rfl, nq, rfl⟩

theorem drew_trans {a b c : World} (h : ∃ d, b = a.drewN d) (h' : ∃ d, c = b.drewN d) : ∃ d, c = a.drewN d := by
  obtain ⟨d, rfl⟩ := h
  obtain ⟨e, rfl⟩ := h'
  exact ⟨d + e, by rw [World.drewN_drewN]⟩
theorem cells_drew {w w' : World} {g o : Nat} {zs : List Int} (h : Cells w g o zs) (hd : ∃ d, w' = w.drewN d) : Cells w' g o zs := by
  obtain ⟨d, rfl⟩ := hd
  exact h
theorem runs_yes {zs : List Int} {k : Nat} (h : Rw.ends zs k = true) : Rw.runsTo zs (k + 1) = ⟨(Rw.runsTo zs k).bytes ++ (Lib.uvarint ((Rw.runsTo zs k).len + 1) ++ Rw.ivar (zs.getD k 0)), (Rw.runsTo zs k).count + 1, 0⟩ := by
  rw [Rw.runsTo, if_pos h]
theorem runs_no {zs : List Int} {k : Nat} (h : Rw.ends zs k = false) : Rw.runsTo zs (k + 1) = ⟨(Rw.runsTo zs k).bytes, (Rw.runsTo zs k).count, (Rw.runsTo zs k).len + 1⟩ := by
  rw [Rw.runsTo, if_neg (by simp [h])]

set_option maxHeartbeats 2000000 in
set_option maxRecDepth 100000 in
theorem runsSize_any (g o c : Nat) (zs : List Int) (w : World) (hz : Rw.AllFit zs) (hl : zs.length ≤ 1048576) (hc : Cells w g o zs) :
    Calls Tryz.prog 96 #[.slice (some ⟨g, o, none⟩) zs.length c] w fun e w' => e = .returned (.int .i64 (Rw.runsB zs).length) ∧ ∃ n, w' = w.drewN n := by
  have HZ := hide hz
  have HC := hide hc
  clear hz hc
  go_enter Tryz.func96, Tryz.ntmps96
  go_wp2
  go_loopw [3, 4, 5, 9] (fun s q n i wr => ∃ k : Nat, k ≤ zs.length ∧ i = .int .i64 k ∧ s = .int .i64 (Rw.runsTo zs k).bytes.length ∧ q = .int .u64 (Rw.runsTo zs k).count ∧ n = .int .u64 (Rw.runsTo zs k).len ∧ ∃ d, wr = w.drewN d) (fun _ _ _ i _ => zs.length - (intOf i).toNat)
  case atStart => exact ⟨0, Nat.zero_le _, rfl, rfl, rfl, rfl, 0, rfl⟩
  case round =>
    obtain ⟨k, hk, rfl, rfl, rfl, rfl, hw⟩ := hrel
    have HW := hide hw
    clear hw
    have b1 := Rw.runsTo_length HZ.out k (by omega)
    have b2 := (Rw.runsTo_count zs k).1
    have b3 := (Rw.runsTo_count zs k).2
    by_cases hlt : k < zs.length
    · have hce := endsRun_any g o c k zs wr hlt (by omega) (cells_drew HC.out HW.out)
      have e1 : (k : Int) < (zs.length : Int) := by omega
      have hfit := Rw.getD_fits HZ.out k
      cases he : Rw.ends zs k with
      | false =>
        have E := hide (runs_no he)
        rw [he] at hce
        clear he
        generalize Rw.runsTo zs k = R at *
        go_wp2_with (go_at_call 75; refine hce.mono ?_; rintro e w1 ⟨rfl, hd⟩)
        exact ⟨⟨k + 1, by omega, by go_num, by rw [E.out], by rw [E.out], by rw [E.out]; go_num, drew_trans HW.out hd⟩, by simp [intOf]; omega⟩
      | true =>
        have E := hide (runs_yes he)
        rw [he] at hce
        clear he
        generalize Rw.runsTo zs k = R at *
        have hn1 : ∀ w, Calls Tryz.prog 50 #[.int .u64 ((R.len : Int) + 1)] w fun e w' => e = .returned (.int .i64 (Lib.uvarint (R.len + 1)).length) ∧ w' = w := fun w => numberSize_any (R.len + 1) w (by omega)
        have hf := fun w => fold_any (zs.getD k 0) w hfit.1 hfit.2
        have hn2 := fun w => numberSize_any (Lib.zigzag (zs.getD k 0)) w (Lib.zigzag_lt hfit.1 hfit.2)
        have b4 := Lib.uvarint_length64 (x := R.len + 1) (by omega)
        have b5 := Lib.uvarint_length64 (Lib.zigzag_lt hfit.1 hfit.2)
        go_wp2_with (go_at_call 75; refine hce.mono ?_; rintro e w1 ⟨rfl, hd⟩; have HD := hide hd; clear hd)
        have hk1 := cells_drew HC.out (drew_trans HW.out HD.out) k hlt
        generalize zs.getD k 0 = x at *
        go_quiet ((first | exact Calls.quiet_of_same (hn1 _) | exact Calls.quiet_of_same (hf _) | exact Calls.quiet_of_same (hn2 _)))
        go_wp2
        refine ⟨⟨k + 1, by omega, by go_num, ?_, by rw [E.out]; go_num, by rw [E.out]; rfl, drew_trans HW.out (drew_trans HD.out ⟨nq, rfl⟩)⟩, by simp [intOf]; omega⟩
        rw [E.out]
        refine val_int ?_
        simp only [List.length_append, Rw.ivar]
        omega
    · have hq := fun w => numberSize_any (Rw.runsTo zs k).count w (by omega)
      have b4 := Lib.uvarint_length64 (x := (Rw.runsTo zs k).count) (by omega)
      obtain rfl : k = zs.length := by omega
      have E := hide (show (Rw.runsB zs).length = (Lib.uvarint (Rw.runsTo zs zs.length).count).length + (Rw.runsTo zs zs.length).bytes.length by simp [Rw.runsB])
      generalize Rw.runsTo zs zs.length = R at *
      go_wp2_with (go_at_call 50; refine (hq _).mono ?_; rintro e w' ⟨rfl, rfl⟩)
      go_ret
      rw [E.out]
      exact ⟨ret_int (by omega), HW.out⟩

set_option maxHeartbeats 2000000 in
set_option maxRecDepth 100000 in
theorem formSize_any (g o c form : Nat) (zs : List Int) (w : World) (hform : form ≤ 2) (hz : Rw.AllFit zs) (hl : zs.length ≤ 1048576) (hc : Cells w g o zs) :
    Calls Tryz.prog 73 #[.slice (some ⟨g, o, none⟩) zs.length c, .int .i64 form] w fun e w' => e = .returned (.int .i64 (Rw.formB zs form).length) ∧ ∃ n, w' = w.drewN n := by
  by_cases h2 : form = 2
  · subst h2
    have hr := runsSize_any g o c zs w hz hl hc
    have E := hide (show Rw.formB zs 2 = Rw.runsB zs from rfl)
    clear hz hc
    go_enter Tryz.func73, Tryz.ntmps73
    go_wp2_with (go_at_call 96; refine hr.mono ?_; rintro e w1 ⟨rfl, hd⟩)
    go_ret
    rw [E.out]
    exact ⟨rfl, hd⟩
  · have E := hide (show Rw.formB zs form = Rw.bodyTo zs form zs.length by unfold Rw.formB; rw [if_neg h2])
    have hf2 : ((form : Int) == 2) = false := by rw [beq_eq_false_iff_ne]; omega
    have HZ := hide hz
    have HC := hide hc
    clear hz hc
    go_enter Tryz.func73, Tryz.ntmps73
    go_wp2
    go_loopw [5, 13] (fun s i wr => ∃ k : Nat, k ≤ zs.length ∧ i = .int .i64 k ∧ s = .int .i64 (Rw.bodyTo zs form k).length ∧ ∃ d, wr = w.drewN d) (fun _ i _ => zs.length - (intOf i).toNat)
    case atStart => exact ⟨0, Nat.zero_le _, rfl, rfl, 0, rfl⟩
    case round =>
      obtain ⟨k, hk, rfl, rfl, hw⟩ := hrel
      have HW := hide hw
      clear hw
      have b1 := Rw.bodyTo_length HZ.out form k
      by_cases hlt : k < zs.length
      · have hce := entry_any g o c k form zs wr hlt (by omega) (by omega) (cells_drew HC.out HW.out)
        have hfit := Rw.entry_fits HZ.out k form
        have F := hide (show (Rw.bodyTo zs form (k + 1)).length = (Rw.bodyTo zs form k).length + (Lib.uvarint (Lib.zigzag (Rw.entry zs k form))).length by simp [Rw.bodyTo, Rw.ivar])
        generalize Rw.entry zs k form = x at *
        generalize (Rw.bodyTo zs form k).length = m at *
        have hf := fun w => fold_any x w hfit.1 hfit.2
        have hn2 := fun w => numberSize_any (Lib.zigzag x) w (Lib.zigzag_lt hfit.1 hfit.2)
        have b5 := Lib.uvarint_length64 (Lib.zigzag_lt hfit.1 hfit.2)
        go_wp2_with (first | (go_at_call 53; refine hce.mono ?_; rintro e w1 ⟨rfl, hd⟩) | (go_at_call 52; refine (hf _).mono ?_; rintro e w2 ⟨rfl, rfl⟩) | (go_at_call 50; refine (hn2 _).mono ?_; rintro e w3 ⟨rfl, rfl⟩))
        exact ⟨⟨k + 1, by omega, by go_num, val_int (by rw [F.out]; omega), drew_trans HW.out hd⟩, by simp [intOf]; omega⟩
      · go_wp2
        go_ret
        obtain rfl : k = zs.length := by omega
        rw [E.out]
        exact ⟨rfl, HW.out⟩

set_option maxHeartbeats 2000000 in
set_option maxRecDepth 100000 in
theorem shortest_any (g o c : Nat) (zs : List Int) (w : World) (hz : Rw.AllFit zs) (hl : zs.length ≤ 1048576) (hc : Cells w g o zs) :
    Calls Tryz.prog 47 #[.slice (some ⟨g, o, none⟩) zs.length c] w fun e w' => e = .returned (.tuple #[.int .i64 (Rw.best zs), .int .i64 (Rw.formB zs (Rw.best zs)).length]) ∧ ∃ n, w' = w.drewN n := by
  have f0 := fun wr (hd : ∃ d, wr = w.drewN d) => formSize_any g o c 0 zs wr (by omega) hz hl (cells_drew hc hd)
  have f1 := fun wr (hd : ∃ d, wr = w.drewN d) => formSize_any g o c 1 zs wr (by omega) hz hl (cells_drew hc hd)
  have f2 := fun wr (hd : ∃ d, wr = w.drewN d) => formSize_any g o c 2 zs wr (by omega) hz hl (cells_drew hc hd)
  have E : Hid (∀ s0 s1 s2, (Rw.formB zs 0).length = s0 → (Rw.formB zs 1).length = s1 → (Rw.formB zs 2).length = s2 → (s1 < s0 → s2 < s1 → Rw.best zs = 2) ∧ (s1 < s0 → ¬ s2 < s1 → Rw.best zs = 1) ∧ (¬ s1 < s0 → s2 < s0 → Rw.best zs = 2) ∧ (¬ s1 < s0 → ¬ s2 < s0 → Rw.best zs = 0)) := by
    intro s0 s1 s2 h0 h1 h2
    subst h0 h1 h2
    unfold Rw.best
    refine ⟨fun a b => ?_, fun a b => ?_, fun a b => ?_, fun a b => ?_⟩ <;> simp [a, b]
  have b0 := Rw.formB_length hz hl 0
  have b1 := Rw.formB_length hz hl 1
  have b2 := Rw.formB_length hz hl 2
  have E0 := E.out (Rw.formB zs 0).length (Rw.formB zs 1).length (Rw.formB zs 2).length rfl rfl rfl
  have H0 : ∃ s0 : Nat, Hid ((Rw.formB zs 0).length = s0) := ⟨_, rfl⟩
  have H1 : ∃ s0 : Nat, Hid ((Rw.formB zs 1).length = s0) := ⟨_, rfl⟩
  have H2 : ∃ s0 : Nat, Hid ((Rw.formB zs 2).length = s0) := ⟨_, rfl⟩
  obtain ⟨s0, H0⟩ := H0
  obtain ⟨s1, H1⟩ := H1
  obtain ⟨s2, H2⟩ := H2
  rw [H0.out] at f0 b0 E0
  rw [H1.out] at f1 b1 E0
  rw [H2.out] at f2 b2 E0
  have F0 := hide f0
  have F1 := hide f1
  have F2 := hide f2
  have EE := hide E0
  clear f0 f1 f2 hz hc E E0
  by_cases c1 : s1 < s0
  · by_cases c2 : s2 < s1
    all_goals
      have c1' : (s1 : Int) < s0 := by omega
      go_enter Tryz.func47, Tryz.ntmps47
      go_wp2
      refine wp_loop_rounds 4 ?_
      rw [rounds_succ]
      go_wp2_with fail
      refine (F0.out w ⟨0, rfl⟩).mono ?_
      rintro e w1 ⟨rfl, hd⟩
      have HD := hide hd
      clear hd
      go_wp2_with fail
      rw [rounds_succ]
      go_wp2_with fail
      refine (F1.out w1 HD.out).mono ?_
      rintro e w2 ⟨rfl, hd⟩
      have HD2 := hide (drew_trans HD.out hd)
      clear hd
      go_wp2_with fail
      rw [rounds_succ]
      go_wp2_with fail
      refine (F2.out w2 HD2.out).mono ?_
      rintro e w3 ⟨rfl, hd⟩
      have HD3 := hide (drew_trans HD2.out hd)
      clear hd
      go_wp2_with fail
      rw [rounds_succ]
      go_wp2_with fail
      go_ret2
    · rw [EE.out.1 c1 c2, H2.out]
      exact ⟨rfl, HD3.out⟩
    · rw [EE.out.2.1 c1 c2, H1.out]
      exact ⟨rfl, HD3.out⟩
  · by_cases c2 : s2 < s0
    all_goals
      have c1' : ¬ (s1 : Int) < s0 := by omega
      go_enter Tryz.func47, Tryz.ntmps47
      go_wp2
      refine wp_loop_rounds 4 ?_
      rw [rounds_succ]
      go_wp2_with fail
      refine (F0.out w ⟨0, rfl⟩).mono ?_
      rintro e w1 ⟨rfl, hd⟩
      have HD := hide hd
      clear hd
      go_wp2_with fail
      rw [rounds_succ]
      go_wp2_with fail
      refine (F1.out w1 HD.out).mono ?_
      rintro e w2 ⟨rfl, hd⟩
      have HD2 := hide (drew_trans HD.out hd)
      clear hd
      go_wp2_with fail
      rw [rounds_succ]
      go_wp2_with fail
      refine (F2.out w2 HD2.out).mono ?_
      rintro e w3 ⟨rfl, hd⟩
      have HD3 := hide (drew_trans HD2.out hd)
      clear hd
      go_wp2_with fail
      rw [rounds_succ]
      go_wp2_with fail
      go_ret2
    · rw [EE.out.2.2.1 c1 c2, H2.out]
      exact ⟨rfl, HD3.out⟩
    · rw [EE.out.2.2.2 c1 c2, H0.out]
      exact ⟨rfl, HD3.out⟩
end Go.Proofs.YtfbhoemfabgjpaaGreat.Pak

namespace Go.Proofs.YtfbhoemfabgjpaaGreat.Pak
open Go.RowKit
set_option maxRecDepth 100000

theorem cells_below {B : Nat} {w w' : World} {g o : Nat} {zs : List Int} (h : Cells w g o zs) (hb : Below B w w') (hg : g < B) : Cells w' g o zs :=
  fun j hj => (hb.cell (p := ⟨g, o + j, none⟩) hg).trans (h j hj)
theorem below_drew {B : Nat} {w w' : World} (h : ∃ d, w' = w.drewN d) : Below B w w' := by
  obtain ⟨d, rfl⟩ := h
  exact ⟨rfl, rfl, rfl, Nat.le_refl _, fun _ _ => rfl⟩
theorem owns_drew {B e n size : Nat} {v : Value} {xs : List Value} {w w' : World} (h : w.ownsRow B e size v n xs) (hd : ∃ d, w' = w.drewN d) : w'.ownsRow B e size v n xs := by
  obtain ⟨d, rfl⟩ := hd
  exact h

theorem runs_owned {w : World} {B n : Nat} {v : Value} {xs : List Value} {U R : List UInt8} {m x : Nat}
    (h : w.ownsRow B 5 1 v (n + U.length + R.length + (Lib.uvarint m).length + (Lib.uvarint x).length) (xs ++ Lib.byteCells (U ++ R) ++ Lib.byteCells (Lib.uvarint m) ++ Lib.byteCells (Lib.uvarint x))) :
    w.ownsRow B 5 1 v (n + U.length + (R ++ (Lib.uvarint m ++ Lib.uvarint x)).length) (xs ++ Lib.byteCells (U ++ (R ++ (Lib.uvarint m ++ Lib.uvarint x)))) := by
  have e1 : n + U.length + (R ++ (Lib.uvarint m ++ Lib.uvarint x)).length = n + U.length + R.length + (Lib.uvarint m).length + (Lib.uvarint x).length := by
    simp only [List.length_append]; omega
  have e2 : xs ++ Lib.byteCells (U ++ (R ++ (Lib.uvarint m ++ Lib.uvarint x))) = xs ++ Lib.byteCells (U ++ R) ++ Lib.byteCells (Lib.uvarint m) ++ Lib.byteCells (Lib.uvarint x) := by
    simp only [Lib.byteCells_append, List.append_assoc]
  rw [e1, e2]
  exact h
set_option maxHeartbeats 4000000 in
set_option maxRecDepth 100000 in
theorem appendRuns_any (B n g o c : Nat) (zs : List Int) (sv : Value) (xs : List Value) (w : World) (hz : Rw.AllFit zs) (hl : zs.length ≤ 1048576) (hc : Cells w g o zs) (hg : g < B)
    (hown : w.ownsRow B 5 1 sv n xs) (hBw : B ≤ w.heap.size) (hlim : n + 30000000 ≤ 140737488355328) :
    Calls Tryz.prog 51 #[sv, .slice (some ⟨g, o, none⟩) zs.length c] w fun e w' => ∃ v', e = .returned v' ∧ w'.ownsRow B 5 1 v' (n + (Rw.runsB zs).length) (xs ++ Lib.byteCells (Rw.runsB zs)) ∧ Below B w w' := by
  have HZ := hide hz
  have HC := hide hc
  have HO := hide hown
  clear hz hc hown
  go_enter Tryz.func51, Tryz.ntmps51
  go_wp2
  go_loopw [5, 11] (fun q i wr => ∃ k : Nat, k ≤ zs.length ∧ i = .int .i64 k ∧ q = .int .u64 (Rw.runsTo zs k).count ∧ ∃ d, wr = w.drewN d) (fun _ i _ => zs.length - (intOf i).toNat)
  case atStart => exact ⟨0, Nat.zero_le _, rfl, rfl, 0, rfl⟩
  case round =>
    obtain ⟨k, hk, rfl, rfl, hw⟩ := hrel
    have HW := hide hw
    clear hw
    have b2 := (Rw.runsTo_count zs k).1
    by_cases hlt : k < zs.length
    · have hce := endsRun_any g o c k zs wr hlt (by omega) (cells_drew HC.out HW.out)
      cases he : Rw.ends zs k with
      | false =>
        have E := hide (congrArg Rw.RunsAt.count (runs_no he))
        rw [he] at hce
        clear he
        go_wp2_with (go_at_call 75; refine hce.mono ?_; rintro e w1 ⟨rfl, hd⟩)
        exact ⟨⟨k + 1, by omega, by go_num, by rw [E.out], drew_trans HW.out hd⟩, by simp [intOf]; omega⟩
      | true =>
        have E := hide (congrArg Rw.RunsAt.count (runs_yes he))
        rw [he] at hce
        clear he
        go_wp2_with (go_at_call 75; refine hce.mono ?_; rintro e w1 ⟨rfl, hd⟩)
        exact ⟨⟨k + 1, by omega, by go_num, by rw [E.out]; go_num, drew_trans HW.out hd⟩, by simp [intOf]; omega⟩
    · obtain rfl : k = zs.length := by omega
      have ha := appendNumber_any B n (Rw.runsTo zs zs.length).count (by omega) sv xs wr (owns_drew HO.out HW.out) (by obtain ⟨d, rfl⟩ := HW.out; exact hBw) (by omega)
      have b4 := Lib.uvarint_length64 (x := (Rw.runsTo zs zs.length).count) (by omega)
      have E := hide (show Rw.runsB zs = Lib.uvarint (Rw.runsTo zs zs.length).count ++ (Rw.runsTo zs zs.length).bytes from rfl)
      generalize Lib.uvarint (Rw.runsTo zs zs.length).count = U at *
      go_wp2_with (go_at_call 48; refine ha.mono ?_; rintro e w2 ⟨v2, rfl, hown2, hb2⟩)
      have HB := hide ((below_drew HW.out).trans hb2)
      have HO2 := hide hown2
      clear hown2 ha HO HW hb2
      go_loopw [0, 7, 25] (fun v m i wr => ∃ k : Nat, k ≤ zs.length ∧ i = .int .i64 k ∧ m = .int .u64 (Rw.runsTo zs k).len ∧ wr.ownsRow B 5 1 v (n + U.length + (Rw.runsTo zs k).bytes.length) (xs ++ Lib.byteCells (U ++ (Rw.runsTo zs k).bytes)) ∧ Below B w wr) (fun _ _ i _ => zs.length - (intOf i).toNat)
      case atStart => exact ⟨0, Nat.zero_le _, rfl, rfl, by simpa [Rw.runsTo] using HO2.out, HB.out⟩
      case round =>
        obtain ⟨k, hk, rfl, rfl, ho, hb⟩ := hrel
        have HO := hide ho
        have HW := hide hb
        clear ho hb
        have b1 := Rw.runsTo_length HZ.out k (by omega)
        have b3 := (Rw.runsTo_count zs k).2
        by_cases hlt : k < zs.length
        · have hce := endsRun_any g o c k zs wr hlt (by omega) (cells_below HC.out HW.out hg)
          have hsz := HW.out.size
          cases he : Rw.ends zs k with
          | false =>
            have E2 := hide (runs_no he)
            rw [he] at hce
            clear he
            generalize Rw.runsTo zs k = R at *
            go_wp2_with (go_at_call 75; refine hce.mono ?_; rintro e w1 ⟨rfl, hd⟩)
            refine ⟨⟨k + 1, by omega, by go_num, by rw [E2.out]; go_num, ?_, HW.out.trans (below_drew hd)⟩, by simp [intOf]; omega⟩
            rw [E2.out]
            exact owns_drew HO.out hd
          | true =>
            have E2 := hide (runs_yes he)
            rw [he] at hce
            clear he
            have hfit := Rw.getD_fits HZ.out k
            generalize Rw.runsTo zs k = R at *
            have HK := hide (fun W (hb : Below B w W) => cells_below HC.out hb hg k hlt)
            generalize zs.getD k 0 = x at *
            have b4 := Lib.uvarint_length64 (x := R.len + 1) (by omega)
            have hf := fun w => fold_any x w hfit.1 hfit.2
            go_wp2_with (go_at_call 75; refine hce.mono ?_; rintro e w1 ⟨rfl, hd⟩; have HD := hide hd; clear hd)
            have hw1 : B ≤ w1.heap.size := Nat.le_trans (Nat.le_trans hBw hsz) (below_drew (B := 0) HD.out).size
            refine (appendNumber_any B _ (R.len + 1) (by omega) _ _ w1 (owns_drew HO.out HD.out) hw1 (by omega)).mono ?_
            rintro e w2 ⟨v2, rfl, hown2, hb2⟩
            have HO3 := hide hown2
            have HB3 := hide ((HW.out.trans (below_drew HD.out)).trans hb2)
            have hk1 := HK.out _ HB3.out
            have e1 : (k : Int) < (zs.length : Int) := by omega
            have hw2 := hb2.size
            clear hown2 hb2
            go_wp2_with (go_at_call 52; refine (hf _).mono ?_; rintro e w3 ⟨rfl, rfl⟩)
            refine (appendNumber_any B _ (Lib.zigzag x) (Lib.zigzag_lt hfit.1 hfit.2) _ _ _ HO3.out (by omega) (by omega)).mono ?_
            rintro e w4 ⟨v4, rfl, hown4, hb4⟩
            have HO4 := hide hown4
            have HB4 := hide (HB3.out.trans hb4)
            clear hown4 hb4
            go_wp2
            refine ⟨⟨k + 1, by omega, by go_num, by rw [E2.out]; rfl, ?_, HB4.out⟩, by simp [intOf]; omega⟩
            rw [E2.out]
            exact runs_owned HO4.out
        · obtain rfl : k = zs.length := by omega
          go_wp2
          go_ret
          refine ⟨_, rfl, ?_, HW.out⟩
          rw [E.out, List.length_append, ← Nat.add_assoc]
          exact HO.out
end Go.Proofs.YtfbhoemfabgjpaaGreat.Pak

namespace Go.Proofs.YtfbhoemfabgjpaaGreat.Pak
open Go.RowKit
set_option maxRecDepth 100000

theorem uvarint_zero : Lib.uvarint 0 = [0] := Lib.uvarint_small (by omega)

theorem row_head {w : World} {B : Nat} {v : Value} {l U : List UInt8} {f : Nat} (hf : f < 256)
    (h : w.ownsRow B 5 1 v (l.length + U.length + 1) (Lib.byteCells l ++ Lib.byteCells U ++ [Value.int .u8 (f : Int)])) :
    w.ownsRow B 5 1 v (l.length + U.length + 1) (Lib.byteCells (l ++ (U ++ [UInt8.ofNat f]))) := by
  have e : Lib.byteCells (l ++ (U ++ [UInt8.ofNat f])) = Lib.byteCells l ++ Lib.byteCells U ++ [Value.int .u8 (f : Int)] := by
    have hx : (UInt8.ofNat f).toNat = f := by simp [UInt8.toNat_ofNat']; omega
    simp [Lib.byteCells, hx]
  rw [e]
  exact h
theorem row_done {w : World} {B : Nat} {v : Value} {l U F : List UInt8} {f : UInt8}
    (h : w.ownsRow B 5 1 v (l.length + U.length + 1 + F.length) (Lib.byteCells (l ++ (U ++ [f])) ++ Lib.byteCells F)) :
    w.ownsRow B 5 1 v (l.length + (U ++ (f :: F)).length) (Lib.byteCells (l ++ (U ++ (f :: F)))) := by
  have e1 : l.length + (U ++ (f :: F)).length = l.length + U.length + 1 + F.length := by simp; omega
  have e2 : l ++ (U ++ (f :: F)) = (l ++ (U ++ [f])) ++ F := by simp
  rw [e1, e2, Lib.byteCells_append]
  exact h
theorem body_owned {w : World} {B m : Nat} {v : Value} {X F U : List UInt8}
    (h : w.ownsRow B 5 1 v (m + F.length + U.length) (Lib.byteCells X ++ Lib.byteCells F ++ Lib.byteCells U)) :
    w.ownsRow B 5 1 v (m + (F ++ U).length) (Lib.byteCells X ++ Lib.byteCells (F ++ U)) := by
  rw [List.length_append, ← Nat.add_assoc, Lib.byteCells_append, ← List.append_assoc]
  exact h
set_option maxHeartbeats 4000000 in
set_option maxRecDepth 100000 in
theorem putRow_some (v : Value) (l : List UInt8) (g o c : Nat) (zs : List Int) (w : World) (h : Bs w v l) (hpos : 0 < zs.length) (hz : Rw.AllFit zs) (hl : zs.length ≤ 1048576) (hc : Cells w g o zs) (hlim : l.length + 60000000 ≤ 140737488355328) :
    Calls Tryz.prog 25 #[v, .slice (some ⟨g, o, none⟩) zs.length c] w fun e w' => ∃ v', e = .returned v' ∧ w'.ownsRow w.heap.size 5 1 v' (l.length + (Rw.rowB zs).length) (Lib.byteCells (l ++ Rw.rowB zs)) ∧ Below w.heap.size w w' := by
  have hg : g < w.heap.size := World.block_lt_of_cell? w _ (hc 0 hpos)
  have hsf := shortest_any g o c zs w hz hl hc
  have hb2 := Rw.best_le zs
  have hfl := Rw.formB_length hz hl (Rw.best zs)
  have hul := Lib.uvarint_length64 (x := zs.length) (by omega)
  have hn := fun w => numberSize_any zs.length w (by omega)
  have E := hide (show Rw.rowB zs = Lib.uvarint zs.length ++ (UInt8.ofNat (Rw.best zs) :: Rw.formB zs (Rw.best zs)) by unfold Rw.rowB; rw [if_neg (by omega)])
  have HH := hide h
  have HZ := hide hz
  have HC := hide hc
  have h0 : ((zs.length : Int) == 0) = false := by rw [beq_eq_false_iff_ne]; omega
  clear h hz hc
  generalize hbf : Rw.best zs = f at *
  generalize hfb : Rw.formB zs f = F at *
  have HF := hide hfb
  clear hfb hbf
  generalize hU : Lib.uvarint zs.length = U at *
  have HU := hide hU
  clear hU
  go_enter Tryz.func25, Tryz.ntmps25
  go_wp2_with (first | (go_at_call 47; refine hsf.mono ?_; rintro e w1 ⟨rfl, hd⟩; have HD := hide hd; clear hd) | (go_at_call 50; refine (hn _).mono ?_; rintro e w2 ⟨rfl, rfl⟩))
  have hbs : Bs w2 v l := HH.out.below (below_drew (B := w.heap.size) HD.out) (Nat.le_refl _)
  have hsz : w2.heap.size = w.heap.size := by obtain ⟨d, rfl⟩ := HD.out; rfl
  have HS := hide hsz
  rw [show ((U.length : Int) + 1 + (F.length : Int)) = ((U.length + 1 + F.length : Nat) : Int) by omega]
  refine (withRoom_any v l (U.length + 1 + F.length) w2 hbs (by omega)).mono ?_
  rintro e w3 ⟨rfl, hrow, hb3⟩
  have hown := hrow.owns (B := w2.heap.size) (n := l.length) (Nat.le_refl _) (by simp) (by simp [maxLen]; omega)
  rw [List.take_left, List.length_append, List.length_replicate] at hown
  have ha := appendNumber_any w2.heap.size l.length zs.length (by omega) _ _ w3 hown hb3.size (by omega)
  rw [HU.out] at ha
  have HA := hide ha
  have HB3 := hide hb3
  clear ha hown hrow hb3 hsz hbs hsf
  go_wp2_with fail
  refine HA.out.mono ?_
  rintro e w4 ⟨v4, rfl, hown4, hb4⟩
  have HB4 := hide (HB3.out.trans hb4)
  have hs4 := (HB3.out.trans hb4).size
  clear hb4 HA HB3
  obtain ⟨i0, hi, hz0, hz1, hz2⟩ := info_parts info5
  go_wp2_with (at_builtin; refine wpList_append_own _ rfl _ _ 47 rfl w2.heap.size 5 i0 (.int .u8 0) 1 1 Tryz.underlying47 hi hz0 hz1 hz2 rfl (by decide) _ _ _ rfl (hown4.alloc _) ⟨w4.heap.size, 0, none⟩ 1 1 [Value.int .u8 (f : Int)] rfl rfl ?c1 ?c2 ?c3 ?c4 ?c5 ?_)
  case c1 => first | exact cell_one_new _ _ _ | (intro j u hj; match j, hj with | 0, hj => simp at hj; subst hj; simp [Addr.add])
  case c2 => intro u hu; simp at hu; subst hu; rfl
  case c3 => unfold maxLen; omega
  case c4 => omega
  case c5 => simp; omega
  intro v5 w5 hown5 hgrow _
  have hb5 : Below w2.heap.size w2 w5 := (HB4.out.alloc hs4 _).grown hgrow (by simp; omega) (fun k hk => (hown4.lt k hk).1)
  rw [← List.append_assoc] at hown5
  have hown6 := row_head (U := U) (f := f) (by omega) hown5
  have HO := hide hown6
  have HB := hide ((below_drew (B := w2.heap.size) HD.out).trans hb5)
  have hs5 := hb5.size
  clear hown4 hown5 hown6 hgrow hb5 HB4
  have hg2 : g < w2.heap.size := by rw [HS.out]; exact hg
  by_cases hf2 : f = 2
  · subst hf2
    have hr := appendRuns_any w2.heap.size _ g o c zs v5 _ w5 HZ.out hl (cells_below HC.out HB.out hg2) hg2 HO.out hs5 (by omega)
    have e : Rw.runsB zs = F := HF.out
    rw [e] at hr
    clear e
    have HR := hide hr
    clear hr
    go_wp2_with fail
    refine HR.out.mono ?_
    rintro e w6 ⟨v6, rfl, hown7, hb7⟩
    have HO7 := hide hown7
    have HB7 := hide (HB.out.trans hb7)
    clear hown7 hb7 HR
    go_wp2
    go_ret
    refine ⟨v6, rfl, ?_, HS.out ▸ HB7.out⟩
    rw [E.out, ← HS.out]
    exact row_done HO7.out
  · have hf2' : ((f : Int) == 2) = false := by rw [beq_eq_false_iff_ne]; omega
    have e : F = Rw.bodyTo zs f zs.length := by rw [← HF.out]; unfold Rw.formB; rw [if_neg hf2]
    have HE := hide e
    clear e
    go_wp2
    go_loopw [8, 44] (fun v i wr => ∃ k : Nat, k ≤ zs.length ∧ i = .int .i64 k ∧ wr.ownsRow w2.heap.size 5 1 v (l.length + U.length + 1 + (Rw.bodyTo zs f k).length) (Lib.byteCells (l ++ (U ++ [UInt8.ofNat f])) ++ Lib.byteCells (Rw.bodyTo zs f k)) ∧ Below w2.heap.size w wr ∧ w2.heap.size ≤ wr.heap.size) (fun _ i _ => zs.length - (intOf i).toNat)
    case atStart => exact ⟨0, Nat.zero_le _, rfl, by simpa [Rw.bodyTo, Lib.byteCells] using HO.out, HB.out, hs5⟩
    case round =>
      obtain ⟨k, hk, rfl, ho, hb, hsr⟩ := hrel
      have HO8 := hide ho
      have HB8 := hide hb
      clear ho hb
      have b1 := Rw.bodyTo_length HZ.out f k
      by_cases hlt : k < zs.length
      · have hce := entry_any g o c k f zs wr hlt (by omega) (by omega) (cells_below HC.out HB8.out hg2)
        have hfit := Rw.entry_fits HZ.out k f
        have hbd := hide (show Rw.bodyTo zs f (k + 1) = Rw.bodyTo zs f k ++ Lib.uvarint (Lib.zigzag (Rw.entry zs k f)) from rfl)
        generalize Rw.entry zs k f = x at *
        have hfo := fun w => fold_any x w hfit.1 hfit.2
        go_wp2_with (first | (go_at_call 53; refine hce.mono ?_; rintro e w7 ⟨rfl, hd⟩; have HD7 := hide hd; clear hd) | (go_at_call 52; refine (hfo _).mono ?_; rintro e w8 ⟨rfl, rfl⟩))
        refine (appendNumber_any w2.heap.size _ (Lib.zigzag x) (Lib.zigzag_lt hfit.1 hfit.2) _ _ _ (owns_drew HO8.out HD7.out) (Nat.le_trans hsr (below_drew (B := 0) HD7.out).size) (by omega)).mono ?_
        rintro e w9 ⟨v9, rfl, hown9, hb9⟩
        have HO9 := hide hown9
        have HB9 := hide ((HB8.out.trans (below_drew HD7.out)).trans hb9)
        have hs9 := Nat.le_trans (Nat.le_trans hsr (below_drew (B := 0) HD7.out).size) hb9.size
        clear hown9 hb9
        go_wp2
        refine ⟨⟨k + 1, by omega, by go_num, ?_, HB9.out, hs9⟩, by simp [intOf]; omega⟩
        rw [hbd.out]
        exact body_owned HO9.out
      · obtain rfl : k = zs.length := by omega
        go_wp2
        go_ret
        refine ⟨_, rfl, ?_, HS.out ▸ HB8.out⟩
        rw [E.out, ← HS.out, HE.out]
        exact row_done HO8.out

set_option maxHeartbeats 1000000 in
set_option maxRecDepth 100000 in
theorem putRow_none (v : Value) (l : List UInt8) (ao : Option Addr) (c : Nat) (w : World) (h : Bs w v l) (hlim : l.length + 60000000 ≤ 140737488355328) :
    Calls Tryz.prog 25 #[v, .slice ao 0 c] w fun e w' => ∃ v', e = .returned v' ∧ w'.ownsRow w.heap.size 5 1 v' (l.length + (Rw.rowB []).length) (Lib.byteCells (l ++ Rw.rowB [])) ∧ Below w.heap.size w w' := by
  have hp := put_any v l 0 w h (by omega) (by omega)
  rw [uvarint_zero] at hp
  have hp' : Calls Tryz.prog 46 #[v, .int .u64 0] w fun e w' => ∃ v', e = .returned v' ∧ w'.ownsRow w.heap.size 5 1 v' (l.length + 1) (Lib.byteCells (l ++ [0])) ∧ Below w.heap.size w w' := hp
  have H := hide hp'
  clear hp hp' h
  go_enter Tryz.func25, Tryz.ntmps25
  go_wp2_with (go_at_call 46; refine H.out.mono ?_; rintro e w1 ⟨v2, rfl, hown, hb1⟩)
  go_ret
  exact ⟨v2, rfl, hown, hb1⟩

/-- PutRow. -/
theorem putRow_any (v vl : Value) (l : List UInt8) (zs : List Int) (w : World) (h : Bs w v l) (hn : Ns w vl zs) (hz : Rw.AllFit zs) (hl : zs.length ≤ 1048576) (hlim : l.length + 60000000 ≤ 140737488355328) :
    Calls Tryz.prog 25 #[v, vl] w fun e w' => ∃ v', e = .returned v' ∧ w'.ownsRow w.heap.size 5 1 v' (l.length + (Rw.rowB zs).length) (Lib.byteCells (l ++ Rw.rowB zs)) ∧ Below w.heap.size w w' := by
  rcases hn.parts with ⟨ao, c, rfl, rfl⟩ | ⟨g, o, c, rfl, hpos, _, _, hc⟩
  · exact putRow_none v l ao c w h hlim
  · exact putRow_some v l g o c zs w h hpos hz hl hc hlim
end Go.Proofs.YtfbhoemfabgjpaaGreat.Pak
