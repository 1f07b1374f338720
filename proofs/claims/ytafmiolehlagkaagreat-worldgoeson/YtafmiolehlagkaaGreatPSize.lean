import Derived.Test.YtafmiolehlagkaaGreatPPut
import Derived.Test.YtafmiolehlagkaaGreatPRow
import Derived.Deep.QuietTactic
import Derived.BigQuiet
namespace Go.Proofs.YtafmiolehlagkaaGreat.Pak
open Go.RowKit
set_option maxRecDepth 100000

/-- A slice of int64 that reads as zs. -/
def Ns (w : World) (v : Value) (zs : List Int) : Prop :=
  ∃ ao c, v = .slice ao zs.length c ∧ zs.length ≤ c ∧ c ≤ maxLen ∧ ∀ j, j < zs.length → ∃ g o, ao = some ⟨g, o, none⟩ ∧ w.cell? ⟨g, o + j, none⟩ = some (.int .i64 (zs.getD j 0))
theorem Ns.row {w : World} {g o c : Nat} {zs : List Int} (h1 : zs.length ≤ c) (h2 : c ≤ maxLen) (h3 : ∀ j, j < zs.length → w.cell? ⟨g, o + j, none⟩ = some (.int .i64 (zs.getD j 0))) : Ns w (.slice (some ⟨g, o, none⟩) zs.length c) zs :=
  ⟨some ⟨g, o, none⟩, c, rfl, h1, h2, fun j hj => ⟨g, o, rfl, h3 j hj⟩⟩
theorem Ns.parts {w : World} {v : Value} {zs : List Int} (h : Ns w v zs) :
    (∃ ao c, v = .slice ao 0 c ∧ zs = []) ∨ ∃ g o c, v = .slice (some ⟨g, o, none⟩) zs.length c ∧ 0 < zs.length ∧ zs.length ≤ c ∧ c ≤ maxLen ∧ ∀ j, j < zs.length → w.cell? ⟨g, o + j, none⟩ = some (.int .i64 (zs.getD j 0)) := by
  obtain ⟨ao, c, rfl, h1, h2, h3⟩ := h
  by_cases h0 : 0 < zs.length
  · obtain ⟨g, o, rfl, _⟩ := h3 0 h0
    refine .inr ⟨g, o, c, rfl, h0, h1, h2, fun j hj => ?_⟩
    obtain ⟨g', o', e, hc⟩ := h3 j hj
    simp at e
    obtain ⟨rfl, rfl⟩ := e
    exact hc
  · obtain rfl : zs = [] := List.eq_nil_of_length_eq_zero (by omega)
    exact .inl ⟨ao, c, rfl, rfl⟩
theorem Ns.below {B : Nat} {w w' : World} {v : Value} {zs : List Int} (h : Ns w v zs) (hb : Below B w w') (hB : w.heap.size ≤ B) : Ns w' v zs := by
  obtain ⟨ao, c, rfl, h1, h2, h3⟩ := h
  refine ⟨ao, c, rfl, h1, h2, fun j hj => ?_⟩
  obtain ⟨g, o, e, hc⟩ := h3 j hj
  have hlt := World.block_lt_of_cell? w _ hc
  exact ⟨g, o, e, (hb.cell (p := ⟨g, o + j, none⟩) (by exact Nat.lt_of_lt_of_le hlt hB)).trans hc⟩
/-- The cells that a walk over a row reads. -/
abbrev Cells (w : World) (g o : Nat) (zs : List Int) : Prop := ∀ j, j < zs.length → w.cell? ⟨g, o + j, none⟩ = some (.int .i64 (zs.getD j 0))

set_option maxHeartbeats 1000000 in
set_option maxRecDepth 100000 in
theorem entry_any (g o c i form : Nat) (zs : List Int) (w : World) (hi : i < zs.length) (hl : zs.length ≤ 9223372036854775807) (hf : form ≤ 1) (hc : Cells w g o zs) :
    Calls Tryz.prog 118 #[.slice (some ⟨g, o, none⟩) zs.length c, .int .i64 i, .int .i64 form] w fun e w' => e = .returned (.int .i64 (Rw.entry zs i form)) ∧ ∃ n, w' = w.drewN n := by
  have h1 := hc i hi
  have e1 : (i : Int) < (zs.length : Int) := by omega
  by_cases hs : form = 1 ∧ 0 < i
  · obtain ⟨rfl, hpos⟩ := hs
    have E : Hid (Rw.entry zs i 1 = wrap64 (zs.getD i 0 - zs.getD (i - 1) 0)) := by unfold Rw.entry; rw [if_pos ⟨rfl, hpos⟩]; rfl
    have h2 := hc (i - 1) (by omega)
    generalize zs.getD i 0 = x at *
    generalize zs.getD (i - 1) 0 = y at *
    obtain ⟨k, rfl⟩ : ∃ k, i = k + 1 := ⟨i - 1, by omega⟩
    simp only [Nat.add_sub_cancel] at h2
    clear hc
    go_enter Tryz.func118, Tryz.ntmps118
    go_wp2
    go_quiet (fail)
    go_wp2
    go_ret
    rw [E.out]
    exact ⟨rfl, nq, rfl⟩
  · have E : Hid (Rw.entry zs i form = zs.getD i 0) := by unfold Rw.entry; rw [if_neg hs]; rfl
    generalize zs.getD i 0 = x at *
    clear hc
    rcases (show form = 0 ∨ (form = 1 ∧ i = 0) by omega) with rfl | ⟨rfl, rfl⟩
    · go_enter Tryz.func118, Tryz.ntmps118
      go_wp2
      go_ret
      rw [E.out]
      exact ⟨rfl, 0, rfl⟩
    · have h1' : w.cell? ⟨g, o, none⟩ = some (.int .i64 x) := h1
      go_enter Tryz.func118, Tryz.ntmps118
      go_wp2
      go_ret
      rw [E.out]
      exact ⟨rfl, 0, rfl⟩

set_option maxHeartbeats 1000000 in
set_option maxRecDepth 100000 in
theorem endsRun_any (g o c i : Nat) (zs : List Int) (w : World) (hi : i < zs.length) (hl : zs.length ≤ 9223372036854775807) (hc : Cells w g o zs) :
    Calls Tryz.prog 166 #[.slice (some ⟨g, o, none⟩) zs.length c, .int .i64 i] w fun e w' => e = .returned (.bool (Rw.ends zs i)) ∧ ∃ n, w' = w.drewN n := by
  have h1 := hc i hi
  have e1 : (i : Int) < (zs.length : Int) := by omega
  by_cases hs : i + 1 = zs.length
  · have E := hide (show Rw.ends zs i = true by unfold Rw.ends; simp [hs])
    have hz : ((i : Int) == (zs.length : Int) - 1) = true := by rw [beq_iff_eq]; omega
    clear hc hs
    go_enter Tryz.func166, Tryz.ntmps166
    go_wp2
    go_quiet (fail)
    go_wp2
    go_ret
    rw [E.out]
    exact ⟨rfl, nq, rfl⟩
  · have E := hide (show Rw.ends zs i = (zs.getD i 0 != zs.getD (i + 1) 0) by unfold Rw.ends; rw [show (i + 1 == zs.length) = false by simp [hs], Bool.false_or])
    have hz : ((i : Int) == (zs.length : Int) - 1) = false := by rw [beq_eq_false_iff_ne]; omega
    have h2 := hc (i + 1) (by omega)
    have e2 : (i : Int) + 1 < (zs.length : Int) := by omega
    generalize zs.getD i 0 = x at *
    generalize zs.getD (i + 1) 0 = y at *
    clear hc hs
    go_enter Tryz.func166, Tryz.ntmps166
    go_wp2
    go_quiet (fail)
    go_wp2
    go_ret
    rw [E.out]
    exact ⟨rfl, nq, rfl⟩

theorem drew_trans {a b c : World} (h : ∃ d, b = a.drewN d) (h' : ∃ d, c = b.drewN d) : ∃ d, c = a.drewN d := by
  obtain ⟨d, rfl⟩ := h
  obtain ⟨e, rfl⟩ := h'
  exact ⟨d + e, by rw [World.drewN_drewN]⟩
theorem cells_drew {w w' : World} {g o : Nat} {zs : List Int} (h : Cells w g o zs) (hd : ∃ d, w' = w.drewN d) : Cells w' g o zs := by
  obtain ⟨d, rfl⟩ := hd
  exact h
theorem runs_yes {zs : List Int} {k : Nat} (h : Rw.ends zs k = true) : Rw.runsTo zs (k + 1) = ⟨(Rw.runsTo zs k).bytes ++ (Lib.uvarint ((Rw.runsTo zs k).len + 1) ++ Rw.ivar (zs.getD k 0)), (Rw.runsTo zs k).count + 1, 0⟩ := by
  rw [Rw.runsTo, if_pos h]
theorem runs_no {zs : List Int} {k : Nat} (h : Rw.ends zs k = false) : Rw.runsTo zs (k + 1) = ⟨(Rw.runsTo zs k).bytes, (Rw.runsTo zs k).count, (Rw.runsTo zs k).len + 1⟩ := by
  rw [Rw.runsTo, if_neg (by simp [h])]

set_option maxHeartbeats 2000000 in
set_option maxRecDepth 100000 in
theorem runsSize_any (g o c : Nat) (zs : List Int) (w : World) (hz : Rw.AllFit zs) (hl : zs.length ≤ 1048576) (hc : Cells w g o zs) :
    Calls Tryz.prog 195 #[.slice (some ⟨g, o, none⟩) zs.length c] w fun e w' => e = .returned (.int .i64 (Rw.runsB zs).length) ∧ ∃ n, w' = w.drewN n := by
  have HZ := hide hz
  have HC := hide hc
  clear hz hc
  go_enter Tryz.func195, Tryz.ntmps195
  go_wp2
  go_loopw [3, 4, 5, 9] (fun s q n i wr => ∃ k : Nat, k ≤ zs.length ∧ i = .int .i64 k ∧ s = .int .i64 (Rw.runsTo zs k).bytes.length ∧ q = .int .u64 (Rw.runsTo zs k).count ∧ n = .int .u64 (Rw.runsTo zs k).len ∧ ∃ d, wr = w.drewN d) (fun _ _ _ i _ => zs.length - (intOf i).toNat)
  case atStart => exact ⟨0, Nat.zero_le _, rfl, rfl, rfl, rfl, 0, rfl⟩
  case round =>
    obtain ⟨k, hk, rfl, rfl, rfl, rfl, hw⟩ := hrel
    have HW := hide hw
    clear hw
    have b1 := Rw.runsTo_length HZ.out k (by omega)
    have b2 := (Rw.runsTo_count zs k).1
    have b3 := (Rw.runsTo_count zs k).2
    by_cases hlt : k < zs.length
    · have hce := endsRun_any g o c k zs wr hlt (by omega) (cells_drew HC.out HW.out)
      have e1 : (k : Int) < (zs.length : Int) := by omega
      have hfit := Rw.getD_fits HZ.out k
      cases he : Rw.ends zs k with
      | false =>
        have E := hide (runs_no he)
        rw [he] at hce
        clear he
        generalize Rw.runsTo zs k = R at *
        go_wp2_with (go_at_call 166; refine hce.mono ?_; rintro e w1 ⟨rfl, hd⟩)
        exact ⟨⟨k + 1, by omega, by go_num, by rw [E.out], by rw [E.out], by rw [E.out]; go_num, drew_trans HW.out hd⟩, by simp [intOf]; omega⟩
      | true =>
        have E := hide (runs_yes he)
        rw [he] at hce
        clear he
        generalize Rw.runsTo zs k = R at *
        have hn1 : ∀ w, Calls Tryz.prog 115 #[.int .u64 ((R.len : Int) + 1)] w fun e w' => e = .returned (.int .i64 (Lib.uvarint (R.len + 1)).length) ∧ w' = w := fun w => numberSize_any (R.len + 1) w (by omega)
        have hf := fun w => fold_any (zs.getD k 0) w hfit.1 hfit.2
        have hn2 := fun w => numberSize_any (Lib.zigzag (zs.getD k 0)) w (Lib.zigzag_lt hfit.1 hfit.2)
        have b4 := Lib.uvarint_length64 (x := R.len + 1) (by omega)
        have b5 := Lib.uvarint_length64 (Lib.zigzag_lt hfit.1 hfit.2)
        go_wp2_with (go_at_call 166; refine hce.mono ?_; rintro e w1 ⟨rfl, hd⟩; have HD := hide hd; clear hd)
        have hk1 := cells_drew HC.out (drew_trans HW.out HD.out) k hlt
        generalize zs.getD k 0 = x at *
        go_quiet ((first | exact Calls.quiet_of_same (hn1 _) | exact Calls.quiet_of_same (hf _) | exact Calls.quiet_of_same (hn2 _)))
        go_wp2
        refine ⟨⟨k + 1, by omega, by go_num, ?_, by rw [E.out]; go_num, by rw [E.out]; rfl, drew_trans HW.out (drew_trans HD.out ⟨nq, rfl⟩)⟩, by simp [intOf]; omega⟩
        rw [E.out]
        refine val_int ?_
        simp only [List.length_append, Rw.ivar]
        omega
    · have hq := fun w => numberSize_any (Rw.runsTo zs k).count w (by omega)
      have b4 := Lib.uvarint_length64 (x := (Rw.runsTo zs k).count) (by omega)
      obtain rfl : k = zs.length := by omega
      have E := hide (show (Rw.runsB zs).length = (Lib.uvarint (Rw.runsTo zs zs.length).count).length + (Rw.runsTo zs zs.length).bytes.length by simp [Rw.runsB])
      generalize Rw.runsTo zs zs.length = R at *
      go_wp2_with (go_at_call 115; refine (hq _).mono ?_; rintro e w' ⟨rfl, rfl⟩)
      go_ret
      rw [E.out]
      exact ⟨ret_int (by omega), HW.out⟩

set_option maxHeartbeats 2000000 in
set_option maxRecDepth 100000 in
theorem formSize_any (g o c form : Nat) (zs : List Int) (w : World) (hform : form ≤ 2) (hz : Rw.AllFit zs) (hl : zs.length ≤ 1048576) (hc : Cells w g o zs) :
    Calls Tryz.prog 164 #[.slice (some ⟨g, o, none⟩) zs.length c, .int .i64 form] w fun e w' => e = .returned (.int .i64 (Rw.formB zs form).length) ∧ ∃ n, w' = w.drewN n := by
  by_cases h2 : form = 2
  · subst h2
    have hr := runsSize_any g o c zs w hz hl hc
    have E := hide (show Rw.formB zs 2 = Rw.runsB zs from rfl)
    clear hz hc
    go_enter Tryz.func164, Tryz.ntmps164
    go_wp2_with (go_at_call 195; refine hr.mono ?_; rintro e w1 ⟨rfl, hd⟩)
    go_ret
    rw [E.out]
    exact ⟨rfl, hd⟩
  · have E := hide (show Rw.formB zs form = Rw.bodyTo zs form zs.length by unfold Rw.formB; rw [if_neg h2])
    have hf2 : ((form : Int) == 2) = false := by rw [beq_eq_false_iff_ne]; omega
    have HZ := hide hz
    have HC := hide hc
    clear hz hc
    go_enter Tryz.func164, Tryz.ntmps164
    go_wp2
    go_loopw [5, 13] (fun s i wr => ∃ k : Nat, k ≤ zs.length ∧ i = .int .i64 k ∧ s = .int .i64 (Rw.bodyTo zs form k).length ∧ ∃ d, wr = w.drewN d) (fun _ i _ => zs.length - (intOf i).toNat)
    case atStart => exact ⟨0, Nat.zero_le _, rfl, rfl, 0, rfl⟩
    case round =>
      obtain ⟨k, hk, rfl, rfl, hw⟩ := hrel
      have HW := hide hw
      clear hw
      have b1 := Rw.bodyTo_length HZ.out form k
      by_cases hlt : k < zs.length
      · have hce := entry_any g o c k form zs wr hlt (by omega) (by omega) (cells_drew HC.out HW.out)
        have hfit := Rw.entry_fits HZ.out k form
        have F := hide (show (Rw.bodyTo zs form (k + 1)).length = (Rw.bodyTo zs form k).length + (Lib.uvarint (Lib.zigzag (Rw.entry zs k form))).length by simp [Rw.bodyTo, Rw.ivar])
        generalize Rw.entry zs k form = x at *
        generalize (Rw.bodyTo zs form k).length = m at *
        have hf := fun w => fold_any x w hfit.1 hfit.2
        have hn2 := fun w => numberSize_any (Lib.zigzag x) w (Lib.zigzag_lt hfit.1 hfit.2)
        have b5 := Lib.uvarint_length64 (Lib.zigzag_lt hfit.1 hfit.2)
        go_wp2_with (first | (go_at_call 118; refine hce.mono ?_; rintro e w1 ⟨rfl, hd⟩) | (go_at_call 117; refine (hf _).mono ?_; rintro e w2 ⟨rfl, rfl⟩) | (go_at_call 115; refine (hn2 _).mono ?_; rintro e w3 ⟨rfl, rfl⟩))
        exact ⟨⟨k + 1, by omega, by go_num, val_int (by rw [F.out]; omega), drew_trans HW.out hd⟩, by simp [intOf]; omega⟩
      · go_wp2
        go_ret
        obtain rfl : k = zs.length := by omega
        rw [E.out]
        exact ⟨rfl, HW.out⟩

set_option maxHeartbeats 2000000 in
set_option maxRecDepth 100000 in
theorem shortest_any (g o c : Nat) (zs : List Int) (w : World) (hz : Rw.AllFit zs) (hl : zs.length ≤ 1048576) (hc : Cells w g o zs) :
    Calls Tryz.prog 112 #[.slice (some ⟨g, o, none⟩) zs.length c] w fun e w' => e = .returned (.tuple #[.int .i64 (Rw.best zs), .int .i64 (Rw.formB zs (Rw.best zs)).length]) ∧ ∃ n, w' = w.drewN n := by
  have f0 := fun wr (hd : ∃ d, wr = w.drewN d) => formSize_any g o c 0 zs wr (by omega) hz hl (cells_drew hc hd)
  have f1 := fun wr (hd : ∃ d, wr = w.drewN d) => formSize_any g o c 1 zs wr (by omega) hz hl (cells_drew hc hd)
  have f2 := fun wr (hd : ∃ d, wr = w.drewN d) => formSize_any g o c 2 zs wr (by omega) hz hl (cells_drew hc hd)
  have E : Hid (∀ s0 s1 s2, (Rw.formB zs 0).length = s0 → (Rw.formB zs 1).length = s1 → (Rw.formB zs 2).length = s2 → (s1 < s0 → s2 < s1 → Rw.best zs = 2) ∧ (s1 < s0 → ¬ s2 < s1 → Rw.best zs = 1) ∧ (¬ s1 < s0 → s2 < s0 → Rw.best zs = 2) ∧ (¬ s1 < s0 → ¬ s2 < s0 → Rw.best zs = 0)) := by
    intro s0 s1 s2 h0 h1 h2
    subst h0 h1 h2
    unfold Rw.best
    refine ⟨fun a b => ?_, fun a b => ?_, fun a b => ?_, fun a b => ?_⟩ <;> simp [a, b]
  have b0 := Rw.formB_length hz hl 0
  have b1 := Rw.formB_length hz hl 1
  have b2 := Rw.formB_length hz hl 2
  have E0 := E.out (Rw.formB zs 0).length (Rw.formB zs 1).length (Rw.formB zs 2).length rfl rfl rfl
  have H0 : ∃ s0 : Nat, Hid ((Rw.formB zs 0).length = s0) := ⟨_, rfl⟩
  have H1 : ∃ s0 : Nat, Hid ((Rw.formB zs 1).length = s0) := ⟨_, rfl⟩
  have H2 : ∃ s0 : Nat, Hid ((Rw.formB zs 2).length = s0) := ⟨_, rfl⟩
  obtain ⟨s0, H0⟩ := H0
  obtain ⟨s1, H1⟩ := H1
  obtain ⟨s2, H2⟩ := H2
  rw [H0.out] at f0 b0 E0
  rw [H1.out] at f1 b1 E0
  rw [H2.out] at f2 b2 E0
  have F0 := hide f0
  have F1 := hide f1
  have F2 := hide f2
  have EE := hide E0
  clear f0 f1 f2 hz hc E E0
  by_cases c1 : s1 < s0
  · by_cases c2 : s2 < s1
    all_goals
      have c1' : (s1 : Int) < s0 := by omega
      go_enter Tryz.func112, Tryz.ntmps112
      go_wp2
      refine wp_loop_rounds 4 ?_
      rw [rounds_succ]
      go_wp2_with fail
      refine (F0.out w ⟨0, rfl⟩).mono ?_
      rintro e w1 ⟨rfl, hd⟩
      have HD := hide hd
      clear hd
      go_wp2_with fail
      rw [rounds_succ]
      go_wp2_with fail
      refine (F1.out w1 HD.out).mono ?_
      rintro e w2 ⟨rfl, hd⟩
      have HD2 := hide (drew_trans HD.out hd)
      clear hd
      go_wp2_with fail
      rw [rounds_succ]
      go_wp2_with fail
      refine (F2.out w2 HD2.out).mono ?_
      rintro e w3 ⟨rfl, hd⟩
      have HD3 := hide (drew_trans HD2.out hd)
      clear hd
      go_wp2_with fail
      rw [rounds_succ]
      go_wp2_with fail
      go_ret2
    · rw [EE.out.1 c1 c2, H2.out]
      exact ⟨rfl, HD3.out⟩
    · rw [EE.out.2.1 c1 c2, H1.out]
      exact ⟨rfl, HD3.out⟩
  · by_cases c2 : s2 < s0
    all_goals
      have c1' : ¬ (s1 : Int) < s0 := by omega
      go_enter Tryz.func112, Tryz.ntmps112
      go_wp2
      refine wp_loop_rounds 4 ?_
      rw [rounds_succ]
      go_wp2_with fail
      refine (F0.out w ⟨0, rfl⟩).mono ?_
      rintro e w1 ⟨rfl, hd⟩
      have HD := hide hd
      clear hd
      go_wp2_with fail
      rw [rounds_succ]
      go_wp2_with fail
      refine (F1.out w1 HD.out).mono ?_
      rintro e w2 ⟨rfl, hd⟩
      have HD2 := hide (drew_trans HD.out hd)
      clear hd
      go_wp2_with fail
      rw [rounds_succ]
      go_wp2_with fail
      refine (F2.out w2 HD2.out).mono ?_
      rintro e w3 ⟨rfl, hd⟩
      have HD3 := hide (drew_trans HD2.out hd)
      clear hd
      go_wp2_with fail
      rw [rounds_succ]
      go_wp2_with fail
      go_ret2
    · rw [EE.out.2.2.1 c1 c2, H2.out]
      exact ⟨rfl, HD3.out⟩
    · rw [EE.out.2.2.2 c1 c2, H0.out]
      exact ⟨rfl, HD3.out⟩
end Go.Proofs.YtafmiolehlagkaaGreat.Pak
