/-
  The law's step, kind by kind.
-/
import Derived.Test.YtmceoelafmlpjaaStepH
namespace Go.Proofs.Ytmceoelafmlpjaa
open Go.RowKit
set_option maxHeartbeats 8000000 in
set_option maxRecDepth 100000 in
theorem step_cut {S : Nat → Prop} {B gp ga gb nk : Nat} {L O b : List UInt8} {off : Bool} {f : Int} (hh q : Int) (bao : Option Addr) (bc : Nat) (w : World) (h : Ps w S B gp ga gb nk (fun _ => False) w L O off f) (hb : ∀ W, Below B w W → Bs W (.slice bao b.length bc) b) (hnb : NilOr (.slice bao b.length bc)) (hvb : 0 < b.length → ∀ k, (Value.slice bao b.length bc).ownBlock = some k → k < B) (_hbl : b.length ≤ 1048576) (_hq : q ≤ 9223372036854775807) (_hnk : nk ≤ 100000) :
    Calls Try.prog 8 #[.pointer (some ⟨gp, 0, none⟩), .agg #[.int .i64 3, .int .i64 hh, .int .i64 q, .slice bao b.length bc]] w fun e w' => e = .returned (.bool true) ∧ ∃ L' O' off' f', Ps w S B gp ga gb (nk + 4) (fun _ => False) w' L' O' off' f' := by
  have hal : Below w.heap.size w (w.alloc (.cells #[.int .i64 3, .int .i64 hh, .int .i64 q, .slice bao b.length bc] 29)) := (Below.refl _ w).alloc (Nat.le_refl _) _
  have hP1 : Ps w S B gp ga gb nk (fun k => k = w.heap.size) (w.alloc (.cells #[.int .i64 3, .int .i64 hh, .int .i64 q, .slice bao b.length bc] 29)) L O off f := Pw.fence h hal (fun k e => ⟨.inr (by omega), by simp; omega⟩)
  have hOb : Ob (w.alloc (.cells #[.int .i64 3, .int .i64 hh, .int .i64 q, .slice bao b.length bc] 29)) w.heap.size 3 hh q (.slice bao b.length bc) := heap_alloc_new w _
  have hcl := cl_of hP1 hOb
  have ck : (w.alloc (.cells #[.int .i64 3, .int .i64 hh, .int .i64 q, .slice bao b.length bc] 29)).cell? ⟨w.heap.size, 0, none⟩ = some (.int .i64 3) := by rw [cell_of_row _ w.heap.size _ _ 29 (0, 0) hOb]; rfl
  have HB := hide hb
  have HNB := hide hnb
  have HVB := hide hvb
  have HP1 := hide hP1
  have HOB := hide hOb
  have HCL := hide hcl
  clear h hb hnb hvb hP1 hOb hcl hal
  go_enter Try.func8, Try.ntmps8
  go_upto_block 0 with fail
  obtain ⟨w1, hw1⟩ : ∃ x, x = w.alloc (.cells #[.int .i64 3, .int .i64 hh, .int .i64 q, .slice bao b.length bc] 29) := ⟨_, rfl⟩
  rw [← hw1] at HP1 HOB HCL ⊢
  clear hw1 ck
  obtain ⟨go, hgo⟩ : ∃ x, x = w.heap.size := ⟨_, rfl⟩
  rw [← hgo] at HP1 HOB HCL ⊢
  have HGO := hide hgo
  clear hgo
  go_cut [5] (fun v5 wx => v5 = .bool true ∧ ∃ L' O' off' f', Hid (Ps w S B gp ga gb (nk + 4) (fun k => k = go) wx L' O' off' f') ∧ Hid (Ob wx go 3 hh q (.slice bao b.length bc)))
  case first =>
    obtain ⟨E, L', O', off', f', hc, hd⟩ := Both.op (both_cut q (Pw.later HP1.out (drew_on w1))) (HOB.out.later (drew_on w1)) rfl
    obtain ⟨c0, c1, c2, c3⟩ := HCL.out
    have HC := hide hc
    have HD := hide hd
    clear hc hd
    go_upto_region 15 with fail
    go_cut [10] (fun v wx => v = .int .i64 E ∧ Hid (Pw w S B gp ga gb nk (fun k => k = go) wx (L' ++ O') L'.length (!off') f' L O off f) ∧ Hid (Ob wx go 3 hh q (.slice bao b.length bc)))
    case first =>
      go_region_held3 (fun W => W.cell? ⟨gp, 0, none⟩ = some (.pointer (some ⟨ga, 0, none⟩)) ∧ W.cell? ⟨go, 2, none⟩ = some (.int .i64 q)) (go_keep) (first | (go_at_call 24; refine HC.out.mono ?_; rintro e w2 ⟨rfl, HP2, d0, d1, d2, d3⟩))
      all_goals
        go_wp2_with fail
        go_meet
        exact ⟨rfl, HP2.out.1, HP2.out.2.2⟩
    obtain ⟨rfl, HP2, HO2⟩ := hcut
    obtain ⟨w2, rfl⟩ : ∃ x, x = wc := ⟨_, rfl⟩
    obtain ⟨d0, d1, d2, d3⟩ := cl_of (Pw.later HP2.out (drew_on w2)) (HO2.out.later (drew_on w2))
    have HDd := hide (HD.out w2.drew _ rfl (Pw.later HP2.out (drew_on w2)) (HO2.out.later (drew_on w2)))
    have e0 : (E == E) = true := by simp
    clear c0 c1 c2 c3 HC HD
    go_wp2_with fail
    go_region_held3 (fun W => W.cell? ⟨gp, 1, none⟩ = some (.pointer (some ⟨gb, 0, none⟩)) ∧ W.cell? ⟨go, 2, none⟩ = some (.int .i64 q)) (go_keep) (first | (go_at_call 25; refine HDd.out.mono ?_; rintro e w3 ⟨rfl, HP3, d0', d1', d2', d3'⟩))
    all_goals
      go_wp2_with fail
      go_meet
      exact ⟨rfl, L', O', off', f', Pw.more HP3.out.1 (by omega), HP3.out.2.2⟩
  obtain ⟨rfl, L', O', off', f', HP2, HO2⟩ := hcut
  obtain ⟨w2, rfl⟩ : ∃ x, x = wc := ⟨_, rfl⟩
  obtain ⟨c0, c1, -, -⟩ := cl_of HP2.out HO2.out
  have HC := hide (both_state HP2.out).1
  clear HP1 HOB HCL
  go_wp2_with fail
  refine HC.out.mono ?_
  rintro e w3 ⟨rfl, hb3⟩
  have HP3 := hide (Pw.later HP2.out hb3)
  obtain ⟨d0, d1⟩ := HP3.out.ptrs
  have HD := hide (both_state HP3.out).2
  clear c0 c1 HC HP2 HO2 hb3
  obtain ⟨m, hm⟩ : ∃ m, m = L'.length + O'.length := ⟨_, rfl⟩
  rw [← hm] at HD ⊢
  clear hm
  obtain ⟨p, hp⟩ : ∃ p, p = L'.length := ⟨_, rfl⟩
  rw [← hp] at HD ⊢
  clear hp
  go_wp2_with fail
  refine HD.out.mono ?_
  rintro e w4 ⟨rfl, hb4⟩
  have HP4 := hide (Pw.later HP3.out hb4)
  clear d0 d1 HD HP3 hb4
  cases off' <;>
  · go_wp2_with fail
    go_ret
    exact ⟨rfl, L', O', _, f', Pw.fewer HP4.out (fun k e => e.elim)⟩

set_option maxHeartbeats 8000000 in
set_option maxRecDepth 100000 in
theorem step_fuse {S : Nat → Prop} {B gp ga gb nk : Nat} {L O b : List UInt8} {off : Bool} {f : Int} (hh q : Int) (bao : Option Addr) (bc : Nat) (w : World) (h : Ps w S B gp ga gb nk (fun _ => False) w L O off f) (hb : ∀ W, Below B w W → Bs W (.slice bao b.length bc) b) (hnb : NilOr (.slice bao b.length bc)) (hvb : 0 < b.length → ∀ k, (Value.slice bao b.length bc).ownBlock = some k → k < B) (_hbl : b.length ≤ 1048576) (hq : q ≤ 9223372036854775807) (_hnk : nk ≤ 100000) :
    Calls Try.prog 8 #[.pointer (some ⟨gp, 0, none⟩), .agg #[.int .i64 5, .int .i64 hh, .int .i64 q, .slice bao b.length bc]] w fun e w' => e = .returned (.bool true) ∧ ∃ L' O' off' f', Ps w S B gp ga gb (nk + 4) (fun _ => False) w' L' O' off' f' := by
  have hal : Below w.heap.size w (w.alloc (.cells #[.int .i64 5, .int .i64 hh, .int .i64 q, .slice bao b.length bc] 29)) := (Below.refl _ w).alloc (Nat.le_refl _) _
  have hP1 : Ps w S B gp ga gb nk (fun k => k = w.heap.size) (w.alloc (.cells #[.int .i64 5, .int .i64 hh, .int .i64 q, .slice bao b.length bc] 29)) L O off f := Pw.fence h hal (fun k e => ⟨.inr (by omega), by simp; omega⟩)
  have hOb : Ob (w.alloc (.cells #[.int .i64 5, .int .i64 hh, .int .i64 q, .slice bao b.length bc] 29)) w.heap.size 5 hh q (.slice bao b.length bc) := heap_alloc_new w _
  have hcl := cl_of hP1 hOb
  have ck : (w.alloc (.cells #[.int .i64 5, .int .i64 hh, .int .i64 q, .slice bao b.length bc] 29)).cell? ⟨w.heap.size, 0, none⟩ = some (.int .i64 5) := by rw [cell_of_row _ w.heap.size _ _ 29 (0, 0) hOb]; rfl
  have HB := hide hb
  have HNB := hide hnb
  have HVB := hide hvb
  have HP1 := hide hP1
  have HOB := hide hOb
  have HCL := hide hcl
  clear h hb hnb hvb hP1 hOb hcl hal
  go_enter Try.func8, Try.ntmps8
  go_upto_block 0 with fail
  obtain ⟨w1, hw1⟩ : ∃ x, x = w.alloc (.cells #[.int .i64 5, .int .i64 hh, .int .i64 q, .slice bao b.length bc] 29) := ⟨_, rfl⟩
  rw [← hw1] at HP1 HOB HCL ⊢
  clear hw1 ck
  obtain ⟨go, hgo⟩ : ∃ x, x = w.heap.size := ⟨_, rfl⟩
  rw [← hgo] at HP1 HOB HCL ⊢
  have HGO := hide hgo
  clear hgo
  go_cut [5] (fun v5 wx => v5 = .bool true ∧ ∃ L' O' off' f', Hid (Ps w S B gp ga gb (nk + 4) (fun k => k = go) wx L' O' off' f') ∧ Hid (Ob wx go 5 hh q (.slice bao b.length bc)))
  case first =>
    obtain ⟨E, L', O', off', f', hc, hd⟩ := Both.op (both_fuse q (Pw.later HP1.out (drew_on w1)) hq) (HOB.out.later (drew_on w1)) rfl
    obtain ⟨c0, c1, c2, c3⟩ := HCL.out
    have HC := hide hc
    have HD := hide hd
    clear hc hd
    go_upto_region 26 with fail
    go_cut [14] (fun v wx => v = .int .i64 E ∧ Hid (Pw w S B gp ga gb nk (fun k => k = go) wx (L' ++ O') L'.length (!off') f' L O off f) ∧ Hid (Ob wx go 5 hh q (.slice bao b.length bc)))
    case first =>
      go_region_held3 (fun W => W.cell? ⟨gp, 0, none⟩ = some (.pointer (some ⟨ga, 0, none⟩)) ∧ W.cell? ⟨go, 2, none⟩ = some (.int .i64 q)) (go_keep) (first | (go_at_call 18; refine HC.out.mono ?_; rintro e w2 ⟨rfl, HP2, d0, d1, d2, d3⟩))
      all_goals
        go_wp2_with fail
        go_meet
        exact ⟨rfl, HP2.out.1, HP2.out.2.2⟩
    obtain ⟨rfl, HP2, HO2⟩ := hcut
    obtain ⟨w2, rfl⟩ : ∃ x, x = wc := ⟨_, rfl⟩
    obtain ⟨d0, d1, d2, d3⟩ := cl_of (Pw.later HP2.out (drew_on w2)) (HO2.out.later (drew_on w2))
    have HDd := hide (HD.out w2.drew _ rfl (Pw.later HP2.out (drew_on w2)) (HO2.out.later (drew_on w2)))
    have e0 : (E == E) = true := by simp
    clear c0 c1 c2 c3 HC HD
    go_wp2_with fail
    go_region_held3 (fun W => W.cell? ⟨gp, 1, none⟩ = some (.pointer (some ⟨gb, 0, none⟩)) ∧ W.cell? ⟨go, 2, none⟩ = some (.int .i64 q)) (go_keep) (first | (go_at_call 28; refine HDd.out.mono ?_; rintro e w3 ⟨rfl, HP3, d0', d1', d2', d3'⟩))
    all_goals
      go_wp2_with fail
      go_meet
      exact ⟨rfl, L', O', off', f', Pw.more HP3.out.1 (by omega), HP3.out.2.2⟩
  obtain ⟨rfl, L', O', off', f', HP2, HO2⟩ := hcut
  obtain ⟨w2, rfl⟩ : ∃ x, x = wc := ⟨_, rfl⟩
  obtain ⟨c0, c1, -, -⟩ := cl_of HP2.out HO2.out
  have HC := hide (both_state HP2.out).1
  clear HP1 HOB HCL
  go_wp2_with fail
  refine HC.out.mono ?_
  rintro e w3 ⟨rfl, hb3⟩
  have HP3 := hide (Pw.later HP2.out hb3)
  obtain ⟨d0, d1⟩ := HP3.out.ptrs
  have HD := hide (both_state HP3.out).2
  clear c0 c1 HC HP2 HO2 hb3
  obtain ⟨m, hm⟩ : ∃ m, m = L'.length + O'.length := ⟨_, rfl⟩
  rw [← hm] at HD ⊢
  clear hm
  obtain ⟨p, hp⟩ : ∃ p, p = L'.length := ⟨_, rfl⟩
  rw [← hp] at HD ⊢
  clear hp
  go_wp2_with fail
  refine HD.out.mono ?_
  rintro e w4 ⟨rfl, hb4⟩
  have HP4 := hide (Pw.later HP3.out hb4)
  clear d0 d1 HD HP3 hb4
  cases off' <;>
  · go_wp2_with fail
    go_ret
    exact ⟨rfl, L', O', _, f', Pw.fewer HP4.out (fun k e => e.elim)⟩

end Go.Proofs.Ytmceoelafmlpjaa
