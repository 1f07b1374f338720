/-
  The law's step, kind by kind.
-/
import Derived.Test.YtmceoelafmlpjaaStepH
namespace Go.Proofs.Ytmceoelafmlpjaa
open Go.RowKit
set_option maxHeartbeats 8000000 in
set_option maxRecDepth 100000 in
theorem step_crash {S : Nat → Prop} {B gp ga gb nk : Nat} {L O b : List UInt8} {off : Bool} {f : Int} (hh q : Int) (bao : Option Addr) (bc : Nat) (w : World) (h : Ps w S B gp ga gb nk (fun _ => False) w L O off f) (hb : ∀ W, Below B w W → Bs W (.slice bao b.length bc) b) (hnb : NilOr (.slice bao b.length bc)) (hvb : 0 < b.length → ∀ k, (Value.slice bao b.length bc).ownBlock = some k → k < B) (hbl : b.length ≤ 1048576) (_hq : q ≤ 9223372036854775807) (_hnk : nk ≤ 100000) :
    Calls Try.prog 8 #[.pointer (some ⟨gp, 0, none⟩), .agg #[.int .i64 6, .int .i64 hh, .int .i64 q, .slice bao b.length bc]] w fun e w' => e = .returned (.bool true) ∧ ∃ L' O' off' f', Ps w S B gp ga gb (nk + 4) (fun _ => False) w' L' O' off' f' := by
  have hal : Below w.heap.size w (w.alloc (.cells #[.int .i64 6, .int .i64 hh, .int .i64 q, .slice bao b.length bc] 29)) := (Below.refl _ w).alloc (Nat.le_refl _) _
  have hP1 : Ps w S B gp ga gb nk (fun k => k = w.heap.size) (w.alloc (.cells #[.int .i64 6, .int .i64 hh, .int .i64 q, .slice bao b.length bc] 29)) L O off f := Pw.fence h hal (fun k e => ⟨.inr (by omega), by simp; omega⟩)
  have hOb : Ob (w.alloc (.cells #[.int .i64 6, .int .i64 hh, .int .i64 q, .slice bao b.length bc] 29)) w.heap.size 6 hh q (.slice bao b.length bc) := heap_alloc_new w _
  have hcl := cl_of hP1 hOb
  have ck : (w.alloc (.cells #[.int .i64 6, .int .i64 hh, .int .i64 q, .slice bao b.length bc] 29)).cell? ⟨w.heap.size, 0, none⟩ = some (.int .i64 6) := by rw [cell_of_row _ w.heap.size _ _ 29 (0, 0) hOb]; rfl
  have HB := hide hb
  have HNB := hide hnb
  have HVB := hide hvb
  have HP1 := hide hP1
  have HOB := hide hOb
  have HCL := hide hcl
  clear h hb hnb hvb hP1 hOb hcl hal
  go_enter Try.func8, Try.ntmps8
  go_upto_block 0 with fail
  obtain ⟨w1, hw1⟩ : ∃ x, x = w.alloc (.cells #[.int .i64 6, .int .i64 hh, .int .i64 q, .slice bao b.length bc] 29) := ⟨_, rfl⟩
  rw [← hw1] at HP1 HOB HCL ⊢
  clear hw1 ck
  obtain ⟨go, hgo⟩ : ∃ x, x = w.heap.size := ⟨_, rfl⟩
  rw [← hgo] at HP1 HOB HCL ⊢
  have HGO := hide hgo
  clear hgo
  go_cut [5] (fun v5 wx => v5 = .bool true ∧ ∃ L' O' off' f', Hid (Ps w S B gp ga gb (nk + 4) (fun k => k = go) wx L' O' off' f') ∧ Hid (Ob wx go 6 hh q (.slice bao b.length bc)))
  case first =>
    obtain ⟨c0, c1, c2, c3⟩ := HCL.out
    have HLE := hide (lent_any _ b w1 (HB.out w1 HP1.out.below) (by omega))
    have hgo1 : go < w1.heap.size := lt_of_block HOB.out
    go_wp2_with fail
    refine HLE.out.mono ?_
    rintro e w2 ⟨rfl, hr2, hb2⟩
    have hP2 : Ps w S B gp ga gb nk (fun k => k = go ∨ k = w1.heap.size) w2 L O off f := Pw.fence HP1.out hb2 (fun k e => by
      rcases e with e | e
      · exact ⟨.inl e, by have := hb2.size; omega⟩
      · exact ⟨.inr (by omega), by have := hr2.lt; omega⟩)
    have hO2 := HOB.out.later hb2
    have hB2 : B ≤ w1.heap.size := by
      have h1 := HP1.out.size
      have h2 : B ≤ w.heap.size := by obtain ⟨_, _, _, _, _, _, _, _, _, _, _, _, h⟩ := HP1.out; exact h
      omega
    have hbs2 : Bs w2 (.slice (some ⟨w1.heap.size, 0, none⟩) b.length (b.length + 8)) b := by
      have := hr2.bs (n := b.length) (c := b.length + 8) (by simp) (by omega) (by unfold maxLen; omega)
      rwa [List.take_left] at this
    obtain ⟨gl, hgl⟩ : ∃ x, x = w1.heap.size := ⟨_, rfl⟩
    rw [← hgl] at hr2 hP2 hbs2 hB2 hgo1 ⊢
    have hne : go ≠ gl := by omega
    have HP2 := hide hP2
    have HO2 := hide hO2
    have HR2 := hide hr2
    have HS2 := hide hbs2
    clear c0 c1 c2 c3 HLE hr2 hb2 hP2 hO2 hbs2 hgl HP1 HOB HCL
    obtain ⟨c0, c1, c2, c3⟩ := cl_of HP2.out HO2.out
    obtain ⟨E, L', O', off', f', hc, hd⟩ := Both.op (both_crash q (Pw.later HP2.out (drew_on w2)) (HS2.out.on (drew_on w2)) (.inr ⟨_, _, _, rfl⟩) (by omega)) (HO2.out.later (drew_on w2)) (.inl rfl)
    have HC := hide hc
    have HD := hide hd
    clear hc hd
    go_upto_region 30 with fail
    go_cut [16] (fun v wx => v = .int .i64 E ∧ Hid (Pw w S B gp ga gb nk (fun k => k = go ∨ k = gl) wx (L' ++ O') L'.length (!off') f' L O off f) ∧ Hid (Ob wx go 6 hh q (.slice bao b.length bc)) ∧ Hid (Row wx gl (b ++ List.replicate 8 201)))
    case first =>
      go_region_held3 (fun W => W.cell? ⟨gp, 0, none⟩ = some (.pointer (some ⟨ga, 0, none⟩)) ∧ W.cell? ⟨go, 2, none⟩ = some (.int .i64 q)) (go_keep) (first | (go_at_call 14; refine HC.out.mono ?_; rintro e w3 ⟨rfl, HP3, d0, d1, d2, d3⟩))
      all_goals
        go_wp2_with fail
        go_meet
        exact ⟨rfl, HP3.out.1, HP3.out.2.2, (HP3.out.2.1 gl (.inr rfl)).trans (HR2.out.below (drew_on w2) HR2.out.lt)⟩
    obtain ⟨rfl, HP3, HO3, HR3⟩ := hcut
    obtain ⟨w3, rfl⟩ : ∃ x, x = wc := ⟨_, rfl⟩
    have HBK := hide (back_any gl _ b w3 (by omega) HR3.out (HB.out w3 HP3.out.below) (fun h g' e => by have := HVB.out h g' e; omega))
    obtain ⟨d0, d1, d2, d3⟩ := cl_of HP3.out HO3.out
    clear c0 c1 c2 c3 HC HP2 HO2 HR2 HS2
    go_wp2_with fail
    refine HBK.out.mono ?_
    rintro e w4 ⟨rfl, -, hg4⟩
    have HP4 := hide (Pw.write HP3.out hg4 (.inr rfl))
    have HO4 : Hid (Ob w4 go 6 hh q (.slice bao b.length bc)) := (hg4.block go (lt_of_block HO3.out) (fun e => hne (Option.some.inj e))).trans HO3.out
    obtain ⟨x0, x1, x2, x3⟩ := cl_of (Pw.later HP4.out (drew_on w4)) (HO4.out.later (drew_on w4))
    have HDd := hide (HD.out w4.drew _ ⟨_, rfl, HB.out w4.drew (Pw.later HP4.out (drew_on w4)).below, HNB.out⟩ (Pw.later HP4.out (drew_on w4)) (HO4.out.later (drew_on w4)))
    have e0 : (E == E) = true := by simp
    clear d0 d1 d2 d3 HBK HP3 HO3 HR3 HD hg4
    go_wp2_with fail
    go_region_held3 (fun W => W.cell? ⟨gp, 1, none⟩ = some (.pointer (some ⟨gb, 0, none⟩)) ∧ W.cell? ⟨go, 2, none⟩ = some (.int .i64 q) ∧ W.cell? ⟨go, 3, none⟩ = some (.slice bao b.length bc)) (go_keep) (first | (go_at_call 29; refine HDd.out.mono ?_; rintro e w5 ⟨rfl, HP5, y0, y1, y2, y3⟩))
    all_goals
      go_wp2_with fail
      go_meet
      exact ⟨rfl, L', O', off', f', Pw.more (Pw.fewer HP5.out.1 (fun k e => .inl e)) (by omega), HP5.out.2.2⟩
  obtain ⟨rfl, L', O', off', f', HP2, HO2⟩ := hcut
  obtain ⟨w2, rfl⟩ : ∃ x, x = wc := ⟨_, rfl⟩
  obtain ⟨c0, c1, -, -⟩ := cl_of HP2.out HO2.out
  have HC := hide (both_state HP2.out).1
  clear HP1 HOB HCL
  go_wp2_with fail
  refine HC.out.mono ?_
  rintro e w3 ⟨rfl, hb3⟩
  have HP3 := hide (Pw.later HP2.out hb3)
  obtain ⟨d0, d1⟩ := HP3.out.ptrs
  have HD := hide (both_state HP3.out).2
  clear c0 c1 HC HP2 HO2 hb3
  obtain ⟨m, hm⟩ : ∃ m, m = L'.length + O'.length := ⟨_, rfl⟩
  rw [← hm] at HD ⊢
  clear hm
  obtain ⟨p, hp⟩ : ∃ p, p = L'.length := ⟨_, rfl⟩
  rw [← hp] at HD ⊢
  clear hp
  go_wp2_with fail
  refine HD.out.mono ?_
  rintro e w4 ⟨rfl, hb4⟩
  have HP4 := hide (Pw.later HP3.out hb4)
  clear d0 d1 HD HP3 hb4
  cases off' <;>
  · go_wp2_with fail
    go_ret
    exact ⟨rfl, L', O', _, f', Pw.fewer HP4.out (fun k e => e.elim)⟩

end Go.Proofs.Ytmceoelafmlpjaa
