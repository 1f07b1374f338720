/-
  The law's step, kind by kind.
-/
import Derived.Test.YtmceoelafmlpjaaStepH
namespace Go.Proofs.Ytmceoelafmlpjaa
open Go.RowKit
set_option maxHeartbeats 8000000 in
set_option maxRecDepth 100000 in
theorem step_bytes {S : Nat → Prop} {B gp ga gb nk : Nat} {L O b : List UInt8} {off : Bool} {f : Int} (hh q : Int) (bao : Option Addr) (bc : Nat) (w : World) (h : Ps w S B gp ga gb nk (fun _ => False) w L O off f) (hb : ∀ W, Below B w W → Bs W (.slice bao b.length bc) b) (hnb : NilOr (.slice bao b.length bc)) (hvb : 0 < b.length → ∀ k, (Value.slice bao b.length bc).ownBlock = some k → k < B) (_hbl : b.length ≤ 1048576) (_hq : q ≤ 9223372036854775807) (hnk : nk ≤ 100000) :
    Calls Try.prog 8 #[.pointer (some ⟨gp, 0, none⟩), .agg #[.int .i64 4, .int .i64 hh, .int .i64 q, .slice bao b.length bc]] w fun e w' => e = .returned (.bool true) ∧ ∃ L' O' off' f', Ps w S B gp ga gb (nk + 4) (fun _ => False) w' L' O' off' f' := by
  have hal : Below w.heap.size w (w.alloc (.cells #[.int .i64 4, .int .i64 hh, .int .i64 q, .slice bao b.length bc] 29)) := (Below.refl _ w).alloc (Nat.le_refl _) _
  have hP1 : Ps w S B gp ga gb nk (fun k => k = w.heap.size) (w.alloc (.cells #[.int .i64 4, .int .i64 hh, .int .i64 q, .slice bao b.length bc] 29)) L O off f := Pw.fence h hal (fun k e => ⟨.inr (by omega), by simp; omega⟩)
  have hOb : Ob (w.alloc (.cells #[.int .i64 4, .int .i64 hh, .int .i64 q, .slice bao b.length bc] 29)) w.heap.size 4 hh q (.slice bao b.length bc) := heap_alloc_new w _
  have hcl := cl_of hP1 hOb
  have ck : (w.alloc (.cells #[.int .i64 4, .int .i64 hh, .int .i64 q, .slice bao b.length bc] 29)).cell? ⟨w.heap.size, 0, none⟩ = some (.int .i64 4) := by rw [cell_of_row _ w.heap.size _ _ 29 (0, 0) hOb]; rfl
  have HB := hide hb
  have HNB := hide hnb
  have HVB := hide hvb
  have HP1 := hide hP1
  have HOB := hide hOb
  have HCL := hide hcl
  clear h hb hnb hvb hP1 hOb hcl hal
  go_enter Try.func8, Try.ntmps8
  go_upto_block 0 with fail
  obtain ⟨w1, hw1⟩ : ∃ x, x = w.alloc (.cells #[.int .i64 4, .int .i64 hh, .int .i64 q, .slice bao b.length bc] 29) := ⟨_, rfl⟩
  rw [← hw1] at HP1 HOB HCL ⊢
  clear hw1 ck
  obtain ⟨go, hgo⟩ : ∃ x, x = w.heap.size := ⟨_, rfl⟩
  rw [← hgo] at HP1 HOB HCL ⊢
  have HGO := hide hgo
  clear hgo
  go_cut [5] (fun v5 wx => v5 = .bool true ∧ ∃ L' O' off' f', Hid (Ps w S B gp ga gb (nk + 4) (fun k => k = go) wx L' O' off' f') ∧ Hid (Ob wx go 4 hh q (.slice bao b.length bc)))
  case first =>
    obtain ⟨c0, c1, c2, c3⟩ := HCL.out
    obtain ⟨T, hT⟩ : ∃ T, T = (if off then [] else L ++ O) := ⟨_, rfl⟩
    have hTl : T.length ≤ 16777216 := by
      have := HP1.out.len.1
      rw [hT]
      split
      · simp
      · rw [List.length_append]
        exact this
    have HT := hide hT
    have hc := (both_bytes HP1.out).1
    rw [← hT] at hc
    have HC := hide hc
    have hgo1 : go < w1.heap.size := lt_of_block HOB.out
    clear hT hc
    go_wp2_with fail
    refine HC.out.mono ?_
    rintro e w2 ⟨v1, rfl, ho2, hb2⟩
    have hv1 : ∀ k, v1.ownBlock = some k → w1.heap.size ≤ k ∧ k < w2.heap.size := fun k e => ho2.lt k e
    have hs2 := hb2.size
    have HP2 : Hid (Ps w S B gp ga gb nk (fun k => k = go ∨ v1.ownBlock = some k) w2 L O off f) := Pw.fence HP1.out hb2 (fun k e => by
      rcases e with e | e
      · exact ⟨.inl e, by omega⟩
      · exact ⟨.inr (hv1 k e).1, (hv1 k e).2⟩)
    have HO2 := hide (HOB.out.later hb2)
    have hc := (both_bytes HP2.out).1
    rw [← HT.out] at hc
    have HC2 := hide hc
    obtain ⟨d0, d1, -, -⟩ := cl_of HP2.out HO2.out
    have HV1 := hide hv1
    have HA2 := hide ho2
    obtain ⟨ao1, cc1, rfl⟩ := own_len ho2
    clear c0 c1 c2 c3 HC hc ho2 hb2 hv1 HP1 HOB HCL
    go_wp2_with fail
    refine HC2.out.mono ?_
    rintro e w3 ⟨v2, rfl, ho3, hb3⟩
    have hv2 : ∀ k, v2.ownBlock = some k → w2.heap.size ≤ k ∧ k < w3.heap.size := fun k e => ho3.lt k e
    have hs3 := hb3.size
    have HP3 : Hid (Ps w S B gp ga gb nk (fun k => (k = go ∨ (Value.slice ao1 T.length cc1).ownBlock = some k) ∨ v2.ownBlock = some k) w3 L O off f) := Pw.fence HP2.out hb3 (fun k e => by
      rcases e with (e | e) | e
      · exact ⟨.inl (.inl e), by omega⟩
      · exact ⟨.inl (.inr e), by have := (HV1.out k e).2; omega⟩
      · exact ⟨.inr (hv2 k e).1, (hv2 k e).2⟩)
    have HO3 := hide (HO2.out.later hb3)
    have hA3 := HA2.out.kept (grown_later hb3) (by cases (Value.slice ao1 T.length cc1).ownBlock <;> simp)
    have HA3 := hide hA3
    have hc := (both_bytes HP3.out).2
    rw [← HT.out] at hc
    have HD := hide hc
    obtain ⟨x0, x1, -, -⟩ := cl_of HP3.out HO3.out
    have HV2 := hide hv2
    have HC3 := hide ho3
    obtain ⟨ao2, cc2, rfl⟩ := own_len ho3
    clear d0 d1 HC2 hc ho3 hb3 hv2 hA3 HA2 HP2 HO2
    go_wp2_with fail
    refine HD.out.mono ?_
    rintro e w4 ⟨v3, rfl, hbs3, hb4⟩
    have hs4 := hb4.size
    have cv3 := conv_bs hbs3
    have HA4 := hide (HA3.out.kept (grown_later hb4) (by cases (Value.slice ao1 T.length cc1).ownBlock <;> simp))
    have HC4 := hide (HC3.out.kept (grown_later hb4) (by cases (Value.slice ao2 T.length cc2).ownBlock <;> simp))
    have cv1 := conv_bs (own_bs HA4.out)
    have cv2 := conv_bs (own_bs HC4.out)
    have HP4 := hide (Pw.later HP3.out hb4)
    have HO4 := hide (HO3.out.later hb4)
    have z1 : ((ByteArray.mk (List.toArray T)).toList == (ByteArray.mk (List.toArray T)).toList) = true := by simp
    obtain ⟨vk, hs, lg, hkp, hlen, hapk, haps, hngp, hnext⟩ := Pw.stepK (v := .slice ao1 T.length cc1) HP4.out (fun k e => .inl (.inr e))
    have HK := hide (keep_any w4 hkp (by omega) HA4.out hapk haps hngp (by omega) (by omega))
    have HNX := hide hnext
    clear x0 x1 HD hbs3 hb4 hkp hlen hapk haps hngp hnext HP3 HO3 HA3 HC3
    go_wp2_with fail
    refine HK.out.mono ?_
    rintro e w5 ⟨rfl, hleft⟩
    obtain ⟨hp5, hk5⟩ := HNX.out w5 hleft
    have hN2 : ∀ k, (Value.slice ao2 T.length cc2).ownBlock = some k → (Value.slice ao1 T.length cc1).ownBlock ≠ some k := fun k e e' => by
      have h1 := (HV1.out k e').2
      have h2 := (HV2.out k e).1
      omega
    have hNg : (Value.slice ao1 T.length cc1).ownBlock ≠ some go := fun e => by
      have h1 := (HV1.out go e).1
      omega
    have hA5 : w5.ownsRow w2.heap.size 5 1 (.slice ao2 T.length cc2) T.length (Lib.byteCells T) := own_kept HC4.out (fun k e => hk5 k ⟨.inr e, hN2 k e⟩)
    have HO5 : Hid (Ob w5 go 4 hh q (.slice bao b.length bc)) := (hk5 go ⟨.inl (.inl rfl), hNg⟩).trans HO4.out
    have cv5 := conv_bs (own_bs hA5)
    have hs5 := (Pw.moved hp5).2.2.2.1
    have hsz5 : w2.heap.size ≤ w5.heap.size := by obtain ⟨_, _, _, _, _, _, _, hm⟩ := hleft; have := hm.2.2.2.1; omega
    obtain ⟨vk2, hs', lg2, hkp, hlen, hapk, haps, hngp, hnext⟩ := Pw.stepK (v := .slice ao2 T.length cc2) hp5 (fun k e => ⟨.inr e, hN2 k e⟩)
    have HK2 := hide (keep_any w5 hkp (by omega) hA5 hapk haps hngp hsz5 (by omega))
    have HNX2 := hide hnext
    have HNG2 : Hid ((Value.slice ao2 T.length cc2).ownBlock ≠ some go) := fun e => by
      have h1 := (HV2.out go e).1
      omega
    have HNG := hide hNg
    clear cv1 cv2 cv3 HK HNX hleft hp5 hk5 hN2 hNg hA5 hkp hlen hapk haps hngp hnext HP4 HO4 HA4 HC4 hs5
    go_wp2_with fail
    refine HK2.out.mono ?_
    rintro e w6 ⟨rfl, hleft⟩
    obtain ⟨hp6, hk6⟩ := HNX2.out w6 hleft
    have HP6 := hide hp6
    have HO6 : Hid (Ob w6 go 4 hh q (.slice bao b.length bc)) := (hk6 go ⟨⟨.inl (.inl rfl), HNG.out⟩, HNG2.out⟩).trans HO5.out
    clear HK2 HNX2 hleft hp6 hk6 cv5
    go_wp2_with fail
    go_meet
    exact ⟨rfl, L, O, off, f, Pw.more (Pw.fewer HP6.out (fun k e => by subst e; exact ⟨⟨.inl (.inl rfl), HNG.out⟩, HNG2.out⟩)) (by omega), HO6⟩
  obtain ⟨rfl, L', O', off', f', HP2, HO2⟩ := hcut
  obtain ⟨w2, rfl⟩ : ∃ x, x = wc := ⟨_, rfl⟩
  obtain ⟨c0, c1, -, -⟩ := cl_of HP2.out HO2.out
  have HC := hide (both_state HP2.out).1
  clear HP1 HOB HCL
  go_wp2_with fail
  refine HC.out.mono ?_
  rintro e w3 ⟨rfl, hb3⟩
  have HP3 := hide (Pw.later HP2.out hb3)
  obtain ⟨d0, d1⟩ := HP3.out.ptrs
  have HD := hide (both_state HP3.out).2
  clear c0 c1 HC HP2 HO2 hb3
  obtain ⟨m, hm⟩ : ∃ m, m = L'.length + O'.length := ⟨_, rfl⟩
  rw [← hm] at HD ⊢
  clear hm
  obtain ⟨p, hp⟩ : ∃ p, p = L'.length := ⟨_, rfl⟩
  rw [← hp] at HD ⊢
  clear hp
  go_wp2_with fail
  refine HD.out.mono ?_
  rintro e w4 ⟨rfl, hb4⟩
  have HP4 := hide (Pw.later HP3.out hb4)
  clear d0 d1 HD HP3 hb4
  cases off' <;>
  · go_wp2_with fail
    go_ret
    exact ⟨rfl, L', O', _, f', Pw.fewer HP4.out (fun k e => e.elim)⟩

set_option maxHeartbeats 8000000 in
set_option maxRecDepth 100000 in
theorem step_sync {S : Nat → Prop} {B gp ga gb nk : Nat} {L O b : List UInt8} {off : Bool} {f : Int} (hh q : Int) (bao : Option Addr) (bc : Nat) (w : World) (h : Ps w S B gp ga gb nk (fun _ => False) w L O off f) (hb : ∀ W, Below B w W → Bs W (.slice bao b.length bc) b) (hnb : NilOr (.slice bao b.length bc)) (hvb : 0 < b.length → ∀ k, (Value.slice bao b.length bc).ownBlock = some k → k < B) (_hbl : b.length ≤ 1048576) (_hq : q ≤ 9223372036854775807) (_hnk : nk ≤ 100000) :
    Calls Try.prog 8 #[.pointer (some ⟨gp, 0, none⟩), .agg #[.int .i64 2, .int .i64 hh, .int .i64 q, .slice bao b.length bc]] w fun e w' => e = .returned (.bool true) ∧ ∃ L' O' off' f', Ps w S B gp ga gb (nk + 4) (fun _ => False) w' L' O' off' f' := by
  have hal : Below w.heap.size w (w.alloc (.cells #[.int .i64 2, .int .i64 hh, .int .i64 q, .slice bao b.length bc] 29)) := (Below.refl _ w).alloc (Nat.le_refl _) _
  have hP1 : Ps w S B gp ga gb nk (fun k => k = w.heap.size) (w.alloc (.cells #[.int .i64 2, .int .i64 hh, .int .i64 q, .slice bao b.length bc] 29)) L O off f := Pw.fence h hal (fun k e => ⟨.inr (by omega), by simp; omega⟩)
  have hOb : Ob (w.alloc (.cells #[.int .i64 2, .int .i64 hh, .int .i64 q, .slice bao b.length bc] 29)) w.heap.size 2 hh q (.slice bao b.length bc) := heap_alloc_new w _
  have hcl := cl_of hP1 hOb
  have ck : (w.alloc (.cells #[.int .i64 2, .int .i64 hh, .int .i64 q, .slice bao b.length bc] 29)).cell? ⟨w.heap.size, 0, none⟩ = some (.int .i64 2) := by rw [cell_of_row _ w.heap.size _ _ 29 (0, 0) hOb]; rfl
  have HB := hide hb
  have HNB := hide hnb
  have HVB := hide hvb
  have HP1 := hide hP1
  have HOB := hide hOb
  have HCL := hide hcl
  clear h hb hnb hvb hP1 hOb hcl hal
  go_enter Try.func8, Try.ntmps8
  go_upto_block 0 with fail
  obtain ⟨w1, hw1⟩ : ∃ x, x = w.alloc (.cells #[.int .i64 2, .int .i64 hh, .int .i64 q, .slice bao b.length bc] 29) := ⟨_, rfl⟩
  rw [← hw1] at HP1 HOB HCL ⊢
  clear hw1 ck
  obtain ⟨go, hgo⟩ : ∃ x, x = w.heap.size := ⟨_, rfl⟩
  rw [← hgo] at HP1 HOB HCL ⊢
  have HGO := hide hgo
  clear hgo
  go_cut [5] (fun v5 wx => v5 = .bool true ∧ ∃ L' O' off' f', Hid (Ps w S B gp ga gb (nk + 4) (fun k => k = go) wx L' O' off' f') ∧ Hid (Ob wx go 2 hh q (.slice bao b.length bc)))
  case first =>
    obtain ⟨E, L', O', off', f', hc, hd⟩ := Both.op (both_sync HP1.out) HOB.out rfl
    obtain ⟨c0, c1, c2, c3⟩ := HCL.out
    have HC := hide hc
    have HD := hide hd
    clear hc hd
    go_wp2_with fail
    refine HC.out.mono ?_
    rintro e w2 ⟨rfl, HP2, d0, d1, d2, d3⟩
    clear c0 c1 c2 c3 HC
    go_wp2_with fail
    refine (HD.out w2 _ rfl HP2.out.1 HP2.out.2.2).mono ?_
    rintro e w3 ⟨rfl, HP3, d0', d1', d2', d3'⟩
    clear d0 d1 d2 d3 HD
    go_wp2_with fail
    go_meet
    exact ⟨rfl, L', O', off', f', Pw.more HP3.out.1 (by omega), HP3.out.2.2⟩
  obtain ⟨rfl, L', O', off', f', HP2, HO2⟩ := hcut
  obtain ⟨w2, rfl⟩ : ∃ x, x = wc := ⟨_, rfl⟩
  obtain ⟨c0, c1, -, -⟩ := cl_of HP2.out HO2.out
  have HC := hide (both_state HP2.out).1
  clear HP1 HOB HCL
  go_wp2_with fail
  refine HC.out.mono ?_
  rintro e w3 ⟨rfl, hb3⟩
  have HP3 := hide (Pw.later HP2.out hb3)
  obtain ⟨d0, d1⟩ := HP3.out.ptrs
  have HD := hide (both_state HP3.out).2
  clear c0 c1 HC HP2 HO2 hb3
  obtain ⟨m, hm⟩ : ∃ m, m = L'.length + O'.length := ⟨_, rfl⟩
  rw [← hm] at HD ⊢
  clear hm
  obtain ⟨p, hp⟩ : ∃ p, p = L'.length := ⟨_, rfl⟩
  rw [← hp] at HD ⊢
  clear hp
  go_wp2_with fail
  refine HD.out.mono ?_
  rintro e w4 ⟨rfl, hb4⟩
  have HP4 := hide (Pw.later HP3.out hb4)
  clear d0 d1 HD HP3 hb4
  cases off' <;>
  · go_wp2_with fail
    go_ret
    exact ⟨rfl, L', O', _, f', Pw.fewer HP4.out (fun k e => e.elim)⟩

set_option maxHeartbeats 8000000 in
set_option maxRecDepth 100000 in
theorem step_restart {S : Nat → Prop} {B gp ga gb nk : Nat} {L O b : List UInt8} {off : Bool} {f : Int} (hh q : Int) (bao : Option Addr) (bc : Nat) (w : World) (h : Ps w S B gp ga gb nk (fun _ => False) w L O off f) (hb : ∀ W, Below B w W → Bs W (.slice bao b.length bc) b) (hnb : NilOr (.slice bao b.length bc)) (hvb : 0 < b.length → ∀ k, (Value.slice bao b.length bc).ownBlock = some k → k < B) (_hbl : b.length ≤ 1048576) (_hq : q ≤ 9223372036854775807) (_hnk : nk ≤ 100000) :
    Calls Try.prog 8 #[.pointer (some ⟨gp, 0, none⟩), .agg #[.int .i64 7, .int .i64 hh, .int .i64 q, .slice bao b.length bc]] w fun e w' => e = .returned (.bool true) ∧ ∃ L' O' off' f', Ps w S B gp ga gb (nk + 4) (fun _ => False) w' L' O' off' f' := by
  have hal : Below w.heap.size w (w.alloc (.cells #[.int .i64 7, .int .i64 hh, .int .i64 q, .slice bao b.length bc] 29)) := (Below.refl _ w).alloc (Nat.le_refl _) _
  have hP1 : Ps w S B gp ga gb nk (fun k => k = w.heap.size) (w.alloc (.cells #[.int .i64 7, .int .i64 hh, .int .i64 q, .slice bao b.length bc] 29)) L O off f := Pw.fence h hal (fun k e => ⟨.inr (by omega), by simp; omega⟩)
  have hOb : Ob (w.alloc (.cells #[.int .i64 7, .int .i64 hh, .int .i64 q, .slice bao b.length bc] 29)) w.heap.size 7 hh q (.slice bao b.length bc) := heap_alloc_new w _
  have hcl := cl_of hP1 hOb
  have ck : (w.alloc (.cells #[.int .i64 7, .int .i64 hh, .int .i64 q, .slice bao b.length bc] 29)).cell? ⟨w.heap.size, 0, none⟩ = some (.int .i64 7) := by rw [cell_of_row _ w.heap.size _ _ 29 (0, 0) hOb]; rfl
  have HB := hide hb
  have HNB := hide hnb
  have HVB := hide hvb
  have HP1 := hide hP1
  have HOB := hide hOb
  have HCL := hide hcl
  clear h hb hnb hvb hP1 hOb hcl hal
  go_enter Try.func8, Try.ntmps8
  go_upto_block 0 with fail
  obtain ⟨w1, hw1⟩ : ∃ x, x = w.alloc (.cells #[.int .i64 7, .int .i64 hh, .int .i64 q, .slice bao b.length bc] 29) := ⟨_, rfl⟩
  rw [← hw1] at HP1 HOB HCL ⊢
  clear hw1 ck
  obtain ⟨go, hgo⟩ : ∃ x, x = w.heap.size := ⟨_, rfl⟩
  rw [← hgo] at HP1 HOB HCL ⊢
  have HGO := hide hgo
  clear hgo
  go_cut [5] (fun v5 wx => v5 = .bool true ∧ ∃ L' O' off' f', Hid (Ps w S B gp ga gb (nk + 4) (fun k => k = go) wx L' O' off' f') ∧ Hid (Ob wx go 7 hh q (.slice bao b.length bc)))
  case first =>
    obtain ⟨hc, hd⟩ := both_restart HP1.out
    obtain ⟨c0, c1, c2, c3⟩ := HCL.out
    have HC := hide hc
    have HD := hide hd
    clear hc hd
    go_wp2_with fail
    refine HC.out.mono ?_
    rintro e w2 ⟨rfl, hp2, hk2⟩
    have HO2 : Hid (Ob w2 go 7 hh q (.slice bao b.length bc)) := (hk2 go rfl).trans HOB.out
    obtain ⟨d0, d1, d2, d3⟩ := cl_of hp2 HO2.out
    have HP2 := hide hp2
    clear c0 c1 c2 c3 HC hp2 hk2
    go_wp2_with fail
    refine (HD.out w2 HP2.out).mono ?_
    rintro e w3 ⟨rfl, hp3, hk3⟩
    have HP3 := hide hp3
    have HO3 : Hid (Ob w3 go 7 hh q (.slice bao b.length bc)) := (hk3 go rfl).trans HO2.out
    clear d0 d1 d2 d3 HD hp3 hk3
    go_wp2_with fail
    go_meet
    exact ⟨rfl, L, O, false, -1, Pw.more HP3.out (by omega), HO3⟩
  obtain ⟨rfl, L', O', off', f', HP2, HO2⟩ := hcut
  obtain ⟨w2, rfl⟩ : ∃ x, x = wc := ⟨_, rfl⟩
  obtain ⟨c0, c1, -, -⟩ := cl_of HP2.out HO2.out
  have HC := hide (both_state HP2.out).1
  clear HP1 HOB HCL
  go_wp2_with fail
  refine HC.out.mono ?_
  rintro e w3 ⟨rfl, hb3⟩
  have HP3 := hide (Pw.later HP2.out hb3)
  obtain ⟨d0, d1⟩ := HP3.out.ptrs
  have HD := hide (both_state HP3.out).2
  clear c0 c1 HC HP2 HO2 hb3
  obtain ⟨m, hm⟩ : ∃ m, m = L'.length + O'.length := ⟨_, rfl⟩
  rw [← hm] at HD ⊢
  clear hm
  obtain ⟨p, hp⟩ : ∃ p, p = L'.length := ⟨_, rfl⟩
  rw [← hp] at HD ⊢
  clear hp
  go_wp2_with fail
  refine HD.out.mono ?_
  rintro e w4 ⟨rfl, hb4⟩
  have HP4 := hide (Pw.later HP3.out hb4)
  clear d0 d1 HD HP3 hb4
  cases off' <;>
  · go_wp2_with fail
    go_ret
    exact ⟨rfl, L', O', _, f', Pw.fewer HP4.out (fun k e => e.elim)⟩

set_option maxHeartbeats 8000000 in
set_option maxRecDepth 100000 in
theorem step_none {S : Nat → Prop} {B gp ga gb nk : Nat} {L O b : List UInt8} {off : Bool} {f : Int} (kd hh q : Int) (bao : Option Addr) (bc : Nat) (w : World) (h : Ps w S B gp ga gb nk (fun _ => False) w L O off f) (hb : ∀ W, Below B w W → Bs W (.slice bao b.length bc) b) (hnb : NilOr (.slice bao b.length bc)) (hvb : 0 < b.length → ∀ k, (Value.slice bao b.length bc).ownBlock = some k → k < B) (_hbl : b.length ≤ 1048576) (_hq : q ≤ 9223372036854775807) (_hnk : nk ≤ 100000) (k1 : kd ≠ 1) (k2 : kd ≠ 2) (k3 : kd ≠ 3) (k4 : kd ≠ 4) (k5 : kd ≠ 5) (k6 : kd ≠ 6) (k7 : kd ≠ 7) :
    Calls Try.prog 8 #[.pointer (some ⟨gp, 0, none⟩), .agg #[.int .i64 kd, .int .i64 hh, .int .i64 q, .slice bao b.length bc]] w fun e w' => e = .returned (.bool true) ∧ ∃ L' O' off' f', Ps w S B gp ga gb (nk + 4) (fun _ => False) w' L' O' off' f' := by
  have hal : Below w.heap.size w (w.alloc (.cells #[.int .i64 kd, .int .i64 hh, .int .i64 q, .slice bao b.length bc] 29)) := (Below.refl _ w).alloc (Nat.le_refl _) _
  have hP1 : Ps w S B gp ga gb nk (fun k => k = w.heap.size) (w.alloc (.cells #[.int .i64 kd, .int .i64 hh, .int .i64 q, .slice bao b.length bc] 29)) L O off f := Pw.fence h hal (fun k e => ⟨.inr (by omega), by simp; omega⟩)
  have hOb : Ob (w.alloc (.cells #[.int .i64 kd, .int .i64 hh, .int .i64 q, .slice bao b.length bc] 29)) w.heap.size kd hh q (.slice bao b.length bc) := heap_alloc_new w _
  have hcl := cl_of hP1 hOb
  have ck : (w.alloc (.cells #[.int .i64 kd, .int .i64 hh, .int .i64 q, .slice bao b.length bc] 29)).cell? ⟨w.heap.size, 0, none⟩ = some (.int .i64 kd) := by rw [cell_of_row _ w.heap.size _ _ 29 (0, 0) hOb]; rfl
  have HB := hide hb
  have HNB := hide hnb
  have HVB := hide hvb
  have HP1 := hide hP1
  have HOB := hide hOb
  have HCL := hide hcl
  clear h hb hnb hvb hP1 hOb hcl hal
  go_enter Try.func8, Try.ntmps8
  go_upto_block 0 with fail
  obtain ⟨w1, hw1⟩ : ∃ x, x = w.alloc (.cells #[.int .i64 kd, .int .i64 hh, .int .i64 q, .slice bao b.length bc] 29) := ⟨_, rfl⟩
  rw [← hw1] at HP1 HOB HCL ⊢
  clear hw1 ck
  obtain ⟨go, hgo⟩ : ∃ x, x = w.heap.size := ⟨_, rfl⟩
  rw [← hgo] at HP1 HOB HCL ⊢
  have HGO := hide hgo
  clear hgo
  go_cut [5] (fun v5 wx => v5 = .bool true ∧ ∃ L' O' off' f', Hid (Ps w S B gp ga gb (nk + 4) (fun k => k = go) wx L' O' off' f') ∧ Hid (Ob wx go kd hh q (.slice bao b.length bc)))
  case first =>
    have j1 : (kd == 1) = false := by rw [beq_eq_false_iff_ne]; exact k1
    have j2 : (kd == 2) = false := by rw [beq_eq_false_iff_ne]; exact k2
    have j3 : (kd == 3) = false := by rw [beq_eq_false_iff_ne]; exact k3
    have j4 : (kd == 4) = false := by rw [beq_eq_false_iff_ne]; exact k4
    have j5 : (kd == 5) = false := by rw [beq_eq_false_iff_ne]; exact k5
    have j6 : (kd == 6) = false := by rw [beq_eq_false_iff_ne]; exact k6
    have j7 : (kd == 7) = false := by rw [beq_eq_false_iff_ne]; exact k7
    go_wp2_with fail
    go_meet
    exact ⟨rfl, L, O, off, f, Pw.more HP1.out (by omega), HOB⟩
  obtain ⟨rfl, L', O', off', f', HP2, HO2⟩ := hcut
  obtain ⟨w2, rfl⟩ : ∃ x, x = wc := ⟨_, rfl⟩
  obtain ⟨c0, c1, -, -⟩ := cl_of HP2.out HO2.out
  have HC := hide (both_state HP2.out).1
  clear HP1 HOB HCL
  go_wp2_with fail
  refine HC.out.mono ?_
  rintro e w3 ⟨rfl, hb3⟩
  have HP3 := hide (Pw.later HP2.out hb3)
  obtain ⟨d0, d1⟩ := HP3.out.ptrs
  have HD := hide (both_state HP3.out).2
  clear c0 c1 HC HP2 HO2 hb3
  obtain ⟨m, hm⟩ : ∃ m, m = L'.length + O'.length := ⟨_, rfl⟩
  rw [← hm] at HD ⊢
  clear hm
  obtain ⟨p, hp⟩ : ∃ p, p = L'.length := ⟨_, rfl⟩
  rw [← hp] at HD ⊢
  clear hp
  go_wp2_with fail
  refine HD.out.mono ?_
  rintro e w4 ⟨rfl, hb4⟩
  have HP4 := hide (Pw.later HP3.out hb4)
  clear d0 d1 HD HP3 hb4
  cases off' <;>
  · go_wp2_with fail
    go_ret
    exact ⟨rfl, L', O', _, f', Pw.fewer HP4.out (fun k e => e.elim)⟩

end Go.Proofs.Ytmceoelafmlpjaa
