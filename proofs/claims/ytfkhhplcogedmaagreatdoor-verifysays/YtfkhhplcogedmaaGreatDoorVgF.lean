/-
  Verify: Verify.
-/
import Derived.Test.YtfkhhplcogedmaaGreatDoorMgP
namespace Go.Proofs.YtfkhhplcogedmaaGreatDoor
open Go.RowKit
set_option maxRecDepth 100000
/-- How far a program has been asked. -/
structure Vs (Q : Nat → Prop) (W w0 : World) (gv gf : Nat) (vs vf vk vr : Value) (p : Pg) (ks : List Kind) (i : Nat) (V : World) : Prop where
  fun' : V.heap[gf]? = some (.cells #[.func (Fn.func 23) #[.pointer (some ⟨gv, 0, none⟩)] #[], .func (Fn.func 24) #[.pointer (some ⟨gv, 0, none⟩)] #[], .func (Fn.func 25) #[.pointer (some ⟨gv, 0, none⟩)] #[], .func (Fn.func 26) #[.pointer (some ⟨gv, 0, none⟩)] #[], .func (Fn.func 27) #[.pointer (some ⟨gv, 0, none⟩)] #[]] 76 (0, 0))
  below : Below W.heap.size W V
  pb : ∃ L, Pb Q w0 V gv vs vf vk vr p ks L ∧ (4 ≤ i → Dk p.fns w0 V L L.length)
  r1 : 1 ≤ i → Fst p.sys.length (SetBad ks.length p.sys) none
  r2 : 2 ≤ i → TcO p.fns.length ks (rosOf p) none
  r3 : 3 ≤ i → Fst p.fns.length (Cyc (Eg (cls p.fns))) none
  r4 : 4 ≤ i → DaO p.fns (rosOf p) none
  r5 : 5 ≤ i → RnO p.fns (rosOf p) none
section
variable {Q : Nat → Prop} {W w0 V V' : World} {gv gf : Nat} {vs vf vk vr : Value} {p : Pg} {ks : List Kind}
theorem Vs.next {i : Nat} (h : Vs Q W w0 gv gf vs vf vk vr p ks i V) (hb : Below V.heap.size V V') (hi : i ≠ 3) (h1 : i = 0 → Fst p.sys.length (SetBad ks.length p.sys) none) (h2 : i = 1 → TcO p.fns.length ks (rosOf p) none) (h3 : i = 2 → Fst p.fns.length (Cyc (Eg (cls p.fns))) none) (h5 : i = 4 → RnO p.fns (rosOf p) none) : Vs Q W w0 gv gf vs vf vk vr p ks (i + 1) V' := by
  obtain ⟨L, l1, l2⟩ := h.pb
  refine ⟨(hb.block gf (lt_of_block h.fun')).trans h.fun', below_on h.below hb, ⟨L, l1.later hb, fun e => (l2 (by omega)).later hb⟩, fun e => ?_, fun e => ?_, fun e => ?_, fun e => h.r4 (by omega), fun e => ?_⟩
  · by_cases c : i = 0
    · exact h1 c
    · exact h.r1 (by omega)
  · by_cases c : i = 1
    · exact h2 c
    · exact h.r2 (by omega)
  · by_cases c : i = 2
    · exact h3 c
    · exact h.r3 (by omega)
  · by_cases c : i = 4
    · exact h5 c
    · exact h.r5 (by omega)
theorem Vs.cell {i : Nat} (h : Vs Q W w0 gv gf vs vf vk vr p ks i V) : V.cell? ⟨gf, 0, none⟩ = some (.func (Fn.func 23) #[.pointer (some ⟨gv, 0, none⟩)] #[]) ∧ V.cell? ⟨gf, 1, none⟩ = some (.func (Fn.func 24) #[.pointer (some ⟨gv, 0, none⟩)] #[]) ∧ V.cell? ⟨gf, 2, none⟩ = some (.func (Fn.func 25) #[.pointer (some ⟨gv, 0, none⟩)] #[]) ∧ V.cell? ⟨gf, 3, none⟩ = some (.func (Fn.func 26) #[.pointer (some ⟨gv, 0, none⟩)] #[]) ∧ V.cell? ⟨gf, 4, none⟩ = some (.func (Fn.func 27) #[.pointer (some ⟨gv, 0, none⟩)] #[]) := by
  refine ⟨?_, ?_, ?_, ?_, ?_⟩ <;> rw [cell_of_row V _ _ _ 76 (0, 0) h.fun'] <;> rfl
end
set_option maxHeartbeats 8000000 in
theorem verifyN_any {Q : Nat → Prop} {W : World} {vs vf vk : Value} {p : Pg} {ks : List Kind} (h : Pgm Q W vs vf p) (hk : Kr W vk ks) (ht : Tb W) : Calls Tryz.prog 10 #[.agg #[vs, vf], vk] W fun e w' => ∃ v o, e = .returned v ∧ Vo p ks o ∧ FltN W.heap.size w' v o ∧ Below W.heap.size W w' := by
  have JF : Hid (∀ a e W, Calls Tryz.prog 20 #[.int .i64 a, .int .i64 e] W fun en w' => ∃ v, en = .returned v ∧ FltN W.heap.size w' v (some (a, e)) ∧ Below W.heap.size W w') := faultN_any
  have HP : Hid (∀ V, Below W.heap.size W V → Pgm Q V vs vf p) := fun V hV => ⟨h.1.later hV, h.2.later hV⟩
  have HKR : Hid (∀ V, Below W.heap.size W V → Kr V vk ks) := fun V hV => hk.later hV
  have HT : Hid (∀ V, Below W.heap.size W V → Tb V) := fun V hV => ht.later hV
  have JN : Hid (∀ V, Below W.heap.size W V → Calls Tryz.prog 19 #[vk] V fun e w' => (∃ pv b, e = .returned (.tuple #[pv, .int .i64 (if b = true then 0 else 65)]) ∧ (b = true ↔ mayB ks)) ∧ Below V.heap.size V w') := fun V hV => wnew_any (HKR.out V hV)
  have JE : Hid (∀ V, Below W.heap.size W V → Calls Tryz.prog 21 #[.agg #[vs, vf]] V (EnOut V p)) := fun V hV => encode_any p (HP.out V hV) (HT.out V hV)
  have JR : Hid (mayOk p = true → ∀ V, Below W.heap.size W V → Calls Tryz.prog 22 #[.agg #[vs, vf]] V fun e w' => ∃ v, e = .returned v ∧ Rl Q V (rosOf p) v w') := fun hm V hV => by
    obtain ⟨h1, -, -, h4⟩ := mayOk_all hm
    have hpv := HP.out V hV
    obtain ⟨sa, sc, e1, s1, s2⟩ := hpv.1.at
    obtain ⟨fa, fc, e2, f1, f2⟩ := hpv.2.at
    subst e1 e2
    exact routinesof_at p.sys p.fns rfl rfl s1 s2 f1 f2 hpv.1 hpv.2 h1.1 h1.2 h4
  obtain ⟨sa, sc, rfl, s1, s2⟩ := h.1.at
  obtain ⟨fa, fc, rfl, f1, f2⟩ := h.2.at
  obtain ⟨ka, kc, hvk, k1, k2, -⟩ := hk
  subst hvk
  obtain ⟨ns, hns⟩ : ∃ n, n = p.sys.length := ⟨_, rfl⟩
  obtain ⟨nf, hnf⟩ : ∃ n, n = p.fns.length := ⟨_, rfl⟩
  obtain ⟨nk, hnk⟩ : ∃ n, n = ks.length := ⟨_, rfl⟩
  rw [← hns, ← hnf] at HP JE JR
  rw [← hnk] at HKR JN
  rw [← hns, ← hnf, ← hnk]
  clear h ht k2 hns hnf hnk s1 s2 f1 f2 k1
  obtain ⟨W1, hW1⟩ : ∃ X, X = W.alloc (.cells #[.slice sa ns sc, .slice fa nf fc] 25) := ⟨_, rfl⟩
  have b1 : Below W.heap.size W W1 := hW1 ▸ below_alloc W _
  obtain ⟨g2, hg2⟩ : ∃ y, y = W.heap.size := ⟨_, rfl⟩
  have kp : W1.heap[g2]? = some (.cells #[.slice sa ns sc, .slice fa nf fc] 25 (0, 0)) := by rw [hW1, hg2]; exact heap_alloc_new W _
  have B1 := hide b1
  have KP : Hid (∀ V, Below W1.heap.size W1 V → V.cell? ⟨g2, 0, none⟩ = some (.slice sa ns sc) ∧ V.cell? ⟨g2, 1, none⟩ = some (.slice fa nf fc)) := fun V hV => by
    have := (hV.block g2 (lt_of_block kp)).trans kp
    refine ⟨?_, ?_⟩ <;> rw [cell_of_row V _ _ _ 25 (0, 0) this] <;> rfl
  go_enter Tryz.func10, Tryz.ntmps10
  go_upto_region 1 with fail
  rw [← hW1, ← hg2]
  clear hW1 hg2 b1 kp
  have J1 := hide (JN.out W1 B1.out)
  go_wp2_with fail
  refine J1.out.mono ?_
  rintro e w2 ⟨⟨pv, b, rfl, hb⟩, b2⟩
  have B12 := hide b2
  have B2 := hide (below_on B1.out b2)
  have HBB := hide hb
  clear J1 b2 hb JN
  cases b with
  | false =>
    have HO : Hid (Vo p ks (some (0, 65))) := .inl ⟨fun h => absurd (HBB.out.2 h) (by decide), rfl⟩
    clear HBB
    go_wp2_with fail
    refine (JF.out _ _ _).mono ?_
    rintro e w5 ⟨v5, rfl, f5, b5⟩
    have F5 := hide (f5.mono B2.out.size)
    have B5 := hide (below_on B2.out b5)
    clear f5 b5
    go_wp2_with fail
    go_ret
    first | exact ⟨_, _, rfl, HO.out, F5.out, B5.out⟩ | exact ⟨_, rfl, _, HO.out, F5.out, B5.out⟩
  | true =>
    have HM : Hid (mayB ks) := HBB.out.1 rfl
    obtain ⟨x0, x1⟩ := KP.out w2 B12.out
    have J2 := hide (JE.out w2 B2.out)
    clear HBB
    go_wp2_with fail
    refine J2.out.mono ?_
    rintro e w3 ⟨b3, he⟩
    have B13 := hide (below_on B12.out b3)
    have B3 := hide (below_on B2.out b3)
    clear J2 b3 JE x0 x1
    by_cases hm : mayOk p = true
    · rw [if_pos hm] at he
      obtain ⟨v', rfl, hv'⟩ := he
      obtain ⟨a', c', rfl⟩ := own_len hv'
      have HMK := hide hm
      have JR2 := hide (JR.out hm w3.drew (below_on B3.out (below_drew w3)))
      have S0 := hide (KP.out w3.drew (below_on B13.out (below_drew w3)))
      clear hv' hm JR
      go_upto_region 7 with fail
      go_region_held3 (fun V => V.cell? ⟨g2, 0, none⟩ = some (.slice sa ns sc) ∧ V.cell? ⟨g2, 1, none⟩ = some (.slice fa nf fc)) (first | exact S0.out | exact S1 | exact KP.out _ (below_on B14.out (below_alloc _ _))) ((go_at_call 22; refine JR2.out.mono ?_; rintro e w4 ⟨vr, rfl, rl⟩; have RL := hide rl; have B14 := hide (below_on B13.out (below_on (below_drew w3) rl.below)); have S1 := KP.out w4 B14.out; obtain ⟨L4, -, -, l4⟩ := rl.ex; obtain ⟨ar, cr, rfl⟩ := own_len l4; clear rl l4))
      obtain ⟨nr, hnr⟩ : ∃ x, x = (rosOf p).length := ⟨_, rfl⟩
      have HNR := hide hnr
      rw [← hnr]
      obtain ⟨w0, hw0⟩ : ∃ X, X = w3.drew := ⟨_, rfl⟩
      rw [← hw0] at RL
      have B0 : Hid (Below W.heap.size W w0) := by unfold Hid; rw [hw0]; exact below_on B3.out (below_drew w3)
      have PB : Hid (∀ V, Below w4.heap.size w4 V → V.heap[w4.heap.size]? = some (.cells #[.slice sa ns sc, .slice fa nf fc, .slice ka nk kc, .slice ar nr cr] 75 (0, 0)) → ∃ L, Pb Q w0 V w4.heap.size (.slice sa ns sc) (.slice fa nf fc) (.slice ka nk kc) (.slice ar nr cr) p ks L) := fun V hV hb => by
        obtain ⟨L, l1, l2, l3⟩ := RL.out.ex
        have hl : L.length = (rosOf p).length := by rw [← l1]; simp
        refine ⟨L, hb, RL.out.below.size, (HP.out w0 B0.out).1, (HP.out w0 B0.out).2, HKR.out w0 B0.out, ?_, l1, fun x hx => (l2 x hx).1, HT.out w0 B0.out, below_on RL.out.below hV⟩
        rw [hl]
        refine own_later ?_ hV
        rw [HNR.out]
        exact l3
      have BR := hide (below_on B0.out RL.out.below)
      obtain ⟨gv, hgv⟩ : ∃ x, x = w4.heap.size := ⟨_, rfl⟩
      obtain ⟨W5, hW5⟩ : ∃ X, X = w4.alloc (.cells #[.slice sa ns sc, .slice fa nf fc, .slice ka nk kc, .slice ar nr cr] 75) := ⟨_, rfl⟩
      have k5 : W5.heap[gv]? = some (.cells #[.slice sa ns sc, .slice fa nf fc, .slice ka nk kc, .slice ar nr cr] 75 (0, 0)) := by rw [hW5, hgv]; exact heap_alloc_new w4 _
      have b5 : Below w4.heap.size w4 W5 := hW5 ▸ below_alloc w4 _
      obtain ⟨W6, hW6⟩ : ∃ X, X = W5.alloc (.cells #[.func (Fn.func 23) #[.pointer (some ⟨gv, 0, none⟩)] #[], .func (Fn.func 24) #[.pointer (some ⟨gv, 0, none⟩)] #[], .func (Fn.func 25) #[.pointer (some ⟨gv, 0, none⟩)] #[], .func (Fn.func 26) #[.pointer (some ⟨gv, 0, none⟩)] #[], .func (Fn.func 27) #[.pointer (some ⟨gv, 0, none⟩)] #[]] 76) := ⟨_, rfl⟩
      have b6 : Below W5.heap.size W5 W6 := hW6 ▸ below_alloc W5 _
      rw [← hW5, ← hgv]
      rw [← hgv] at PB
      have PB6 : Hid (∃ L, Pb Q w0 W6 gv (.slice sa ns sc) (.slice fa nf fc) (.slice ka nk kc) (.slice ar nr cr) p ks L) := PB.out W6 (hgv ▸ below_on b5 b6) ((b6.block gv (lt_of_block k5)).trans k5)
      have K6 : Hid (W6.heap[W5.heap.size]? = some (.cells #[.func (Fn.func 23) #[.pointer (some ⟨gv, 0, none⟩)] #[], .func (Fn.func 24) #[.pointer (some ⟨gv, 0, none⟩)] #[], .func (Fn.func 25) #[.pointer (some ⟨gv, 0, none⟩)] #[], .func (Fn.func 26) #[.pointer (some ⟨gv, 0, none⟩)] #[], .func (Fn.func 27) #[.pointer (some ⟨gv, 0, none⟩)] #[]] 76 (0, 0))) := by unfold Hid; rw [hW6]; exact heap_alloc_new W5 _
      have HW6 := hide hW6
      clear S0 S1 hnr hw0 hW5 hgv b5 b6 hW6 PB JR2 KP B13 B12
      go_wp2_with fail
      rw [← HW6.out]
      obtain ⟨gf, hgf⟩ : ∃ x, x = W5.heap.size := ⟨_, rfl⟩
      rw [← hgf] at K6 ⊢
      have V0 : Hid (Vs Q W w0 gv gf (.slice sa ns sc) (.slice fa nf fc) (.slice ka nk kc) (.slice ar nr cr) p ks 0 W6) := by
        obtain ⟨L, l1⟩ := PB6.out
        exact ⟨K6.out, B0.out.trans (l1.below.mono (B0.out.size)), ⟨L, l1, fun e => absurd e (by omega)⟩, fun e => absurd e (by omega), fun e => absurd e (by omega), fun e => absurd e (by omega), fun e => absurd e (by omega), fun e => absurd e (by omega)⟩
      have HMO : Hid (mayB ks ∧ mayOk p = true) := ⟨HM.out, HMK.out⟩
      have HG : Hid (gf ≠ gv ∧ gv < W6.heap.size) := by
        obtain ⟨L, l1⟩ := PB6.out
        refine ⟨fun e => ?_, lt_of_block l1.blk⟩
        have := l1.blk
        rw [← e, K6.out] at this
        simp at this
      clear PB6 K6 HW6 hgf RL BR B14 k5 HM HMK HP HKR HT B2 B3 B1
      go_loopw [49] (fun v49 V => ∃ i : Nat, i ≤ 5 ∧ v49 = .int .i64 (i : Int) ∧ Hid (Vs Q W w0 gv gf (.slice sa ns sc) (.slice fa nf fc) (.slice ka nk kc) (.slice ar nr cr) p ks i V)) (fun v49 _ => 5 - (intOf v49).toNat)
      case atStart => exact ⟨0, Nat.zero_le _, rfl, V0⟩
      case round =>
        obtain ⟨i, hi, rfl, HV⟩ := hrel
        clear V0
        obtain ⟨d0, d1, d2, d3, d4⟩ := HV.out.cell
        obtain ⟨L, pb, dk⟩ := HV.out.pb
        obtain rfl | rfl | rfl | rfl | rfl | rfl : i = 0 ∨ i = 1 ∨ i = 2 ∨ i = 3 ∨ i = 4 ∨ i = 5 := by omega
        · have J := hide (asksets_any pb.pm (fun s hs => by have := sysOk_all ((mayOk_all HMO.out.2).2.1 s hs); exact ⟨(setOk_mem this.1).2, (setOk_mem this.2.1).2, (setOk_mem this.2.2.1).2, (setOk_mem this.2.2.2.1).2⟩))
          clear pb dk
          go_wp2_with fail
          refine J.out.mono ?_
          rintro e w5 ⟨v5, on, rfl, fst, fl, b5⟩
          clear J d0 d1 d2 d3 d4
          cases on with
          | none =>
            have VN : Hid (Vs Q W w0 gv gf (.slice sa ns sc) (.slice fa nf fc) (.slice ka nk kc) (.slice ar nr cr) p ks _ w5) := HV.out.next b5 (by decide) (fun _ => fst) (fun e => by cases e) (fun e => by cases e) (fun e => by cases e)
            obtain rfl : v5 = .nilIface := fl.1
            clear HV
            go_wp2_with fail
            go_roundw
            case rel => exact ⟨1, by decide, rfl, VN⟩
            case measure => simp [intOf]
          | some n =>
            obtain ⟨y, hy⟩ : ∃ y, y = (plOf p n, (60 : Int)) := ⟨_, rfl⟩
            change FltN _ w5 v5 (some (plOf p n, 60)) at fl
            rw [← hy] at fl
            have HO : Hid (Vo p ks (some y)) := .inr (.inr ⟨HMO.out.1, HMO.out.2, some n, fst, .inl ⟨n, rfl, by rw [hy]⟩⟩)
            obtain ⟨ya, ye⟩ := y
            obtain ⟨⟨gy, rfl, ky⟩, hgy⟩ := fl
            have F5 : Hid (FltN W.heap.size w5 (.iface 57 (.pointer (some ⟨gy, 0, none⟩))) (some (ya, ye))) := FltN.mono ⟨⟨gy, rfl, ky⟩, hgy⟩ HV.out.below.size
            have B5 := hide (below_on HV.out.below b5)
            clear ky hgy
            go_wp2_with fail
            go_ret
            first | exact ⟨_, _, rfl, HO.out, F5.out, B5.out⟩ | exact ⟨_, rfl, _, HO.out, F5.out, B5.out⟩
        · have r1 := HV.out.r1 (by omega)
          have J := hide (asktouches_any pb.pm (sets_kinds HMO.out.2 r1))
          clear pb dk
          go_wp2_with fail
          refine J.out.mono ?_
          rintro e w5 ⟨v5, o, rfl, tc, fl, b5⟩
          clear J d0 d1 d2 d3 d4
          cases o with
          | none =>
            have VN : Hid (Vs Q W w0 gv gf (.slice sa ns sc) (.slice fa nf fc) (.slice ka nk kc) (.slice ar nr cr) p ks _ w5) := HV.out.next b5 (by decide) (fun e => by cases e) (fun _ => tc) (fun e => by cases e) (fun e => by cases e)
            obtain rfl : v5 = .nilIface := fl.1
            clear HV
            go_wp2_with fail
            go_roundw
            case rel => exact ⟨2, by decide, rfl, VN⟩
            case measure => simp [intOf]
          | some y =>
            have HO : Hid (Vo p ks (some y)) := .inr (.inr ⟨HMO.out.1, HMO.out.2, none, r1, .inr ⟨rfl, some y, tc, .inl ⟨y, rfl, rfl⟩⟩⟩)
            obtain ⟨ya, ye⟩ := y
            obtain ⟨⟨gy, rfl, ky⟩, hgy⟩ := fl
            have F5 : Hid (FltN W.heap.size w5 (.iface 57 (.pointer (some ⟨gy, 0, none⟩))) (some (ya, ye))) := FltN.mono ⟨⟨gy, rfl, ky⟩, hgy⟩ HV.out.below.size
            have B5 := hide (below_on HV.out.below b5)
            clear ky hgy
            go_wp2_with fail
            go_ret
            first | exact ⟨_, _, rfl, HO.out, F5.out, B5.out⟩ | exact ⟨_, rfl, _, HO.out, F5.out, B5.out⟩
        · have r1 := HV.out.r1 (by omega)
          have r2 := HV.out.r2 (by omega)
          have J := hide (askcalls_any pb.pm (calls_there HMO.out.2 r2) (mayOk_all HMO.out.2).1)
          clear pb dk
          go_wp2_with fail
          refine J.out.mono ?_
          rintro e w5 ⟨v5, on, rfl, fst, fl, b5⟩
          clear J d0 d1 d2 d3 d4
          cases on with
          | none =>
            have VN : Hid (Vs Q W w0 gv gf (.slice sa ns sc) (.slice fa nf fc) (.slice ka nk kc) (.slice ar nr cr) p ks _ w5) := HV.out.next b5 (by decide) (fun e => by cases e) (fun e => by cases e) (fun _ => fst) (fun e => by cases e)
            obtain rfl : v5 = .nilIface := fl.1
            clear HV
            go_wp2_with fail
            go_roundw
            case rel => exact ⟨3, by decide, rfl, VN⟩
            case measure => simp [intOf]
          | some n =>
            obtain ⟨y, hy⟩ : ∃ y, y = (plOf p (p.sys.length + n), (115 : Int)) := ⟨_, rfl⟩
            change FltN _ w5 v5 (some (plOf p (p.sys.length + n), 115)) at fl
            rw [← hy] at fl
            have HO : Hid (Vo p ks (some y)) := .inr (.inr ⟨HMO.out.1, HMO.out.2, none, r1, .inr ⟨rfl, none, r2, .inr ⟨rfl, some n, fst, .inl ⟨n, rfl, by rw [hy]⟩⟩⟩⟩)
            obtain ⟨ya, ye⟩ := y
            obtain ⟨⟨gy, rfl, ky⟩, hgy⟩ := fl
            have F5 : Hid (FltN W.heap.size w5 (.iface 57 (.pointer (some ⟨gy, 0, none⟩))) (some (ya, ye))) := FltN.mono ⟨⟨gy, rfl, ky⟩, hgy⟩ HV.out.below.size
            have B5 := hide (below_on HV.out.below b5)
            clear ky hgy
            go_wp2_with fail
            go_ret
            first | exact ⟨_, _, rfl, HO.out, F5.out, B5.out⟩ | exact ⟨_, rfl, _, HO.out, F5.out, B5.out⟩
        · have r1 := HV.out.r1 (by omega)
          have r2 := HV.out.r2 (by omega)
          have r3 := HV.out.r3 (by omega)
          have J := hide (askdepths_any pb (fun r hr => (ros_all HMO.out.2 r hr).2.1))
          have hsz := pb.below.size
          have hblk := pb.blk
          have hown := pb.own
          clear pb dk
          go_wp2_with fail
          refine J.out.mono ?_
          rintro e w5 ⟨v5, o, rfl, da, fl, b5, m5, hn5⟩
          clear J d0 d1 d2 d3 d4
          have BW : Hid (Below W.heap.size W w5) := B0.out.trans (b5.mono B0.out.size)
          cases o with
          | none =>
            have kf : w5.heap[gf]? = _ := (m5.2.2.2.2 gf (lt_of_block HV.out.fun') (fun e => by obtain ⟨cur, hc⟩ := own_blk2 hown e; rw [HV.out.fun'] at hc; simp at hc)).trans HV.out.fun'
            have VN : Hid (Vs Q W w0 gv gf (.slice sa ns sc) (.slice fa nf fc) (.slice ka nk kc) (.slice ar nr cr) p ks 4 w5) := by
              obtain ⟨L', l1, l2⟩ := hn5 rfl
              exact ⟨kf, BW.out, ⟨L', l1, fun _ => l2⟩, fun _ => r1, fun _ => r2, fun _ => r3, fun _ => da, fun e => absurd e (by omega)⟩
            obtain rfl : v5 = .nilIface := fl.1
            clear HV
            go_wp2_with fail
            go_roundw
            case rel => exact ⟨4, by decide, rfl, VN⟩
            case measure => simp [intOf]
          | some y =>
            have HO : Hid (Vo p ks (some y)) := .inr (.inr ⟨HMO.out.1, HMO.out.2, none, r1, .inr ⟨rfl, none, r2, .inr ⟨rfl, none, r3, .inr ⟨rfl, some y, da, .inl ⟨y, rfl, rfl⟩⟩⟩⟩⟩)
            obtain ⟨ya, ye⟩ := y
            obtain ⟨⟨gy, rfl, ky⟩, hgy⟩ := fl
            have F5 : Hid (FltN W.heap.size w5 (.iface 57 (.pointer (some ⟨gy, 0, none⟩))) (some (ya, ye))) := FltN.mono ⟨⟨gy, rfl, ky⟩, hgy⟩ B0.out.size
            have B5 := hide (BW.out)
            clear ky hgy
            go_wp2_with fail
            go_ret
            first | exact ⟨_, _, rfl, HO.out, F5.out, B5.out⟩ | exact ⟨_, rfl, _, HO.out, F5.out, B5.out⟩
        · have r1 := HV.out.r1 (by omega)
          have r2 := HV.out.r2 (by omega)
          have r3 := HV.out.r3 (by omega)
          have r4 := HV.out.r4 (by omega)
          have J := hide (askrounds_any pb (fun r hr => (ros_all HMO.out.2 r hr).2.1) (dk (by omega)))
          clear pb dk
          go_wp2_with fail
          refine J.out.mono ?_
          rintro e w5 ⟨v5, o, rfl, rn, fl, b5⟩
          clear J d0 d1 d2 d3 d4
          cases o with
          | none =>
            have VN : Hid (Vs Q W w0 gv gf (.slice sa ns sc) (.slice fa nf fc) (.slice ka nk kc) (.slice ar nr cr) p ks _ w5) := HV.out.next b5 (by decide) (fun e => by cases e) (fun e => by cases e) (fun e => by cases e) (fun _ => rn)
            obtain rfl : v5 = .nilIface := fl.1
            clear HV
            go_wp2_with fail
            go_roundw
            case rel => exact ⟨5, by decide, rfl, VN⟩
            case measure => simp [intOf]
          | some y =>
            have HO : Hid (Vo p ks (some y)) := .inr (.inr ⟨HMO.out.1, HMO.out.2, none, r1, .inr ⟨rfl, none, r2, .inr ⟨rfl, none, r3, .inr ⟨rfl, none, r4, .inr ⟨rfl, rn⟩⟩⟩⟩⟩)
            obtain ⟨ya, ye⟩ := y
            obtain ⟨⟨gy, rfl, ky⟩, hgy⟩ := fl
            have F5 : Hid (FltN W.heap.size w5 (.iface 57 (.pointer (some ⟨gy, 0, none⟩))) (some (ya, ye))) := FltN.mono ⟨⟨gy, rfl, ky⟩, hgy⟩ HV.out.below.size
            have B5 := hide (below_on HV.out.below b5)
            clear ky hgy
            go_wp2_with fail
            go_ret
            first | exact ⟨_, _, rfl, HO.out, F5.out, B5.out⟩ | exact ⟨_, rfl, _, HO.out, F5.out, B5.out⟩
        · have HO : Hid (Vo p ks none) := .inr (.inr ⟨HMO.out.1, HMO.out.2, none, HV.out.r1 (by omega), .inr ⟨rfl, none, HV.out.r2 (by omega), .inr ⟨rfl, none, HV.out.r3 (by omega), .inr ⟨rfl, none, HV.out.r4 (by omega), .inr ⟨rfl, HV.out.r5 (by omega)⟩⟩⟩⟩⟩)
          have BF := hide HV.out.below
          clear HV pb dk d0 d1 d2 d3 d4
          go_wp2_with fail
          go_ret
          first | exact ⟨_, _, rfl, HO.out, FltN.none, BF.out⟩ | exact ⟨_, rfl, _, HO.out, FltN.none, BF.out⟩
    · rw [if_neg hm] at he
      subst he
      have HO : Hid (Vo p ks (some (0, 130))) := .inr (.inl ⟨HM.out, by simpa using hm, rfl⟩)
      clear hm
      go_wp2_with fail
      refine (JF.out _ _ _).mono ?_
      rintro e w5 ⟨v5, rfl, f5, b5⟩
      have F5 := hide (f5.mono B3.out.size)
      have B5 := hide (below_on B3.out b5)
      clear f5 b5
      go_wp2_with fail
      go_ret
      first | exact ⟨_, _, rfl, HO.out, F5.out, B5.out⟩ | exact ⟨_, rfl, _, HO.out, F5.out, B5.out⟩
theorem verify_any {Q : Nat → Prop} {W : World} {vs vf vk : Value} {p : Pg} {ks : List Kind} (h : Pgm Q W vs vf p) (hk : Kr W vk ks) (ht : Tb W) : Calls Tryz.prog 10 #[.agg #[vs, vf], vk] W fun e w' => ∃ v o, e = .returned v ∧ Vo p ks o ∧ Flt w' v o ∧ Below W.heap.size W w' := (verifyN_any h hk ht).mono fun _ _ ⟨v, o, h1, h2, h3, h4⟩ => ⟨v, o, h1, h2, h3.1, h4⟩
end Go.Proofs.YtfkhhplcogedmaaGreatDoor
