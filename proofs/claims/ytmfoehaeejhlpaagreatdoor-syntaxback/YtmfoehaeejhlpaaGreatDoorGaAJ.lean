import Derived.Test.YtmfoehaeejhlpaaGreatDoorGaAI
/-
  The reader: primary.
-/
namespace Go.Proofs.YtmfoehaeejhlpaaGreatDoor
open Go.RowKit Yn
set_option maxRecDepth 100000
theorem builtIn_not_end {s : S} (h : isBuiltIn (hd s).t = true) : (hd s).k ≠ 0 ∨ (hd s).t ≠ bs [] := by
  right
  intro e
  rw [e] at h
  exact absurd h (by decide)
set_option maxHeartbeats 8000000 in
theorem primary_step (hP : Pz) {n : Nat} (hc : Cc n) (ha : Ca n) : Cp (n + 1) := by
  intro W B k ws s hR hne
  obtain ⟨r, hr⟩ : ∃ r, r = primary ws (n + 1) s := ⟨_, rfl⟩
  rw [← hr] at hne ⊢
  rw [primary] at hr
  have HC := hide hc
  have HA := hide ha
  have HP := hide hP
  have hk0 := hR.lt
  have f1 := fld1
  have f0 := fld0
  have H := hide hR
  have M0 := hide (Mv.refl W (fun j => j = k))
  have HNE := hide hne
  have HE := hide hr
  clear hc ha hP hR hne hr
  go_enter Tryz.func214, Tryz.ntmps214
  go_wp2_with fail
  refine (isAt_any H.out cOpen).mono ?_
  rintro e w1 ⟨rfl, hb⟩
  have R1 := hide (H.out.later hb)
  have M1 := hide (M0.out.later hb)
  clear hb
  clear H M0
  cases b : isAt s cOpen with
  | true =>
    have he := HE.out
    rw [if_pos b] at he
    have HF1 := hide he
    clear he HE
    go_wp2_with fail
    have JJ := hide (paren_step HC.out R1.out HF1.out HNE.out)
    obtain ⟨rr, hrr⟩ : ∃ rr, rr = r := ⟨_, rfl⟩
    refine JJ.out.mono ?_
    intro e w9 ho
    cases hx : r with
    | out => exact absurd hx HNE.out
    | no a er =>
      rw [hx] at ho
      have hp2 := Pn.from ho M1.out
      obtain ⟨q, hq1, -⟩ := ho
      subst hq1
      subst hx
      exact ⟨rfl, hp2⟩
    | ok x sx =>
      rw [hx] at ho
      obtain ⟨v, rfl, ht, hr9, hm9⟩ := ho
      obtain ⟨g9, rfl⟩ := Nd.ptr ht
      have T9 : Hid (Nd (fun q => W.heap.size ≤ q) w9 x (.pointer (some ⟨g9, 0, none⟩))) := Nd.mono (fun q (hq : w1.heap.size ≤ q) => by have := M1.out.size; show W.heap.size ≤ q; omega) _ _ ht
      have R9 := hide hr9
      have M9 := hide (M1.out.trans hm9 (fun _ _ e => e))
      have HX := hide hx
      clear ht hr9 hm9 hx JJ hrr
      go_wp2_with fail
      go_ret
      have hx := HX.out
      subst hx
      exact ⟨_, rfl, T9.out, R9.out, M9.out⟩
  | false =>
    have he := HE.out
    rw [if_neg (by rw [b]; decide)] at he
    have HF2 := hide he
    clear he HE
    clear b
    go_wp2_with fail
    have JN := hide (now_any R1.out)
    unfold tokV at JN
    refine (JN.out).mono ?_
    rintro e w2 ⟨rfl, hb⟩
    have R2 := hide (R1.out.later hb)
    have M2 := hide (M1.out.later hb)
    clear hb
    clear R1 M1
    clear JN
    by_cases b : (hd s).k = 2
    · have t1 : (((hd s).k : Int) == 2) = true := by rw [b]; rfl
      have he := HF2.out
      rw [if_pos b] at he
      have HF3 := hide he
      clear he HF2
      have BB := hide b
      clear b
      go_wp2_with fail
      have er := HF3.out
      have HNM := hide (number_any HP.out R2.out BB.out)
      rw [← er] at HNM
      clear er
      have JJ := hide (HNM.out)
      obtain ⟨rr, hrr⟩ : ∃ rr, rr = r := ⟨_, rfl⟩
      refine JJ.out.mono ?_
      intro e w9 ho
      cases hx : r with
      | out => exact absurd hx HNE.out
      | no a er =>
        rw [hx] at ho
        have hp2 := Pn.from ho M2.out
        obtain ⟨q, hq1, -⟩ := ho
        subst hq1
        subst hx
        exact ⟨rfl, hp2⟩
      | ok x sx =>
        rw [hx] at ho
        obtain ⟨v, rfl, ht, hr9, hm9⟩ := ho
        obtain ⟨g9, rfl⟩ := Nd.ptr ht
        have T9 : Hid (Nd (fun q => W.heap.size ≤ q) w9 x (.pointer (some ⟨g9, 0, none⟩))) := Nd.mono (fun q (hq : w2.heap.size ≤ q) => by have := M2.out.size; show W.heap.size ≤ q; omega) _ _ ht
        have R9 := hide hr9
        have M9 := hide (M2.out.trans hm9 (fun _ _ e => e))
        have HX := hide hx
        clear ht hr9 hm9 hx JJ hrr
        go_wp2_with fail
        go_ret
        have hx := HX.out
        subst hx
        exact ⟨_, rfl, T9.out, R9.out, M9.out⟩
    · have t1 : (((hd s).k : Int) == 2) = false := by rw [beq_eq_false_iff_ne]; omega
      have he := HF2.out
      rw [if_neg b] at he
      have HF4 := hide he
      clear he HF2
      clear b
      go_wp2_with fail
      clear t1
      have JT := hide (isAt_any R2.out wTick)
      cases b : isAt s wTick with
      | true =>
        rw [b] at JT
        have HBB := hide b
        rw [b] at HF4
        have he := HF4.out
        simp only [Bool.true_or, if_true] at he
        have HG := hide he
        clear he b HF4
        refine (JT.out).mono ?_
        rintro e w3 ⟨rfl, hb⟩
        have R3 := hide (R2.out.later hb)
        have M3 := hide (M2.out.later hb)
        clear hb
        clear R2 M2
        clear JT
        have hne : (hd s).k ≠ 0 ∨ (hd s).t ≠ bs [] := isAt_not_end (by decide) HBB.out
        go_wp2_with fail
        refine (node_any R3.out 38).mono ?_
        rintro e w4 ⟨g, rfl, hg, hg1, hb⟩
        have R4 := hide (R3.out.later hb)
        have M4 := hide (M3.out.later hb)
        have N4 := hide (Np.fresh (lo := W.heap.size) (by have := M3.out.size; omega) hg1)
        clear hb hg1
        clear R3 M3
        go_wp2_with fail
        have JN := hide (next_any R4.out hne)
        unfold tokV at JN
        refine (JN.out).mono ?_
        rintro e w5 ⟨rfl, hR, hm⟩
        have R5 := hide hR
        have M5 := hide (M4.out.trans hm (fun _ _ e => e))
        have N5 := hide (N4.out.mvk hm hk0)
        clear hR hm
        clear R4 M4 N4
        clear JN
        have c6 := N5.out.cells.1.2.1
        have f6 := N5.out.cells.2 1
        have ns := N5.out.setText (hd s).t
        have R6 := hide (R5.out.mv ns.2 (fun j (e : j = g) => by have := R5.out.1; have := N5.out.1; omega))
        have M6 := hide (M5.out.trans ns.2 (fun j hj (e : j = g) => by have := N5.out.1; omega))
        have N6 := hide ns.1
        obtain ⟨w6, hw⟩ : ∃ X, X = w5.setCell ⟨g, 1, none⟩ (.string (hd s).t) := ⟨_, rfl⟩
        rw [← hw] at R6 M6 N6
        have HW6 := hide hw
        clear hw ns
        clear R5 M5 N5
        go_wp2_with fail
        rw [← HW6.out]
        clear HW6 c6 f6
        go_ret
        have ER := HG.out
        subst ER
        exact ⟨_, rfl, N6.out.done, R6.out, M6.out⟩
      | false =>
        rw [b] at JT
        rw [b] at HF4
        have he := HF4.out
        simp only [Bool.false_or] at he
        have HG := hide he
        clear he b HF4
        refine (JT.out).mono ?_
        rintro e w3 ⟨rfl, hb⟩
        have R3 := hide (R2.out.later hb)
        have M3 := hide (M2.out.later hb)
        clear hb
        clear R2 M2
        clear JT
        go_wp2_with fail
        have JT := hide (isAt_any R3.out wMe)
        cases b : isAt s wMe with
        | true =>
          rw [b] at JT
          have HBB := hide b
          have he := HG.out
          rw [if_pos b] at he
          have HF5 := hide he
          clear he HG
          clear b
          refine (JT.out).mono ?_
          rintro e w4 ⟨rfl, hb⟩
          have R4 := hide (R3.out.later hb)
          have M4 := hide (M3.out.later hb)
          clear hb
          clear R3 M3
          clear JT
          have hne : (hd s).k ≠ 0 ∨ (hd s).t ≠ bs [] := isAt_not_end (by decide) HBB.out
          go_wp2_with fail
          refine (node_any R4.out 38).mono ?_
          rintro e w5 ⟨g, rfl, hg, hg1, hb⟩
          have R5 := hide (R4.out.later hb)
          have M5 := hide (M4.out.later hb)
          have N5 := hide (Np.fresh (lo := W.heap.size) (by have := M4.out.size; omega) hg1)
          clear hb hg1
          clear R4 M4
          go_wp2_with fail
          have JN := hide (next_any R5.out hne)
          unfold tokV at JN
          refine (JN.out).mono ?_
          rintro e w6 ⟨rfl, hR, hm⟩
          have R6 := hide hR
          have M6 := hide (M5.out.trans hm (fun _ _ e => e))
          have N6 := hide (N5.out.mvk hm hk0)
          clear hR hm
          clear R5 M5 N5
          clear JN
          have c7 := N6.out.cells.1.2.1
          have f7 := N6.out.cells.2 1
          have ns := N6.out.setText (hd s).t
          have R7 := hide (R6.out.mv ns.2 (fun j (e : j = g) => by have := R6.out.1; have := N6.out.1; omega))
          have M7 := hide (M6.out.trans ns.2 (fun j hj (e : j = g) => by have := N6.out.1; omega))
          have N7 := hide ns.1
          obtain ⟨w7, hw⟩ : ∃ X, X = w6.setCell ⟨g, 1, none⟩ (.string (hd s).t) := ⟨_, rfl⟩
          rw [← hw] at R7 M7 N7
          have HW7 := hide hw
          clear hw ns
          clear R6 M6 N6
          go_wp2_with fail
          rw [← HW7.out]
          clear HW7 c7 f7
          go_ret
          have ER := HF5.out
          subst ER
          exact ⟨_, rfl, N7.out.done, R7.out, M7.out⟩
        | false =>
          rw [b] at JT
          have he := HG.out
          rw [if_neg (by rw [b]; decide)] at he
          have HF6 := hide he
          clear he HG
          clear b
          refine (JT.out).mono ?_
          rintro e w4 ⟨rfl, hb⟩
          have R4 := hide (R3.out.later hb)
          have M4 := hide (M3.out.later hb)
          clear hb
          clear R3 M3
          clear JT
          go_wp2_with fail
          have JT := hide (isAt_any R4.out wHas)
          cases b : isAt s wHas with
          | true =>
            rw [b] at JT
            have he := HF6.out
            rw [if_pos b] at he
            have HF7 := hide he
            clear he HF6
            clear b
            refine (JT.out).mono ?_
            rintro e w5 ⟨rfl, hb⟩
            have R5 := hide (R4.out.later hb)
            have M5 := hide (M4.out.later hb)
            clear hb
            clear R4 M4
            clear JT
            go_wp2_with fail
            have JJ := hide (has_any R5.out HF7.out HNE.out)
            obtain ⟨rr, hrr⟩ : ∃ rr, rr = r := ⟨_, rfl⟩
            refine JJ.out.mono ?_
            intro e w9 ho
            cases hx : r with
            | out => exact absurd hx HNE.out
            | no a er =>
              rw [hx] at ho
              have hp2 := Pn.from ho M5.out
              obtain ⟨q, hq1, -⟩ := ho
              subst hq1
              subst hx
              exact ⟨rfl, hp2⟩
            | ok x sx =>
              rw [hx] at ho
              obtain ⟨v, rfl, ht, hr9, hm9⟩ := ho
              obtain ⟨g9, rfl⟩ := Nd.ptr ht
              have T9 : Hid (Nd (fun q => W.heap.size ≤ q) w9 x (.pointer (some ⟨g9, 0, none⟩))) := Nd.mono (fun q (hq : w5.heap.size ≤ q) => by have := M5.out.size; show W.heap.size ≤ q; omega) _ _ ht
              have R9 := hide hr9
              have M9 := hide (M5.out.trans hm9 (fun _ _ e => e))
              have HX := hide hx
              clear ht hr9 hm9 hx JJ hrr
              go_wp2_with fail
              go_ret
              have hx := HX.out
              subst hx
              exact ⟨_, rfl, T9.out, R9.out, M9.out⟩
          | false =>
            rw [b] at JT
            have he := HF6.out
            rw [if_neg (by rw [b]; decide)] at he
            have HF8 := hide he
            clear he HF6
            clear b
            refine (JT.out).mono ?_
            rintro e w5 ⟨rfl, hb⟩
            have R5 := hide (R4.out.later hb)
            have M5 := hide (M4.out.later hb)
            clear hb
            clear R4 M4
            clear JT
            go_wp2_with fail
            have JN := hide (now_any R5.out)
            unfold tokV at JN
            refine (JN.out).mono ?_
            rintro e w6 ⟨rfl, hb⟩
            have R6 := hide (R5.out.later hb)
            have M6 := hide (M5.out.later hb)
            clear hb
            clear R5 M5
            clear JN
            go_wp2_with fail
            have JT := hide (builtIn_any (hd s).t w6)
            cases b : isBuiltIn (hd s).t with
            | true =>
              rw [b] at JT
              have hne := builtIn_not_end b
              have he := HF8.out
              rw [if_pos b] at he
              have HF9 := hide he
              clear he HF8
              clear b
              refine JT.out.mono ?_
              rintro e w' ⟨rfl, hw'⟩
              rw [hw']
              clear hw' w' JT
              go_wp2_with fail
              refine (node_any R6.out 36).mono ?_
              rintro e w7 ⟨g, rfl, hg, hg1, hb⟩
              have R7 := hide (R6.out.later hb)
              have M7 := hide (M6.out.later hb)
              have N7 := hide (Np.fresh (lo := W.heap.size) (by have := M6.out.size; omega) hg1)
              clear hb hg1
              clear R6 M6
              go_wp2_with fail
              have JN := hide (next_any R7.out hne)
              unfold tokV at JN
              refine (JN.out).mono ?_
              rintro e w8 ⟨rfl, hR, hm⟩
              have R8 := hide hR
              have M8 := hide (M7.out.trans hm (fun _ _ e => e))
              have N8 := hide (N7.out.mvk hm hk0)
              clear hR hm
              clear R7 M7 N7
              clear JN
              have c9 := N8.out.cells.1.2.1
              have f9 := N8.out.cells.2 1
              have ns := N8.out.setText (hd s).t
              have R9 := hide (R8.out.mv ns.2 (fun j (e : j = g) => by have := R8.out.1; have := N8.out.1; omega))
              have M9 := hide (M8.out.trans ns.2 (fun j hj (e : j = g) => by have := N8.out.1; omega))
              have N9 := hide ns.1
              obtain ⟨w9, hw⟩ : ∃ X, X = w8.setCell ⟨g, 1, none⟩ (.string (hd s).t) := ⟨_, rfl⟩
              rw [← hw] at R9 M9 N9
              have HW9 := hide hw
              clear hw ns
              clear R8 M8 N8
              go_wp2_with fail
              rw [← HW9.out]
              clear HW9 c9 f9
              refine calls_sub HF9.out HNE.out M9.out (fun h => HA.out _ _ _ _ _ R9.out h) (by (intro a er e w' hE hp; have hp2 := hp; obtain ⟨q, hq1, -⟩ := hp; subst hq1; subst hE; exact ⟨rfl, hp2⟩)) ?_
              intro x10 s10 v10 w10 hq hr hv hR hm hM
              have E10 := hide hr
              have R10 := hide hR
              have M10 := hide hM
              have hsz10 : w9.heap.size ≤ w10.heap.size := hm.size
              have N10 := hide (N9.out.mvk hm hk0)
              have hgl10 := N9.out.lt
              have T10 := hide hv
              clear hq hr hR hm hM hv
              clear HF9 R9 M9 N9
              obtain ⟨ps11, ho, hv, hl⟩ := T10.out
              obtain ⟨ao11, cp11, rfl⟩ := own_len ho
              obtain ⟨ao8, c8, ps8, nv⟩ := N10.out.nv
              have c11 := nv.cell
              have f11 := N10.out.cells.2 3
              clear nv
              have ns := N10.out.setList ho (fun q e => by have := hv q e; have := N10.out.1; omega) (Nds.mono (fun q hq => ⟨by have := hq.1; have := N10.out.1; omega, by have := hq.1; omega, hq.2⟩) _ _ hl)
              have R11 := hide (R10.out.mv ns.2 (fun j (e : j = g) => by have := R10.out.1; have := N10.out.1; omega))
              have M11 := hide (M10.out.trans ns.2 (fun j hj (e : j = g) => by have := N10.out.1; omega))
              have N11 := hide ns.1
              obtain ⟨w11, hw⟩ : ∃ X, X = w10.setCell ⟨g, 3, none⟩ (.slice ao11 x10.length cp11) := ⟨_, rfl⟩
              rw [← hw] at R11 M11 N11
              have HW11 := hide hw
              clear hw ns ho hv hl
              clear R10 M10 N10
              go_wp2_with fail
              rw [← HW11.out]
              clear HW11 c11 f11
              go_ret
              have ER := E10.out
              subst ER
              exact ⟨_, rfl, N11.out.done, R11.out, M11.out⟩
            | false =>
              rw [b] at JT
              have he := HF8.out
              rw [if_neg (by rw [b]; decide)] at he
              have HF10 := hide he
              clear he HF8
              clear b
              refine JT.out.mono ?_
              rintro e w' ⟨rfl, hw'⟩
              rw [hw']
              clear hw' w' JT
              go_wp2_with fail
              have JJ := hide (named_any HA.out R6.out (show r = namedS ws n s from HF10.out) HNE.out)
              obtain ⟨rr, hrr⟩ : ∃ rr, rr = r := ⟨_, rfl⟩
              refine JJ.out.mono ?_
              intro e w9 ho
              cases hx : r with
              | out => exact absurd hx HNE.out
              | no a er =>
                rw [hx] at ho
                have hp2 := Pn.from ho M6.out
                obtain ⟨q, hq1, -⟩ := ho
                subst hq1
                subst hx
                exact ⟨rfl, hp2⟩
              | ok x sx =>
                rw [hx] at ho
                obtain ⟨v, rfl, ht, hr9, hm9⟩ := ho
                obtain ⟨g9, rfl⟩ := Nd.ptr ht
                have T9 : Hid (Nd (fun q => W.heap.size ≤ q) w9 x (.pointer (some ⟨g9, 0, none⟩))) := Nd.mono (fun q (hq : w6.heap.size ≤ q) => by have := M6.out.size; show W.heap.size ≤ q; omega) _ _ ht
                have R9 := hide hr9
                have M9 := hide (M6.out.trans hm9 (fun _ _ e => e))
                have HX := hide hx
                clear ht hr9 hm9 hx JJ hrr
                go_wp2_with fail
                go_ret
                have hx := HX.out
                subst hx
                exact ⟨_, rfl, T9.out, R9.out, M9.out⟩
end Go.Proofs.YtmfoehaeejhlpaaGreatDoor

/-
  The reader: expressions, whole.
-/
namespace Go.Proofs.YtmfoehaeejhlpaaGreatDoor
open Go.RowKit Yn
set_option maxRecDepth 100000
theorem expr_all (hP : Pz) : ∀ n, n ≤ 1000000 → ∀ m, m ≤ n → Cc m ∧ Cb m ∧ Cu m ∧ Cp m ∧ Ca m
  | 0, _, m, hm => by
    obtain rfl : m = 0 := by omega
    refine ⟨fun W B k ws s _ h => absurd (by rw [Yn.cond]) h, fun W B k ws s m _ _ _ h => absurd (by rw [binary]) h, fun W B k ws s _ h => absurd (by rw [unary]) h, fun W B k ws s _ h => absurd (by rw [primary]) h, fun W B k ws s _ h => absurd (by rw [args]) h⟩
  | n + 1, hn, m, hm => by
    have ih := expr_all hP n (by omega)
    by_cases h : m ≤ n
    · exact ih m h
    · obtain rfl : m = n + 1 := by omega
      obtain ⟨h1, h2, h3, h4, h5⟩ := ih n (Nat.le_refl _)
      exact ⟨cond_step h1 h2, binary_step h3 (fun m hm => (ih m hm).2.1), unary_step h3 h4, primary_step hP h1 h5, args_step (by omega) (fun m hm => (ih m hm).1)⟩
theorem cond_all (hP : Pz) {n : Nat} (hn : n ≤ 1000000) : Cc n := (expr_all hP n hn n (Nat.le_refl _)).1
end Go.Proofs.YtmfoehaeejhlpaaGreatDoor

/-
  The reader: fields.
-/
namespace Go.Proofs.YtmfoehaeejhlpaaGreatDoor
open Go.RowKit Yn
set_option maxRecDepth 100000
set_option maxHeartbeats 8000000 in
theorem field_any {n : Nat} (hc : Cc n) {W : World} {B k : Nat} {ws : List ByteArray} {s : S} (hR : Rd W B k ws s) {r : R Tree} (hr : r = Yn.field ws n s) (hne : r ≠ .out) : Calls Tryz.prog 210 #[.pointer (some ⟨k, 0, none⟩)] W (Out (isTree W) W B k ws r) := by
  obtain ⟨i0, hi0, hz0, hz1, hz2⟩ := info_parts infoN
  have hk0 := hR.lt
  have H := hide hR
  have M0 := hide (Mv.refl W (fun j => j = k))
  have HNE := hide hne
  have HE := hide hr
  unfold Yn.field at HE
  have HC := hide hc
  clear hc
  clear hR hne hr
  go_enter Tryz.func210, Tryz.ntmps210
  go_wp2_with fail
  refine (node_any H.out 24).mono ?_
  rintro e w1 ⟨g, rfl, hg, hg1, hb⟩
  have R1 := hide (H.out.later hb)
  have M1 := hide (M0.out.later hb)
  have N1 := hide (Np.fresh (lo := W.heap.size) (by have := M0.out.size; omega) hg1)
  clear hb hg1
  clear H M0
  go_wp2_with fail
  refine calls_sub HE.out HNE.out M1.out (fun h => name_any R1.out) (by (intro a er e w' hE hp; have hp2 := hp; obtain ⟨q, hq1, -⟩ := hp; subst hq1; subst hE; exact ⟨rfl, hp2⟩)) ?_
  intro x2 s2 v2 w2 hq hr hv hR hm hM
  have E2 := hide hr
  have R2 := hide hR
  have M2 := hide hM
  have hsz2 : w1.heap.size ≤ w2.heap.size := hm.size
  have N2 := hide (N1.out.mvk hm hk0)
  have hgl2 := N1.out.lt
  subst hv
  clear hq hr hR hm hM
  clear HE R1 M1 N1
  have c3 := N2.out.cells.1.2.1
  have f3 := N2.out.cells.2 1
  have ns := N2.out.setText x2
  have R3 := hide (R2.out.mv ns.2 (fun j (e : j = g) => by have := R2.out.1; have := N2.out.1; omega))
  have M3 := hide (M2.out.trans ns.2 (fun j hj (e : j = g) => by have := N2.out.1; omega))
  have N3 := hide ns.1
  obtain ⟨w3, hw⟩ : ∃ X, X = w2.setCell ⟨g, 1, none⟩ (.string x2) := ⟨_, rfl⟩
  rw [← hw] at R3 M3 N3
  have HW3 := hide hw
  clear hw ns
  clear R2 M2 N2
  go_wp2_with fail
  rw [← HW3.out]
  clear HW3 c3 f3
  refine calls_sub E2.out HNE.out M3.out (fun h => take_any R3.out cCol (by decide)) (by (intro a er e w' hE hp; have hp2 := hp; obtain ⟨q, hq1, -⟩ := hp; subst hq1; subst hE; exact ⟨rfl, hp2⟩)) ?_
  intro x4 s4 v4 w4 hq hr hv hR hm hM
  have E4 := hide hr
  have R4 := hide hR
  have M4 := hide hM
  have hsz4 : w3.heap.size ≤ w4.heap.size := hm.size
  have N4 := hide (N3.out.mvk hm hk0)
  have hgl4 := N3.out.lt
  subst hv
  unfold tokV
  clear hq hr hR hm hM
  clear E2 R3 M3 N3
  obtain ⟨l, hl0⟩ : ∃ l, l = ([] : List Tree) := ⟨_, rfl⟩
  rw [← hl0] at N4
  have hl : l.length ≤ 5 := by rw [hl0]; simp
  have HL0 := hide hl0
  clear hl0
  have nd := N4.out.later (below_drew w4)
  obtain ⟨ao, c7, ps7, nv⟩ := nd.nv
  have NV5 := hide nv
  have C5 := nv.cell
  clear nd nv
  go_upto_region 4 with fail
  refine wp_region_late (J := fun i => i != 11) (S := fun Wq => Wq.cell? ⟨g, 3, none⟩ = some (.slice ao l.length c7)) (by kernel_rfl) C5 (fun hHeld => ?_)
  refine' wpAnyJ_takeW (i := 0) (oi := { dst := some 13, op := Op.move (Operand.tmp 3), type := 23, pos := "statement.go:124", after := #[], guard := none }) (v := _) rfl (by kernel_rfl) (by kernel_rfl) (by kernel_rfl) (fun _ _ _ h => h) (Or.inl ⟨by rfl, ?hyFa1⟩) ?reFa1
  case hyFa1 => (intro W hSw; (try dsimp only at hSw); go_simp; try with_reducible rfl)
  try simp only [Act.put, List.setIfInBounds_toArray, List.set_cons_zero, List.set_cons_succ]
  refine' wpAnyJ_takeW (i := 1) (oi := { dst := some 14, op := Op.move (Operand.tmp 3), type := 23, pos := "statement.go:124", after := #[], guard := none }) (v := _) rfl (by kernel_rfl) (by kernel_rfl) (by kernel_rfl) (fun _ _ _ h => h) (Or.inl ⟨by rfl, ?hyFa2⟩) ?reFa2
  case hyFa2 => (intro W hSw; (try dsimp only at hSw); go_simp; try with_reducible rfl)
  try simp only [Act.put, List.setIfInBounds_toArray, List.set_cons_zero, List.set_cons_succ]
  refine' wpAnyJ_takeW (i := 2) (oi := { dst := some 15, op := Op.nilCheck (Operand.tmp 14), type := 0, pos := "statement.go:124", after := #[{ on := 1, ground := Ground.data }], guard := none }) (v := _) rfl (by kernel_rfl) (by kernel_rfl) (by kernel_rfl) (fun _ _ _ h => h) (Or.inl ⟨by rfl, ?hyFa3⟩) ?reFa3
  case hyFa3 => (intro W hSw; (try dsimp only at hSw); go_simp; try with_reducible rfl)
  try simp only [Act.put, List.setIfInBounds_toArray, List.set_cons_zero, List.set_cons_succ]
  refine' wpAnyJ_takeW (i := 3) (oi := { dst := some 16, op := Op.fieldAddr 51 (Operand.tmp 15) 3, type := 0, pos := "statement.go:124", after := #[{ on := 2, ground := Ground.data }], guard := none }) (v := _) rfl (by kernel_rfl) (by kernel_rfl) (by kernel_rfl) (fun _ _ _ h => h) (Or.inl ⟨by rfl, ?hyFa4⟩) ?reFa4
  case hyFa4 => (intro W hSw; (try dsimp only at hSw); go_simp; try with_reducible rfl)
  try simp only [Act.put, List.setIfInBounds_toArray, List.set_cons_zero, List.set_cons_succ]
  refine' wpAnyJ_take (i := 4) (oi := { dst := some 17, op := Op.load 49 (Operand.tmp 16), type := 49, pos := "statement.go:124", after := #[{ on := 3, ground := Ground.data }], guard := none }) (v := _) rfl (by kernel_rfl) (by kernel_rfl) (by kernel_rfl) (by kernel_rfl) (fun _ _ _ h => h) (Or.inl ⟨by rfl, ?hyFa5⟩) (by assumption) ?reFa5
  case hyFa5 => (intro W hSw; (try dsimp only at hSw); go_simp; try with_reducible rfl)
  try simp only [Act.put, List.setIfInBounds_toArray, List.set_cons_zero, List.set_cons_succ]
  refine' wpAnyJ_takeW (i := 5) (oi := { dst := some 18, op := Op.move (Operand.tmp 0), type := 56, pos := "statement.go:124", after := #[], guard := none }) (v := _) rfl (by kernel_rfl) (by kernel_rfl) (by kernel_rfl) (fun _ _ _ h => h) (Or.inl ⟨by rfl, ?hyFa6⟩) ?reFa6
  case hyFa6 => (intro W hSw; (try dsimp only at hSw); go_simp; try with_reducible rfl)
  try simp only [Act.put, List.setIfInBounds_toArray, List.set_cons_zero, List.set_cons_succ]
  refine wpAnyJ_ready (rs := [6]) (by kernel_rfl) (by simp) ?_
  refine AllReadyJ.cons (o := { dst := some 19, op := Op.call { callee := Callee.value (Operand.func 201), args := #[Operand.tmp 18], argTypes := #[56] }, type := 23, pos := "statement.go:124", after := #[{ on := 5, ground := Ground.data }], guard := none }) rfl (fun K hK => ?_) AllReadyJ.nil
  go_simp
  go_at_call 201
  refine calls_sub E4.out HNE.out (M4.out.later (below_drew w4)) (fun h => HC.out _ _ _ _ _ (R4.out.later (below_drew w4)) h) (by (intro a er e w' hE hp; have hp2 := hp; obtain ⟨q, hq1, -⟩ := hp; subst hq1; subst hE; exact ⟨rfl, hp2⟩)) ?_
  intro x6 s6 v6 w6 hq hr hv hR hm hM
  have E6 := hide hr
  have R6 := hide hR
  have M6 := hide hM
  have hsz6 : w4.heap.size ≤ w6.heap.size := hm.size
  obtain ⟨g6, rfl⟩ := Nd.ptr hv
  have T6 := hide (Nd.tight _ _ hv)
  have NV6 := hide (NV5.out.mvk hm hk0)
  clear hq hr hR hm hM hv
  clear E4 R4 M4
  have C6 := NV6.out.cell
  have CB := (NV6.out.later (below_alloc w6 (.cells #[.pointer (some ⟨g6, 0, none⟩)] 23))).cell
  have hcp := NV6.out.cap
  clear hHeld
  go_simp
  refine hK.out _ _ (fun _ _ => C6) ?_
  clear hK K
  try simp only [Act.put, List.setIfInBounds_toArray, List.set_cons_zero, List.set_cons_succ]
  refine wpAnyJ_ready (rs := [7]) (by kernel_rfl) (by simp) ?_
  refine AllReadyJ.cons (o := { dst := some 20, op := Op.buildSlice 49 1 #[(0, Operand.tmp 19)], type := 49, pos := "statement.go:124", after := #[{ on := 6, ground := Ground.data }], guard := none }) rfl (fun K hK => ?_) AllReadyJ.nil
  go_simp
  refine hK.out _ _ (fun _ _ => CB) ?_
  clear hK K
  try simp only [Act.put, List.setIfInBounds_toArray, List.set_cons_zero, List.set_cons_succ]
  refine wpAnyJ_ready (rs := [8]) (by kernel_rfl) (by simp) ?_
  refine AllReadyJ.cons (o := { dst := some 21, op := Op.call { callee := Callee.builtin Builtin.append, args := #[Operand.tmp 17, Operand.tmp 20], argTypes := #[49, 49] }, type := 49, pos := "statement.go:124", after := #[{ on := 4, ground := Ground.data }, { on := 7, ground := Ground.data }, { on := 6, ground := Ground.chain }], guard := none }) rfl (fun K hK => ?_) AllReadyJ.nil
  refine step_append_lies _ rfl (.tmp 17) (.tmp 20) 49 rfl 0 23 i0 (.pointer none) 1 8 und49 hi0 hz0 hz1 hz2 rfl (by decide) (.slice ao l.length c7) l.length (ps7) (by simp [Act.eval]) (NV6.out.own.alloc _) ⟨w6.heap.size, 0, none⟩ 1 1 [.pointer (some ⟨g6, 0, none⟩)] (by simp [Act.eval]) rfl (by intro j u hj; match j, hj with | 0, hj => simp at hj; subst hj; simp [Addr.add]) (by intro u hu; simp at hu; subst hu; rfl) (by omega) (by unfold maxLen; omega) (by omega) (Nat.zero_le _) _ rfl ?_
  intro g9 c9 w9 ho9 hg9 ha9 _
  have hx : Nds (fun q => W.heap.size ≤ q ∧ q ≠ g ∧ (Value.slice ao l.length c7).ownBlock ≠ some q) w6 [x6] [.pointer (some ⟨g6, 0, none⟩)] := by
    rw [Nds]
    refine ⟨_, _, rfl, Nd.mono (fun q hq => NV5.out.old (by have : w4.heap.size ≤ q := hq.1; omega)) _ _ T6.out, ?_⟩
    exact Nds.none
  have np := Nv.push NV6.out hx (by simp) ho9 hg9 ha9
  have CA := np.2.1
  have FA := np.2.2
  have N7 := hide np.1.1
  have R7 := hide (R6.out.mv np.1.2 (fun j (e : W.heap.size ≤ j) => by have := R6.out.1; omega))
  have M7 := hide (M6.out.trans np.1.2 (fun j hj (e : W.heap.size ≤ j) => by omega))
  clear np hx ho9 hg9 ha9 CB
  refine hK.out _ _ (fun _ _ => CA) ?_
  clear hK K
  try simp only [Act.put, List.setIfInBounds_toArray, List.set_cons_zero, List.set_cons_succ]
  refine' wpAnyJ_takeW (i := 9) (oi := { dst := some 22, op := Op.nilCheck (Operand.tmp 13), type := 0, pos := "statement.go:124", after := #[{ on := 0, ground := Ground.data }, { on := 0, ground := Ground.phase }, { on := 1, ground := Ground.phase }, { on := 2, ground := Ground.phase }, { on := 3, ground := Ground.phase }, { on := 4, ground := Ground.phase }, { on := 5, ground := Ground.phase }, { on := 6, ground := Ground.phase }, { on := 7, ground := Ground.phase }, { on := 8, ground := Ground.phase }], guard := none }) (v := _) rfl (by kernel_rfl) (by kernel_rfl) (by kernel_rfl) (fun _ _ _ h => h) (Or.inl ⟨by rfl, ?hyFa7⟩) ?reFa7
  case hyFa7 => (intro W hSw; (try dsimp only at hSw); go_simp; try with_reducible rfl)
  try simp only [Act.put, List.setIfInBounds_toArray, List.set_cons_zero, List.set_cons_succ]
  refine' wpAnyJ_takeW (i := 10) (oi := { dst := some 23, op := Op.fieldAddr 51 (Operand.tmp 22) 3, type := 0, pos := "statement.go:124", after := #[{ on := 9, ground := Ground.data }, { on := 0, ground := Ground.phase }, { on := 1, ground := Ground.phase }, { on := 2, ground := Ground.phase }, { on := 3, ground := Ground.phase }, { on := 4, ground := Ground.phase }, { on := 5, ground := Ground.phase }, { on := 6, ground := Ground.phase }, { on := 7, ground := Ground.phase }, { on := 8, ground := Ground.phase }], guard := none }) (v := _) rfl (by kernel_rfl) (by kernel_rfl) (by kernel_rfl) (fun _ _ _ h => h) (Or.inl ⟨by rfl, ?hyFa8⟩) ?reFa8
  case hyFa8 => (intro W hSw; (try dsimp only at hSw); go_simp; try with_reducible rfl)
  try simp only [Act.put, List.setIfInBounds_toArray, List.set_cons_zero, List.set_cons_succ]
  refine wpAnyJ_ready (rs := [11]) (by kernel_rfl) (by simp) ?_
  refine AllReadyJ.cons (o := { dst := none, op := Op.store 49 (Operand.tmp 23) (Operand.tmp 21), type := 0, pos := "statement.go:124", after := #[{ on := 10, ground := Ground.data }, { on := 8, ground := Ground.data }, { on := 8, ground := Ground.chain }, { on := 0, ground := Ground.phase }, { on := 1, ground := Ground.phase }, { on := 2, ground := Ground.phase }, { on := 3, ground := Ground.phase }, { on := 4, ground := Ground.phase }, { on := 5, ground := Ground.phase }, { on := 6, ground := Ground.phase }, { on := 7, ground := Ground.phase }, { on := 8, ground := Ground.phase }], guard := none }) rfl (fun K hK => ?_) AllReadyJ.nil
  go_simp
  refine hK.out _ _ (fun h => absurd h (by decide)) ?_
  clear hK K
  try simp only [Act.put, List.setIfInBounds_toArray, List.set_cons_zero, List.set_cons_succ]
  refine wpAnyJ_done (by kernel_rfl) ?_ _
  obtain ⟨w7, hw⟩ : ∃ X, X = w9.setCell ⟨g, 3, none⟩ (.slice (some ⟨g9, 0, none⟩) (l.length + 1) c9) := ⟨_, rfl⟩
  rw [← hw] at R7 M7 N7 ⊢
  clear hw CA FA
  clear R6 M6
  clear T6 C5 C6 NV5 NV6 N4
  go_wp2_with fail
  go_ret
  have ER := E6.out
  subst ER
  have e0 := HL0.out
  subst e0
  exact ⟨_, rfl, N7.out.done, R7.out, M7.out⟩
def Cfd (n : Nat) : Prop := ∀ (W : World) (B k : Nat) (ws : List ByteArray) (s : S), Rd W B k ws s → Yn.field ws n s ≠ .out → Calls Tryz.prog 210 #[.pointer (some ⟨k, 0, none⟩)] W (Out (isTree W) W B k ws (Yn.field ws n s))
end Go.Proofs.YtmfoehaeejhlpaaGreatDoor
