import Derived.Test.YtmfoehaeejhlpaaGreatDoorGaAE
/-
  The reader: one call after another, by what the grammar says of it.
-/
namespace Go.Proofs.YtmfoehaeejhlpaaGreatDoor
open Go.RowKit Yn
set_option maxRecDepth 100000
/-- A call that reads a piece: either the whole fails as the piece does, or it goes on. -/
theorem calls_sub {α β : Type} {P : α → Value → World → Prop} {r : R β} {sp : R α} {f : α → S → R β} {W Wc : World} {B k : Nat} {ws : List ByteArray} {fn : Nat} {args : Array Value} {Q : Ending → World → Prop}
    (hr : r = sp.bind f) (hne : r ≠ .out) (hm : Mv W Wc (fun j => j = k)) (J : sp ≠ .out → Calls Tryz.prog fn args Wc (Out P Wc B k ws sp))
    (hno : ∀ a er e w', r = .no a er → Pn W k a er e w' → Q e w')
    (hok : ∀ x s v w', sp = .ok x s → r = f x s → P x v w' → Rd w' B k ws s → Mv Wc w' (fun j => j = k) → Mv W w' (fun j => j = k) → Q (.returned v) w') : Calls Tryz.prog fn args Wc Q := by
  cases h : sp with
  | out => exact absurd (by rw [hr, h]; rfl) hne
  | no a er =>
    have J := J (by rw [h]; intro e; cases e)
    rw [h] at J
    exact J.mono (fun e w' hp => hno a er e w' (by rw [hr, h]; rfl) (Pn.from hp hm))
  | ok x s =>
    have J := J (by rw [h]; intro e; cases e)
    rw [h] at J
    refine J.mono ?_
    rintro e w' ⟨v, rfl, h1, h2, h3⟩
    exact hok x s v w' h (by rw [hr, h]; rfl) h1 h2 h3 (hm.trans h3 (fun _ _ e => e))
set_option maxHeartbeats 4000000 in
theorem paren_step {n : Nat} (hc : Cc n) {W : World} {B k : Nat} {ws : List ByteArray} {s : S} (hR : Rd W B k ws s) {r : R Tree} (hr : r = (openS cOpen s).bind fun _ s1 => (Yn.cond ws n s1).bind fun x s2 => (take cClose s2).bind fun _ s3 => .ok x (leave s3)) (hne : r ≠ .out) : Calls Tryz.prog 215 #[.pointer (some ⟨k, 0, none⟩)] W (Out (isTree W) W B k ws r) := by
  have HC := hide hc
  have H := hide hR
  have HNE := hide hne
  have HE := hide hr
  have hkW := hR.lt
  clear hc hR hne hr
  go_enter Tryz.func215, Tryz.ntmps215
  go_wp2_with fail
  refine calls_sub HE.out HNE.out (Mv.refl _ _) (fun _ => open_any H.out cOpen (by decide)) (by (intro a er e w' hE hp; have hp2 := hp; obtain ⟨q, hq1, -⟩ := hp; subst hq1; subst hE; exact ⟨rfl, hp2⟩)) ?_
  intro x1 s1 v1 w1 hq1 hr1 hv1 hR1 hm1 hM1
  subst hv1
  have E1 := hide hr1
  have D1 := hide (open_de hq1)
  have R1 := hide hR1
  have M1 := hide hM1
  clear hq1 hr1 hR1 hm1 hM1 HE
  go_wp2_with fail
  refine calls_sub E1.out HNE.out M1.out (fun h => HC.out _ _ _ _ _ R1.out h) (by (intro a er e w' hE hp; have hp2 := hp; obtain ⟨q, hq1, -⟩ := hp; subst hq1; subst hE; exact ⟨rfl, hp2⟩)) ?_
  intro x2 s2 v2 w2 hq2 hr2 hv2 hR2 hm2 hM2
  have E2 := hide hr2
  have D2 := hide ((expr_de ws n).1 _ _ _ hq2)
  have R2 := hide hR2
  have M2 := hide hM2
  obtain ⟨g2, rfl⟩ := Nd.ptr hv2
  have T2 := hide (Nd.tight _ _ hv2)
  have hz1 := M1.out.size
  clear hq2 hr2 hR2 hm2 hM2 hv2 E1 R1
  go_wp2_with fail
  refine calls_sub E2.out HNE.out M2.out (fun _ => take_any R2.out cClose (by decide)) (by (intro a er e w' hE hp; have hp2 := hp; obtain ⟨q, hq1, -⟩ := hp; subst hq1; subst hE; exact ⟨rfl, hp2⟩)) ?_
  intro x3 s3 v3 w3 hq3 hr3 hv3 hR3 hm3 hM3
  subst hv3
  have E3 := hide hr3
  have hde : s3.de = s.de + 1 := (take_de hq3).trans (D2.out.trans D1.out)
  have J := hide (leave_any hR3 (by omega))
  have M3 := hide hM3
  have T3 := hide (Nd.mv hm3 (fun q hq (e : q = k) => by have : w1.heap.size ≤ q := hq.1; omega) _ _ T2.out)
  clear hq3 hr3 hR3 hm3 hM3 E2 R2 D1 D2 T2 M2
  go_wp2_with fail
  refine J.out.mono ?_
  rintro e w4 ⟨rfl, hR4, hm4⟩
  have R4 := hide hR4
  have M4 := hide (M3.out.trans hm4 (fun _ _ e => e))
  have T4 := hide (Nd.mv hm4 (fun q hq (e : q = k) => by have : w1.heap.size ≤ q := hq.1; omega) _ _ T3.out)
  clear hR4 hm4 J T3 M3
  go_wp2_with fail
  go_ret
  have ER := E3.out
  subst ER
  exact ⟨_, rfl, Nd.mono (fun q hq => by have : w1.heap.size ≤ q := hq.1; omega) _ _ T4.out, R4.out, M4.out⟩
end Go.Proofs.YtmfoehaeejhlpaaGreatDoor

/-
  The reader: cond.
-/
namespace Go.Proofs.YtmfoehaeejhlpaaGreatDoor
open Go.RowKit Yn
set_option maxRecDepth 100000
set_option maxHeartbeats 8000000 in
theorem cond_step {n : Nat} (hc : Cc n) (hb : Cb n) : Cc (n + 1) := by
  intro W B k ws s0 hR hne
  obtain ⟨i0, hi0, hz0, hz1, hz2⟩ := info_parts infoN
  have HC := hide hc
  have hkW := hR.lt
  have J1 := hide (fun h => hb W B k ws s0 1 (by omega) (by omega) hR h)
  obtain ⟨r, hr⟩ : ∃ r, r = cond ws (n + 1) s0 := ⟨_, rfl⟩
  rw [← hr] at hne ⊢
  have HNE := hide hne
  rw [Yn.cond] at hr
  have HE0 := hide hr
  clear hc hb hR hne hr
  cases h1 : binary ws n 1 s0 with
  | out => exact absurd (by rw [HE0.out, h1]; rfl) HNE.out
  | no a er =>
    have J := J1.out (by rw [h1]; intro h; cases h)
    rw [h1] at J
    have JH := hide J
    have ER : r = .no a er := by rw [HE0.out, h1]; rfl
    clear J J1 h1
    go_enter Tryz.func201, Tryz.ntmps201
    go_wp2_with fail
    refine JH.out.mono ?_
    rintro e w1 hp
    have hp2 := hp
    obtain ⟨q, rfl, -⟩ := hp
    subst ER
    exact ⟨rfl, hp2⟩
  | ok first s =>
    have J := J1.out (by rw [h1]; intro h; cases h)
    rw [h1] at J
    have JH := hide J
    have HE : Hid (r = if isAt s cQu then (openS cQu s).bind fun _ s1 => (cond ws n s1).bind fun second s2 => (take cCol s2).bind fun _ s3 => (cond ws n s3).bind fun third s4 => .ok (.mk 35 (bs []) 0 [first, second, third] (hd s).a) (leave s4) else .ok first s) := by
      unfold Hid
      rw [HE0.out, h1]
      rfl
    clear J J1 h1 HE0
    go_enter Tryz.func201, Tryz.ntmps201
    go_wp2_with fail
    refine JH.out.mono ?_
    rintro e w1 ⟨v1, rfl, ht1, hr1, hm1⟩
    obtain ⟨g1, rfl⟩ := Nd.ptr ht1
    have R1 := hide hr1
    have M1 := hide hm1
    have T1 := hide (Nd.tight _ _ ht1)
    have J2 := hide (isAt_any hr1 cQu)
    clear hr1 hm1 ht1 JH
    cases b : isAt s cQu with
    | false =>
      rw [b] at J2
      have ER : r = .ok first s := by rw [HE.out, b]; rfl
      clear b
      go_wp2_with fail
      refine J2.out.mono ?_
      rintro e w2 ⟨rfl, hb2⟩
      have R2 := hide (R1.out.later hb2)
      have M2 := hide (M1.out.later hb2)
      have T2 : Hid (Nd (fun q => W.heap.size ≤ q) w2 first (.pointer (some ⟨g1, 0, none⟩))) := Nd.mono (fun q hq => hq.1) _ _ (Nd.mv (Mv.of_below hb2 (fun _ => False)) (fun _ _ e => e) _ _ T1.out)
      clear hb2 J2
      go_wp2_with fail
      go_ret
      subst ER
      exact ⟨_, rfl, T2.out, R2.out, M2.out⟩
    | true =>
      rw [b] at J2
      have HE1 : Hid (r = (openS cQu s).bind fun _ s1 => (cond ws n s1).bind fun second s2 => (take cCol s2).bind fun _ s3 => (cond ws n s3).bind fun third s4 => .ok (.mk 35 (bs []) 0 [first, second, third] (hd s).a) (leave s4)) := by
        unfold Hid
        rw [HE.out, b]
        rfl
      clear b HE
      go_wp2_with fail
      refine J2.out.mono ?_
      rintro e w2 ⟨rfl, hb2⟩
      have R2 := hide (R1.out.later hb2)
      have M2 := hide (M1.out.later hb2)
      have T2 := hide (Nd.mv (Mv.of_below hb2 (fun _ => False)) (fun _ _ e => e) _ _ T1.out)
      have hz2' := hb2.size
      have hz1' := M1.out.size
      clear hb2 J2 T1 R1
      go_wp2_with fail
      refine (node_any R2.out 35).mono ?_
      rintro e w3 ⟨g, rfl, hg, hg3, hb3⟩
      have R3 := hide (R2.out.later hb3)
      have M3 := hide (M2.out.later hb3)
      have T3 := hide (Nd.mv (Mv.of_below hb3 (fun _ => False)) (fun _ _ e => e) _ _ T2.out)
      have G3 := hide hg3
      have hgk : g ≠ k := by omega
      clear hb3 hg3 T2 R2 M2
      go_wp2_with fail
      cases ho : openS cQu s with
      | out => exact absurd ho open_out
      | no a er =>
        have J := open_any R3.out cQu (by decide)
        rw [ho] at J
        refine J.mono ?_
        rintro e w4 hp
        have hp2 := Pn.from hp M3.out
        obtain ⟨q, rfl, -⟩ := hp
        have ER : r = .no a er := by rw [HE1.out, ho]; rfl
        subst ER
        exact ⟨rfl, hp2⟩
      | ok u s1 =>
        have J := open_any R3.out cQu (by decide)
        rw [ho] at J
        have HE2 : Hid (r = (cond ws n s1).bind fun second s2 => (take cCol s2).bind fun _ s3 => (cond ws n s3).bind fun third s4 => .ok (.mk 35 (bs []) 0 [first, second, third] (hd s).a) (leave s4)) := by
          unfold Hid
          rw [HE1.out, ho]
          rfl
        have D1 := hide (open_de ho)
        clear ho HE1
        refine J.mono ?_
        rintro e w4 ⟨v, rfl, hv, hr4, hm4⟩
        obtain rfl := hv
        have R4 := hide hr4
        have M4 := hide (M3.out.trans hm4 (fun _ _ e => e))
        have T4 := hide (Nd.mv hm4 (fun q hq (e : q = k) => by have := hq.1; omega) _ _ T3.out)
        have G4 := hide (hm4.at G3.out hgk)
        have hz4 := M4.out.size
        clear hr4 hm4 J T3 G3 R3 M3
        go_wp2_with fail
        cases hq : cond ws n s1 with
        | out => exact absurd (show r = .out by rw [HE2.out, hq]; rfl) HNE.out
        | no a er =>
          have J := HC.out w4 B k ws s1 R4.out (by rw [hq]; intro h; cases h)
          rw [hq] at J
          refine J.mono ?_
          rintro e w5 hp
          have hp2 := Pn.from hp M4.out
          obtain ⟨q, rfl, -⟩ := hp
          have ER : r = .no a er := by rw [HE2.out, hq]; rfl
          subst ER
          exact ⟨rfl, hp2⟩
        | ok second s2 =>
          have J := HC.out w4 B k ws s1 R4.out (by rw [hq]; intro h; cases h)
          rw [hq] at J
          have HE3 : Hid (r = (take cCol s2).bind fun _ s3 => (cond ws n s3).bind fun third s4 => .ok (.mk 35 (bs []) 0 [first, second, third] (hd s).a) (leave s4)) := by
            unfold Hid
            rw [HE2.out, hq]
            rfl
          have D2 := hide ((expr_de ws n).1 _ _ _ hq)
          clear hq HE2
          refine J.mono ?_
          rintro e w5 ⟨v5, rfl, ht5, hr5, hm5⟩
          obtain ⟨g2, rfl⟩ := Nd.ptr ht5
          have U5 := hide (Nd.tight _ _ ht5)
          have R5 := hide hr5
          have M5 := hide (M4.out.trans hm5 (fun _ _ e => e))
          have T5 := hide (Nd.mv hm5 (fun q hq (e : q = k) => by have := hq.1; omega) _ _ T4.out)
          have G5 := hide (hm5.at G4.out hgk)
          have hz5 := hm5.size
          have hgl4 : g < w4.heap.size := lt_of_block G4.out
          clear hr5 hm5 ht5 J T4 G4 R4 M4
          go_wp2_with fail
          cases hq : take cCol s2 with
          | out => exact absurd hq take_out
          | no a er =>
            have J := take_any R5.out cCol (by decide)
            rw [hq] at J
            refine J.mono ?_
            rintro e w6 hp
            have hp2 := Pn.from hp M5.out
            obtain ⟨q, rfl, -⟩ := hp
            have ER : r = .no a er := by rw [HE3.out, hq]; rfl
            subst ER
            exact ⟨rfl, hp2⟩
          | ok tk s3 =>
            have J := take_any R5.out cCol (by decide)
            rw [hq] at J
            have HE4 : Hid (r = (cond ws n s3).bind fun third s4 => .ok (.mk 35 (bs []) 0 [first, second, third] (hd s).a) (leave s4)) := by
              unfold Hid
              rw [HE3.out, hq]
              rfl
            have D3 := hide (take_de hq)
            clear hq HE3
            refine J.mono ?_
            rintro e w6 ⟨v, rfl, hv, hr6, hm6⟩
            obtain rfl := hv
            have R6 := hide hr6
            have M6 := hide (M5.out.trans hm6 (fun _ _ e => e))
            have T6 := hide (Nd.mv hm6 (fun q hq (e : q = k) => by have := hq.1; omega) _ _ T5.out)
            have U6 := hide (Nd.mv hm6 (fun q hq (e : q = k) => by have := hq.1; omega) _ _ U5.out)
            have G6 := hide (hm6.at G5.out hgk)
            have hz6 := hm6.size
            have C7 : w6.drew.cell? ⟨g, 3, none⟩ = some (.slice none 0 0) := by rw [cell_of_row w6.drew g _ _ 51 (0, 0) G6.out]; rfl
            unfold tokV
            clear hr6 hm6 J T5 U5 G5 R5 M5
            cases hq : cond ws n s3 with
            | out => exact absurd (show r = .out by rw [HE4.out, hq]; rfl) HNE.out
            | no a er =>
              have ER : r = .no a er := by rw [HE4.out, hq]; rfl
              have HQ := hide hq
              clear hq
              go_upto_region 8 with fail
              refine wp_region_late (J := fun i => i != 13) (S := fun Wq => Wq.cell? ⟨g, 3, none⟩ = some (.slice none 0 0)) (by kernel_rfl) C7 (fun hHeld => ?_)
              refine' wpAnyJ_takeW (i := 0) (v := _) rfl (by kernel_rfl) (by kernel_rfl) (by kernel_rfl) (fun _ _ _ h => h) (Or.inl ⟨by rfl, ?hyCn1⟩) ?reCn1
              case hyCn1 => (intro W hSw; (try dsimp only at hSw); go_simp; try with_reducible rfl)
              try simp only [Act.put, List.setIfInBounds_toArray]
              refine' wpAnyJ_takeW (i := 1) (v := _) rfl (by kernel_rfl) (by kernel_rfl) (by kernel_rfl) (fun _ _ _ h => h) (Or.inl ⟨by rfl, ?hyCn2⟩) ?reCn2
              case hyCn2 => (intro W hSw; (try dsimp only at hSw); go_simp; try with_reducible rfl)
              try simp only [Act.put]
              refine' wpAnyJ_takeW (i := 2) (v := _) rfl (by kernel_rfl) (by kernel_rfl) (by kernel_rfl) (fun _ _ _ h => h) (Or.inl ⟨by rfl, ?hyCn3⟩) ?reCn3
              case hyCn3 => (intro W hSw; (try dsimp only at hSw); go_simp; try with_reducible rfl)
              try simp only [Act.put]
              refine' wpAnyJ_takeW (i := 3) (v := _) rfl (by kernel_rfl) (by kernel_rfl) (by kernel_rfl) (fun _ _ _ h => h) (Or.inl ⟨by rfl, ?hyCn4⟩) ?reCn4
              case hyCn4 => (intro W hSw; (try dsimp only at hSw); go_simp; try with_reducible rfl)
              try simp only [Act.put]
              refine' wpAnyJ_take (i := 4) (v := _) rfl (by kernel_rfl) (by kernel_rfl) (by kernel_rfl) (by kernel_rfl) (fun _ _ _ h => h) (Or.inl ⟨by rfl, ?hyCn5⟩) (by assumption) ?reCn5
              case hyCn5 => (intro W hSw; (try dsimp only at hSw); go_simp; try with_reducible rfl)
              try simp only [Act.put]
              refine' wpAnyJ_takeW (i := 5) (v := _) rfl (by kernel_rfl) (by kernel_rfl) (by kernel_rfl) (fun _ _ _ h => h) (Or.inl ⟨by rfl, ?hyCn6⟩) ?reCn6
              case hyCn6 => (intro W hSw; (try dsimp only at hSw); go_simp; try with_reducible rfl)
              try simp only [Act.put]
              refine' wpAnyJ_takeW (i := 6) (v := _) rfl (by kernel_rfl) (by kernel_rfl) (by kernel_rfl) (fun _ _ _ h => h) (Or.inl ⟨by rfl, ?hyCn7⟩) ?reCn7
              case hyCn7 => (intro W hSw; (try dsimp only at hSw); go_simp; try with_reducible rfl)
              try simp only [Act.put]
              refine' wpAnyJ_takeW (i := 7) (v := _) rfl (by kernel_rfl) (by kernel_rfl) (by kernel_rfl) (fun _ _ _ h => h) (Or.inl ⟨by rfl, ?hyCn8⟩) ?reCn8
              case hyCn8 => (intro W hSw; (try dsimp only at hSw); go_simp; try with_reducible rfl)
              try simp only [Act.put]
              refine wpAnyJ_ready (rs := [8]) (by kernel_rfl) (by simp) ?_
              refine AllReadyJ.cons (o := { dst := some 28, op := Op.call { callee := Callee.value (Operand.func 201), args := #[Operand.tmp 27], argTypes := #[56] }, type := 23, pos := "expression.go:18", after := #[{ on := 7, ground := Ground.data }], guard := none }) rfl (fun K hK => ?_) AllReadyJ.nil
              go_simp
              go_at_call 201
              have J := HC.out w6.drew B k ws s3 (R6.out.later (below_drew w6)) (by rw [HQ.out]; intro h; cases h)
              rw [HQ.out] at J
              refine J.mono ?_
              rintro e w7 hp
              have hp2 := Pn.from hp (M6.out.later (below_drew w6))
              obtain ⟨q, rfl, -⟩ := hp
              subst ER
              exact ⟨rfl, hp2⟩
            | ok third s4 =>
              have ER : r = .ok (.mk 35 (bs []) 0 [first, second, third] (hd s).a) (leave s4) := by rw [HE4.out, hq]; rfl
              have hde : 1 ≤ s4.de := by
                have e1 := (expr_de ws n).1 _ _ _ hq
                have := D1.out
                have := D2.out
                have := D3.out
                omega
              have HQ := hide hq
              clear hq
              go_upto_region 8 with fail
              refine wp_region_late (J := fun i => i != 13) (S := fun Wq => Wq.cell? ⟨g, 3, none⟩ = some (.slice none 0 0)) (by kernel_rfl) C7 (fun hHeld => ?_)
              refine' wpAnyJ_takeW (i := 0) (v := _) rfl (by kernel_rfl) (by kernel_rfl) (by kernel_rfl) (fun _ _ _ h => h) (Or.inl ⟨by rfl, ?hyC1⟩) ?reC1
              case hyC1 => (intro W hSw; (try dsimp only at hSw); go_simp; try with_reducible rfl)
              try simp only [Act.put, List.setIfInBounds_toArray]
              refine' wpAnyJ_takeW (i := 1) (v := _) rfl (by kernel_rfl) (by kernel_rfl) (by kernel_rfl) (fun _ _ _ h => h) (Or.inl ⟨by rfl, ?hyC2⟩) ?reC2
              case hyC2 => (intro W hSw; (try dsimp only at hSw); go_simp; try with_reducible rfl)
              try simp only [Act.put]
              refine' wpAnyJ_takeW (i := 2) (v := _) rfl (by kernel_rfl) (by kernel_rfl) (by kernel_rfl) (fun _ _ _ h => h) (Or.inl ⟨by rfl, ?hyC3⟩) ?reC3
              case hyC3 => (intro W hSw; (try dsimp only at hSw); go_simp; try with_reducible rfl)
              try simp only [Act.put]
              refine' wpAnyJ_takeW (i := 3) (v := _) rfl (by kernel_rfl) (by kernel_rfl) (by kernel_rfl) (fun _ _ _ h => h) (Or.inl ⟨by rfl, ?hyC4⟩) ?reC4
              case hyC4 => (intro W hSw; (try dsimp only at hSw); go_simp; try with_reducible rfl)
              try simp only [Act.put]
              refine' wpAnyJ_take (i := 4) (v := _) rfl (by kernel_rfl) (by kernel_rfl) (by kernel_rfl) (by kernel_rfl) (fun _ _ _ h => h) (Or.inl ⟨by rfl, ?hyC5⟩) (by assumption) ?reC5
              case hyC5 => (intro W hSw; (try dsimp only at hSw); go_simp; try with_reducible rfl)
              try simp only [Act.put]
              refine' wpAnyJ_takeW (i := 5) (v := _) rfl (by kernel_rfl) (by kernel_rfl) (by kernel_rfl) (fun _ _ _ h => h) (Or.inl ⟨by rfl, ?hyC6⟩) ?reC6
              case hyC6 => (intro W hSw; (try dsimp only at hSw); go_simp; try with_reducible rfl)
              try simp only [Act.put]
              refine' wpAnyJ_takeW (i := 6) (v := _) rfl (by kernel_rfl) (by kernel_rfl) (by kernel_rfl) (fun _ _ _ h => h) (Or.inl ⟨by rfl, ?hyC7⟩) ?reC7
              case hyC7 => (intro W hSw; (try dsimp only at hSw); go_simp; try with_reducible rfl)
              try simp only [Act.put]
              refine' wpAnyJ_takeW (i := 7) (v := _) rfl (by kernel_rfl) (by kernel_rfl) (by kernel_rfl) (fun _ _ _ h => h) (Or.inl ⟨by rfl, ?hyC8⟩) ?reC8
              case hyC8 => (intro W hSw; (try dsimp only at hSw); go_simp; try with_reducible rfl)
              try simp only [Act.put]
              refine wpAnyJ_ready (rs := [8]) (by kernel_rfl) (by simp) ?_
              refine AllReadyJ.cons (o := { dst := some 28, op := Op.call { callee := Callee.value (Operand.func 201), args := #[Operand.tmp 27], argTypes := #[56] }, type := 23, pos := "expression.go:18", after := #[{ on := 7, ground := Ground.data }], guard := none }) rfl (fun K hK => ?_) AllReadyJ.nil
              go_simp
              go_at_call 201
              have J := HC.out w6.drew B k ws s3 (R6.out.later (below_drew w6)) (by rw [HQ.out]; intro h; cases h)
              rw [HQ.out] at J
              refine J.mono ?_
              rintro e w7 ⟨v7, rfl, ht7, hr7, hm7⟩
              obtain ⟨g3, rfl⟩ := Nd.ptr ht7
              have G7 := hide (hm7.at (show w6.drew.heap[g]? = _ from G6.out) hgk)
              have V7 := hide (Nd.tight _ _ ht7)
              have T7 := hide (Nd.mv hm7 (fun q hq (e : q = k) => by have := hq.1; omega) _ _ (Nd.mv (Mv.of_below (below_drew w6) (fun _ => False)) (fun _ _ e => e) _ _ T6.out))
              have U7 := hide (Nd.mv hm7 (fun q hq (e : q = k) => by have := hq.1; omega) _ _ (Nd.mv (Mv.of_below (below_drew w6) (fun _ => False)) (fun _ _ e => e) _ _ U6.out))
              have R7 := hide hr7
              have M7 := hide ((M6.out.later (below_drew w6)).trans hm7 (fun _ _ e => e))
              have hz7 : w6.heap.size ≤ w7.heap.size := hm7.size
              have C8 : w7.cell? ⟨g, 3, none⟩ = some (.slice none 0 0) := by rw [cell_of_row w7 g _ _ 51 (0, 0) G7.out]; rfl
              obtain ⟨w8, hw8⟩ : ∃ X, X = w7.alloc (.cells #[.pointer (some ⟨g1, 0, none⟩), .pointer (some ⟨g2, 0, none⟩), .pointer (some ⟨g3, 0, none⟩)] 23) := ⟨_, rfl⟩
              have b8 : Below w7.heap.size w7 w8 := hw8 ▸ below_alloc w7 _
              have G8 := hide ((b8.block g (lt_of_block G7.out)).trans G7.out)
              have C9 : w8.cell? ⟨g, 3, none⟩ = some (.slice none 0 0) := by rw [cell_of_row w8 g _ _ 51 (0, 0) G8.out]; rfl
              rw [hw8] at C9
              have HB8 := hide b8
              have HW8 := hide hw8
              clear hr7 hm7 ht7 J hw8 b8 hHeld
              go_simp
              refine hK.out _ _ (fun _ _ => C8) ?_
              clear hK K
              try simp only [Act.put, List.setIfInBounds_toArray, List.set_cons_zero, List.set_cons_succ]
              refine wpAnyJ_ready (rs := [9]) (by kernel_rfl) (by simp) ?_
              refine AllReadyJ.cons (o := { dst := some 29, op := Op.buildSlice 49 3 #[(0, Operand.tmp 25), (1, Operand.tmp 26), (2, Operand.tmp 28)], type := 49, pos := "expression.go:18", after := #[{ on := 5, ground := Ground.data }, { on := 6, ground := Ground.data }, { on := 8, ground := Ground.data }], guard := none }) rfl (fun K hK => ?_) AllReadyJ.nil
              go_simp
              refine hK.out _ _ (fun _ _ => C9) ?_
              clear hK K
              try simp only [Act.put, List.setIfInBounds_toArray, List.set_cons_zero, List.set_cons_succ]
              refine wpAnyJ_ready (rs := [10]) (by kernel_rfl) (by simp) ?_
              refine AllReadyJ.cons (o := { dst := some 30, op := Op.call { callee := Callee.builtin Builtin.append, args := #[Operand.tmp 24, Operand.tmp 29], argTypes := #[49, 49] }, type := 49, pos := "expression.go:18", after := #[{ on := 4, ground := Ground.data }, { on := 9, ground := Ground.data }, { on := 8, ground := Ground.chain }], guard := none }) rfl (fun K hK => ?_) AllReadyJ.nil
              refine step_append_lies _ rfl (.tmp 24) (.tmp 29) 49 rfl 0 23 i0 (.pointer none) 1 8 und49 hi0 hz0 hz1 hz2 rfl (by decide) (.slice none 0 0) 0 ([]) (by simp [Act.eval]) (World.ownsRow_nil _ _ _ _) ⟨w7.heap.size, 0, none⟩ 3 3 [.pointer (some ⟨g1, 0, none⟩), .pointer (some ⟨g2, 0, none⟩), .pointer (some ⟨g3, 0, none⟩)] (by simp [Act.eval]) rfl (by intro j u hj; match j, hj with | 0, hj => simp at hj; subst hj; simp [Addr.add] | 1, hj => simp at hj; subst hj; simp [Addr.add] | 2, hj => simp at hj; subst hj; simp [Addr.add]) (by intro u hu; simp at hu; rcases hu with rfl | rfl | rfl <;> rfl) (by omega) (by unfold maxLen; omega) (by omega) (Nat.zero_le _) _ rfl ?_
              intro g9 c9 w9 ho9 hg9 ha9 _
              rw [← HW8.out] at hg9
              have b9 : Below w8.heap.size w8 w9 := (Below.refl _ w8).grown hg9 (Nat.le_refl _) (fun q e => by simp [Value.ownBlock] at e)
              have G9 := hide ((b9.block g (lt_of_block G8.out)).trans G8.out)
              have Ca : w9.cell? ⟨g, 3, none⟩ = some (.slice none 0 0) := by rw [cell_of_row w9 g _ _ 51 (0, 0) G9.out]; rfl
              have F9 : w9.frozen? ⟨g, 3, none⟩ = false := frozen_of_row w9 g 3 _ 51 G9.out
              have hz8 := HB8.out.size
              have hg9' : g9 = w8.heap.size := by
                rcases ha9 with e | e
                · simp [Value.ownBlock] at e
                · rw [e, ← HW8.out]
              have O9' : w9.ownsRow 0 23 1 (.slice (some ⟨g9, 0, none⟩) 3 c9) 3 [.pointer (some ⟨g1, 0, none⟩), .pointer (some ⟨g2, 0, none⟩), .pointer (some ⟨g3, 0, none⟩)] := by simpa using ho9
              have HB9 := hide (below_on HB8.out b9)
              have NM := hide (nd_made (w5 := w7) (w6 := w9) (lo := W.heap.size) (l := [first, second, third]) (ps := [.pointer (some ⟨g1, 0, none⟩), .pointer (some ⟨g2, 0, none⟩), .pointer (some ⟨g3, 0, none⟩)]) (v' := .slice (some ⟨g9, 0, none⟩) 3 c9) G7.out (by omega) (by
                rw [Nds]
                refine ⟨_, _, rfl, Nd.mono (fun q hq => ⟨hq.1, by have := hq.2; omega, by have := hq.2; omega⟩) _ _ T7.out, ?_⟩
                rw [Nds]
                refine ⟨_, _, rfl, Nd.mono (fun q hq => ⟨by have := hq.1; omega, by have := hq.2; omega, by have := hq.1; omega⟩) _ _ U7.out, ?_⟩
                rw [Nds]
                exact ⟨_, _, rfl, Nd.mono (fun q hq => ⟨by have : w6.heap.size ≤ q := hq.1; omega, hq.2, by have : w6.heap.size ≤ q := hq.1; omega⟩) _ _ V7.out, Nds.none⟩) O9' HB9.out (fun q e => by have e' : g9 = q := Option.some.inj e; omega) (by omega))
              clear ho9 hg9 ha9 b9 O9' hg9' hz8
              refine hK.out _ _ (fun _ _ => Ca) ?_
              clear hK K
              try simp only [Act.put, List.setIfInBounds_toArray, List.set_cons_zero, List.set_cons_succ]
              refine' wpAnyJ_takeW (i := 11) (v := _) rfl (by kernel_rfl) (by kernel_rfl) (by kernel_rfl) (fun _ _ _ h => h) (Or.inl ⟨by rfl, ?hyC9⟩) ?reC9
              case hyC9 => (intro W hSw; (try dsimp only at hSw); go_simp; try with_reducible rfl)
              try simp only [Act.put, List.setIfInBounds_toArray]
              refine' wpAnyJ_takeW (i := 12) (v := _) rfl (by kernel_rfl) (by kernel_rfl) (by kernel_rfl) (fun _ _ _ h => h) (Or.inl ⟨by rfl, ?hyC10⟩) ?reC10
              case hyC10 => (intro W hSw; (try dsimp only at hSw); go_simp; try with_reducible rfl)
              try simp only [Act.put]
              refine wpAnyJ_ready (rs := [13]) (by kernel_rfl) (by simp) ?_
              refine AllReadyJ.cons (o := { dst := none, op := Op.store 49 (Operand.tmp 32) (Operand.tmp 30), type := 0, pos := "expression.go:18", after := #[{ on := 12, ground := Ground.data }, { on := 10, ground := Ground.data }, { on := 10, ground := Ground.chain }, { on := 0, ground := Ground.phase }, { on := 1, ground := Ground.phase }, { on := 2, ground := Ground.phase }, { on := 3, ground := Ground.phase }, { on := 4, ground := Ground.phase }, { on := 5, ground := Ground.phase }, { on := 6, ground := Ground.phase }, { on := 7, ground := Ground.phase }, { on := 8, ground := Ground.phase }, { on := 9, ground := Ground.phase }, { on := 10, ground := Ground.phase }], guard := none }) rfl (fun K hK => ?_) AllReadyJ.nil
              go_simp
              refine hK.out _ _ (fun h => absurd h (by decide)) ?_
              clear hK K
              try simp only [Act.put, List.setIfInBounds_toArray, List.set_cons_zero, List.set_cons_succ]
              refine wpAnyJ_done (by kernel_rfl) ?_ _
              have R10 := hide ((R7.out.mv NM.out.2 (fun j e => by
                have := R7.out.1
                have : j = g := e
                omega)))
              have M10 : Hid (Mv W (w9.setCell ⟨g, 3, none⟩ (.slice (some ⟨g9, 0, none⟩) 3 c9)) (fun j => j = k)) := M7.out.trans NM.out.2 (fun j hj e => by have : j = g := e; omega)
              obtain ⟨w10, hw10⟩ : ∃ X, X = w9.setCell ⟨g, 3, none⟩ (.slice (some ⟨g9, 0, none⟩) 3 c9) := ⟨_, rfl⟩
              have T10 := hide NM.out.1
              rw [← hw10] at R10 M10 T10 ⊢
              clear hw10 NM Ca F9 G9
              go_wp2_with fail
              refine (leave_any R10.out hde).mono ?_
              rintro e w11 ⟨rfl, hr11, hm11⟩
              have R11 := hide hr11
              have M11 := hide (M10.out.trans hm11 (fun _ _ e => e))
              have T11 := hide (Nd.mv hm11 (fun q (hq : W.heap.size ≤ q) (e : q = k) => by omega) _ _ T10.out)
              clear hr11 hm11
              go_wp2_with fail
              go_ret
              subst ER
              exact ⟨_, rfl, T11.out, R11.out, M11.out⟩
end Go.Proofs.YtmfoehaeejhlpaaGreatDoor
