import Derived.Test.YtklamaibinjcmaaDoorMgE
/-
  Verify: isBehindPart.
-/
namespace Go.Proofs.YtklamaibinjcmaaDoor
open Go.RowKit
set_option maxRecDepth 100000
/-- There is an instruction of this number, right behind a part. -/
def bhpI (c : List Ins) (a : Int) : Bool := decide (1 ≤ a ∧ a < (c.length : Int) ∧ (iat c (a - 1).toNat).op = 26)
set_option maxHeartbeats 4000000 in
theorem isbehindpart_any {Q : Nat → Prop} {w : World} {vc : Value} {c : List Ins} (h : Il Q w vc c) (a : Int) : Calls Tryd.prog 55 #[vc, .int .i64 a] w fun e w' => e = .returned (.bool (bhpI c a)) ∧ Below w.heap.size w w' := by
  obtain ⟨ao, co, rfl, h1, h2⟩ := h.at
  have HI := hide h
  obtain ⟨r, hr⟩ : ∃ r, r = bhpI c a := ⟨_, rfl⟩
  have HR := hide hr
  rw [← hr]
  obtain ⟨n, hn⟩ : ∃ n, n = c.length := ⟨_, rfl⟩
  have HN := hide hn
  rw [← hn] at h1 HI ⊢
  have h3 : (n : Int) ≤ 9223372036854775807 := by omega
  clear h hr hn
  by_cases c1 : 1 ≤ a
  · have f1 : decide (1 ≤ a) = true := decide_eq_true c1
    by_cases c2 : a < (n : Int)
    · have f2 : decide (a < (n : Int)) = true := decide_eq_true c2
      obtain ⟨p, hp⟩ : ∃ p : Nat, a = (p : Int) + 1 := ⟨(a - 1).toNat, by omega⟩
      subst hp
      have hpn : p < c.length := by have := HN.out; omega
      obtain ⟨g, o, rfl, -, e1, -, -, -⟩ := HI.out.nth hpn
      have HV : Hid (r = decide (c[p].op = 26)) := by
        unfold Hid
        rw [HR.out]
        unfold bhpI
        have e : ((p : Int) + 1 - 1).toNat = p := by omega
        rw [e, iat_eq hpn]
        have := HN.out
        simp only [decide_eq_decide]
        constructor
        · exact fun h => h.2.2
        · exact fun h => ⟨by omega, by omega, h⟩
      obtain ⟨op, hop⟩ : ∃ x, x = c[p].op := ⟨_, rfl⟩
      rw [← hop] at e1 HV
      clear hop HR
      have t1 : IntKind.i64.wrap ((p : Int) + 1 - 1) = (p : Int) := by rw [IntKind.wrap_i64]; omega
      by_cases c3 : op = 26
      · subst c3
        go_enter Tryd.func55, Tryd.ntmps55
        go_wp2_with fail
        go_ret
        exact ⟨by rw [HV.out]; rfl, Below.refl _ _⟩
      · have f3 : (op == 26) = false := beq_eq_false_iff_ne.2 c3
        have HF : Hid (r = false) := HV.out.trans (decide_eq_false c3)
        clear c3
        go_enter Tryd.func55, Tryd.ntmps55
        go_wp2_with fail
        go_ret
        exact ⟨by rw [HF.out]; rfl, Below.refl _ _⟩
    · have f2 : decide (a < (n : Int)) = false := decide_eq_false c2
      have HF : Hid (r = false) := HR.out.trans (decide_eq_false (fun h => c2 (by have := HN.out; omega)))
      go_enter Tryd.func55, Tryd.ntmps55
      go_wp2_with fail
      go_ret
      exact ⟨by rw [HF.out]; rfl, Below.refl _ _⟩
  · have f1 : decide (1 ≤ a) = false := decide_eq_false c1
    have HF : Hid (r = false) := HR.out.trans (decide_eq_false (fun h => c1 h.1))
    go_enter Tryd.func55, Tryd.ntmps55
    go_wp2_with fail
    go_ret
    exact ⟨by rw [HF.out]; rfl, Below.refl _ _⟩
end Go.Proofs.YtklamaibinjcmaaDoor

/-
  Verify: isInRow.
-/
namespace Go.Proofs.YtklamaibinjcmaaDoor
open Go.RowKit
set_option maxRecDepth 100000
/-- Where the parts that end ahead of a place begin. -/
def frI (c : List Ins) : Nat → Nat
  | 0 => 0
  | p + 1 => if (iat c p).op = 26 then frI c p else p + 1
theorem frI_le (c : List Ins) : ∀ p, frI c p ≤ p
  | 0 => Nat.le_refl _
  | p + 1 => by
    unfold frI
    have := frI_le c p
    split <;> omega
def inrI (c : List Ins) (p : Nat) : Bool := decide (p + 1 < c.length ∧ ((iat c (p + 1)).op = 26 ∨ (iat c (p + 1)).op = 27) ∧ p - frI c p < 12)
set_option maxHeartbeats 8000000 in
theorem isinrow_any {Q : Nat → Prop} {w : World} {vc : Value} {c : List Ins} (h : Il Q w vc c) (p : Nat) (hp : p < c.length) : Calls Tryd.prog 92 #[vc, .int .i64 (p : Int)] w fun e w' => e = .returned (.bool (inrI c p)) ∧ Below w.heap.size w w' := by
  obtain ⟨ao, co, rfl, h1, h2⟩ := h.at
  have HI := hide h
  obtain ⟨r, hr⟩ : ∃ r, r = inrI c p := ⟨_, rfl⟩
  have HR := hide hr
  rw [← hr]
  obtain ⟨n, hn⟩ : ∃ n, n = c.length := ⟨_, rfl⟩
  have HN := hide hn
  rw [← hn] at h1 HI hp ⊢
  have h3 : (n : Int) ≤ 9223372036854775807 := by omega
  have h4 : (p : Int) < (n : Int) := by omega
  clear h hr hn
  by_cases c1 : p + 1 = n
  · have f1 : ((p : Int) + 1 == (n : Int)) = true := by rw [beq_iff_eq]; omega
    have HF : Hid (r = false) := HR.out.trans (decide_eq_false (fun h => by have := HN.out; omega))
    clear c1
    go_enter Tryd.func92, Tryd.ntmps92
    go_wp2_with fail
    go_ret
    exact ⟨by rw [HF.out]; rfl, Below.refl _ _⟩
  · have f1 : ((p : Int) + 1 == (n : Int)) = false := beq_eq_false_iff_ne.2 (by omega)
    have h5 : (p : Int) + 1 < (n : Int) := by omega
    have hpn : p + 1 < c.length := by have := HN.out; omega
    obtain ⟨g, o, rfl, -, e1, -, -, -⟩ := HI.out.nth hpn
    have HV : Hid (r = decide ((c[p + 1].op = 26 ∨ c[p + 1].op = 27) ∧ p - frI c p < 12)) := by
      unfold Hid
      rw [HR.out]
      unfold inrI
      rw [iat_eq hpn]
      simp only [hpn, true_and]
    obtain ⟨op, hop⟩ : ∃ x, x = c[p + 1].op := ⟨_, rfl⟩
    rw [← hop] at e1 HV
    clear hop HR c1
    by_cases c2 : op = 26 ∨ op = 27
    · have HW : Hid (r = decide (p - frI c p < 12)) := by
        unfold Hid
        rw [HV.out]
        simp only [c2, true_and]
      clear HV
      rcases c2 with rfl | rfl
      all_goals
        go_enter Tryd.func92, Tryd.ntmps92
        go_wp2_with fail
        go_loopw [6] (fun v6 W => ∃ q : Nat, q ≤ p ∧ v6 = .int .i64 (q : Int) ∧ Hid (frI c p = frI c q) ∧ W = w) (fun v6 _ => (intOf v6).toNat)
        case atStart => exact ⟨p, Nat.le_refl _, rfl, rfl, rfl⟩
        case round =>
          obtain ⟨q, hq, rfl, HQ, rfl⟩ := hrel
          clear e1
          cases q with
          | zero =>
            obtain ⟨b, hb⟩ : ∃ b, b = decide ((p : Int) < 12) := ⟨_, rfl⟩
            have HB : Hid (r = b) := by
              unfold Hid
              rw [HW.out, hb, HQ.out, decide_eq_decide]
              unfold frI
              omega
            go_wp2_with fail
            go_ret
            exact ⟨by rw [HB.out, hb]; simp, Below.refl _ _⟩
          | succ q =>
            have hqc : q < c.length := by have := HN.out; omega
            obtain ⟨g', o', eg, -, e3, -, -, -⟩ := HI.out.nth hqc
            simp only [Option.some.injEq, Addr.mk.injEq, and_true] at eg
            obtain ⟨rfl, rfl⟩ := eg
            have HF : Hid (frI c (q + 1) = if c[q].op = 26 then frI c q else q + 1) := by
              unfold Hid
              rw [frI, iat_eq hqc]
            obtain ⟨ov, hov⟩ : ∃ x, x = c[q].op := ⟨_, rfl⟩
            rw [← hov] at e3 HF
            clear hov
            have t2 : (q : Int) + 1 ≤ (p : Int) := by omega
            by_cases c3 : ov = 26
            · subst c3
              go_wp2_with fail
              go_roundw
              case rel => exact ⟨q, by omega, rfl, by unfold Hid; rw [HQ.out, HF.out]; rfl, trivial⟩
              case measure => simp only [intOf]; omega
            · have f3 : (ov == 26) = false := beq_eq_false_iff_ne.2 c3
              have HB : Hid (frI c p = q + 1) := by
                unfold Hid
                rw [HQ.out, HF.out, if_neg c3]
              clear c3
              go_wp2_with fail
              go_ret
              refine ⟨?_, Below.refl _ _⟩
              rw [HW.out, HB.out]
              simp
              omega
    · have c3 : ¬ op = 26 := fun e => c2 (.inl e)
      have c4 : ¬ op = 27 := fun e => c2 (.inr e)
      have f3 : (op == 26) = false := beq_eq_false_iff_ne.2 c3
      have f4 : (op == 27) = false := beq_eq_false_iff_ne.2 c4
      have g3 : (op != 26) = true := by simp [c3]
      have g4 : (op != 27) = true := by simp [c4]
      have HF : Hid (r = false) := HV.out.trans (decide_eq_false (fun h => c2 h.1))
      clear c2 c3 c4
      go_enter Tryd.func92, Tryd.ntmps92
      go_wp2_with fail
      go_ret
      exact ⟨by rw [HF.out]; rfl, Below.refl _ _⟩
end Go.Proofs.YtklamaibinjcmaaDoor
