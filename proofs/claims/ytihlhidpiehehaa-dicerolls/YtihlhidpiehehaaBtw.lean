/-
  Between, the program's and the document's; pick; DiceMixes' head.
-/
import Derived.Test.YtihlhidpiehehaaBel
namespace Go.Proofs.Ytihlhidpiehehaa
open Go.RowKit
/-- b less a and 1, wrapped. -/
def wid (a b : Int) : Int := wrap64 (wrap64 (b - a) + 1)
def btwA (a b s : Int) : Int := if b < a then a else if 0 < wid a b then wrap64 (a + belA (wid a b) s) else if wid a b = 0 then wrap64 (mixI s) else wrap64 (a + wrap64 (mixI s % (wid a b + 18446744073709551616)))
def btwS (a b s : Int) : Int := if b < a then s else if 0 < wid a b then belS (wid a b) s else nxt s
theorem w64_b (x : Int) : -9223372036854775808 ≤ wrap64 x ∧ wrap64 x ≤ 9223372036854775807 := by simp only [wrap64]; omega
theorem between_any {w : World} {g : Nat} {s : Int} (h : Dz w g s) (a b : Int) (_ha : -9223372036854775808 ≤ a ∧ a ≤ 9223372036854775807) (_hb : -9223372036854775808 ≤ b ∧ b ≤ 9223372036854775807) : Calls Try.prog 16 #[.pointer (some ⟨g, 0, none⟩), .int .i64 a, .int .i64 b] w fun e w' => e = .returned (.int .i64 (btwA a b s)) ∧ Dz w' g (btwS a b s) ∧ Mv w w' (fun k => k = g) := by
  by_cases hab : b < a
  · rw [show btwA a b s = a from if_pos hab, show btwS a b s = s from if_pos hab]
    have H := hide h
    clear h
    go_enter Try.func16, Try.ntmps16
    go_wp2_with fail
    go_ret
    exact ⟨rfl, H.out, Mv.refl _ _⟩
  · have hwd : wrap64 (wrap64 (b - a) + 1) = wid a b := rfl
    obtain ⟨q0, q1⟩ := w64_b (wrap64 (b - a) + 1)
    rw [hwd] at q0 q1
    by_cases h1 : 0 < wid a b
    · have J := hide (below_any h (wid a b) q0 q1)
      rw [show btwA a b s = wrap64 (a + belA (wid a b) s) by unfold btwA; rw [if_neg hab, if_pos h1], show btwS a b s = belS (wid a b) s by unfold btwS; rw [if_neg hab, if_pos h1]]
      clear h
      generalize belA (wid a b) s = A at *
      generalize belS (wid a b) s = B at *
      generalize wid a b = n at *
      go_enter Try.func16, Try.ntmps16
      go_wp2_with fail
      refine J.out.mono ?_
      rintro e w1 ⟨rfl, hd, hm⟩
      have HD := hide hd
      have HM := hide hm
      clear hd hm
      go_wp2_with fail
      go_ret
      exact ⟨rfl, HD.out, HM.out⟩
    · have J := hide (next_any h)
      have m0 := mixI_lo s
      have m1 := mixI_hi s
      by_cases h2 : wid a b = 0
      · rw [show btwA a b s = wrap64 (mixI s) by unfold btwA; rw [if_neg hab, if_neg h1, if_pos h2], show btwS a b s = nxt s by unfold btwS; rw [if_neg hab, if_neg h1]]
        rw [h2] at hwd
        clear h q0 q1 h1 h2
        generalize mixI s = M at *
        go_enter Try.func16, Try.ntmps16
        go_wp2_with fail
        refine J.out.mono ?_
        rintro e w1 ⟨rfl, hd, hm⟩
        have HD := hide hd
        have HM := hide hm
        clear hd hm
        go_wp2_with fail
        go_ret
        exact ⟨rfl, HD.out, HM.out⟩
      · rw [show btwA a b s = wrap64 (a + wrap64 (mixI s % (wid a b + 18446744073709551616))) by unfold btwA; rw [if_neg hab, if_neg h1, if_neg h2], show btwS a b s = nxt s by unfold btwS; rw [if_neg hab, if_neg h1]]
        have hwr : IntKind.u64.wrap (wid a b) = wid a b + 18446744073709551616 := by rw [IntKind.wrap_u64]; omega
        clear h
        generalize mixI s = M at *
        generalize wid a b = n at *
        go_enter Try.func16, Try.ntmps16
        go_wp2_with fail
        refine J.out.mono ?_
        rintro e w1 ⟨rfl, hd, hm⟩
        have HD := hide hd
        have HM := hide hm
        clear hd hm
        go_wp2_with fail
        go_ret
        exact ⟨rfl, HD.out, HM.out⟩
theorem dbetween_any {w : World} {g : Nat} {s : Int} (h : Rz w g s) (a b : Int) (_ha : -9223372036854775808 ≤ a ∧ a ≤ 9223372036854775807) (_hb : -9223372036854775808 ≤ b ∧ b ≤ 9223372036854775807) : Calls Try.prog 21 #[.pointer (some ⟨g, 0, none⟩), .int .i64 a, .int .i64 b] w fun e w' => e = .returned (.int .i64 (btwA a b s)) ∧ Rz w' g (btwS a b s) ∧ Mv w w' (fun k => k = g) := by
  by_cases hab : b < a
  · rw [show btwA a b s = a from if_pos hab, show btwS a b s = s from if_pos hab]
    have H := hide h
    clear h
    go_enter Try.func21, Try.ntmps21
    go_wp2_with fail
    go_ret
    exact ⟨rfl, H.out, Mv.refl _ _⟩
  · have hwd : wrap64 (wrap64 (b - a) + 1) = wid a b := rfl
    obtain ⟨q0, q1⟩ := w64_b (wrap64 (b - a) + 1)
    rw [hwd] at q0 q1
    by_cases h1 : 0 < wid a b
    · have J := hide (dbelow_any h (wid a b) q0 q1)
      rw [show btwA a b s = wrap64 (a + belA (wid a b) s) by unfold btwA; rw [if_neg hab, if_pos h1], show btwS a b s = belS (wid a b) s by unfold btwS; rw [if_neg hab, if_pos h1]]
      clear h
      generalize belA (wid a b) s = A at *
      generalize belS (wid a b) s = B at *
      generalize wid a b = n at *
      go_enter Try.func21, Try.ntmps21
      go_wp2_with fail
      refine J.out.mono ?_
      rintro e w1 ⟨rfl, hd, hm⟩
      have HD := hide hd
      have HM := hide hm
      clear hd hm
      go_wp2_with fail
      go_ret
      exact ⟨rfl, HD.out, HM.out⟩
    · have J := hide (dnext_any h)
      have m0 := mixI_lo s
      have m1 := mixI_hi s
      by_cases h2 : wid a b = 0
      · rw [show btwA a b s = wrap64 (mixI s) by unfold btwA; rw [if_neg hab, if_neg h1, if_pos h2], show btwS a b s = nxt s by unfold btwS; rw [if_neg hab, if_neg h1]]
        rw [h2] at hwd
        clear h q0 q1 h1 h2
        generalize mixI s = M at *
        go_enter Try.func21, Try.ntmps21
        go_wp2_with fail
        refine J.out.mono ?_
        rintro e w1 ⟨rfl, hd, hm⟩
        have HD := hide hd
        have HM := hide hm
        clear hd hm
        go_wp2_with fail
        go_ret
        exact ⟨rfl, HD.out, HM.out⟩
      · rw [show btwA a b s = wrap64 (a + wrap64 (mixI s % (wid a b + 18446744073709551616))) by unfold btwA; rw [if_neg hab, if_neg h1, if_neg h2], show btwS a b s = nxt s by unfold btwS; rw [if_neg hab, if_neg h1]]
        have hwr : IntKind.u64.wrap (wid a b) = wid a b + 18446744073709551616 := by rw [IntKind.wrap_u64]; omega
        clear h
        generalize mixI s = M at *
        generalize wid a b = n at *
        go_enter Try.func21, Try.ntmps21
        go_wp2_with fail
        refine J.out.mono ?_
        rintro e w1 ⟨rfl, hd, hm⟩
        have HD := hide hd
        have HM := hide hm
        clear hd hm
        go_wp2_with fail
        go_ret
        exact ⟨rfl, HD.out, HM.out⟩
/-- Which of n things a raw number speaks of. -/
def pickI (c n : Int) : Int := if c < 0 then (-(c + 1)) % n else c % n
theorem pickI_b (c : Int) {n : Int} (h : 1 ≤ n) : 0 ≤ pickI c n ∧ pickI c n < n := by
  unfold pickI
  split <;> exact ⟨Int.emod_nonneg _ (by omega), Int.emod_lt_of_pos _ (by omega)⟩
theorem pick_any (c n : Int) (w : World) (hc : -9223372036854775808 ≤ c ∧ c ≤ 9223372036854775807) (h1 : 1 ≤ n) (h2 : n ≤ 9223372036854775807) : Calls Try.prog 11 #[.int .i64 c, .int .i64 n] w fun e w' => e = .returned (.int .i64 (pickI c n)) ∧ w' = w := by
  by_cases h : c < 0
  · have e : pickI c n = (-(c + 1)) % n := if_pos h
    rw [e]
    have e2 : Int.tmod (-(c + 1)) n = (-(c + 1)) % n := Int.tmod_eq_emod_of_nonneg (by omega)
    clear e
    go_enter Try.func11, Try.ntmps11
    go_wp2_with fail
    go_ret
    exact ⟨by first | rfl | exact ret_int e2, rfl⟩
  · have e : pickI c n = c % n := if_neg h
    rw [e]
    have e2 : Int.tmod c n = c % n := Int.tmod_eq_emod_of_nonneg (by omega)
    clear e
    go_enter Try.func11, Try.ntmps11
    go_wp2_with fail
    go_ret
    exact ⟨by first | rfl | exact ret_int e2, rfl⟩
end Go.Proofs.Ytihlhidpiehehaa
