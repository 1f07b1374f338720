/-
  Below, the program's and the document's.
-/
import Derived.Test.YtihlhidpiehehaaNext
import Derived.Deep.LoopGhost
namespace Go.Proofs.Ytihlhidpiehehaa
open Go.RowKit
theorem endI_tmod (n : Int) : Int.tmod 18446744073709551615 n = 18446744073709551615 % n := Int.tmod_eq_emod_of_nonneg (by decide)
theorem mix_tmod (s n : Int) : Int.tmod (mixI s) n = mixI s % n := Int.tmod_eq_emod_of_nonneg (mixI_lo s)
theorem w64_mod (x n : Int) (h : 1 ≤ n) (h2 : n ≤ 9223372036854775807) : wrap64 (x % n) = x % n := by
  have h1 := Int.emod_nonneg x (b := n) (by omega)
  have h3 := Int.emod_lt_of_pos x (b := n) (by omega)
  generalize x % n = y at *
  simp only [wrap64]; omega
theorem below_any {w : World} {g : Nat} {s : Int} (h : Dz w g s) (n : Int) (h1 : -9223372036854775808 ≤ n) (h2 : n ≤ 9223372036854775807) : Calls Try.prog 15 #[.pointer (some ⟨g, 0, none⟩), .int .i64 n] w fun e w' => e = .returned (.int .i64 (belA n s)) ∧ Dz w' g (belS n s) ∧ Mv w w' (fun k => k = g) := by
  by_cases hn : n < 1
  · have J := hide (next_any h)
    have e1 : belA n s = 0 := if_pos hn
    have e2 : belS n s = nxt s := if_pos hn
    rw [e1, e2]
    generalize nxt s = s' at *
    generalize mixI s = m at *
    clear h e1 e2
    go_enter Try.func15, Try.ntmps15
    go_wp2_with fail
    refine J.out.mono ?_
    rintro e w1 ⟨rfl, hd, hm⟩
    have HD := hide hd
    have HM := hide hm
    clear hd hm
    go_wp2_with fail
    go_ret
    exact ⟨rfl, HD.out, HM.out⟩
  · have hwr : IntKind.u64.wrap n = n := by rw [IntKind.wrap_u64]; omega
    have hb := endI_b (n := n) (by omega) h2
    have J := hide (next_any h)
    have JN := hide (fun (W : World) (s : Int) (h : Dz W g s) => next_any h)
    have e1 : belA n s = mixI (stop (endI n) s) % n := if_neg hn
    have e2 : belS n s = nxt (stop (endI n) s) := if_neg hn
    have hend : IntKind.u64.wrap (18446744073709551615 - 18446744073709551615 % n) = endI n := by
      rw [IntKind.wrap_u64]
      show endI n % _ = _
      omega
    rw [e1, e2]
    generalize endI n = m at *
    have H := hide h
    clear h e1 e2
    go_enter Try.func15, Try.ntmps15
    go_wp2_with fail
    refine J.out.mono ?_
    rintro e w1 ⟨rfl, hd, hm⟩
    have HD := hide hd
    have HM := hide hm
    clear hd hm
    go_wp2_with fail
    have hs := H.out.2
    have HEND := hide hend
    clear hend J
    go_loopg [7] (dist s) (fun k v7 wr => ∃ (s' x : Int), k = dist s' ∧ v7 = .int .u64 x ∧ Hid (x = mixI s') ∧ Hid (0 ≤ s' ∧ s' < 18446744073709551616) ∧ Hid (stop m s' = stop m s) ∧ Hid (Dz wr g (nxt s')) ∧ Hid (Mv w wr (fun k => k = g)))
    case atStart => exact ⟨s, _, rfl, rfl, rfl, hs, rfl, HD.out, HM.out⟩
    case round =>
      obtain ⟨s', x, rfl, rfl, HX, HS, HT, HZ, HW⟩ := hrel
      have hx0 : 0 ≤ x := by rw [HX.out]; exact mixI_lo _
      have hx1 : x < 18446744073709551616 := by rw [HX.out]; exact mixI_hi _
      clear hs
      by_cases hlt : x < m
      · have HF := hide (show stop m s = s' by rw [← HT.out]; exact stop_now (by rw [← HX.out]; exact hlt))
        go_wp2_with fail
        go_ret
        rw [HF.out, ← HX.out]
        exact ⟨ret_int (w64_mod x n (by omega) h2), HZ.out, HW.out⟩
      · have HF := hide (stop_on HS.out.1 HS.out.2 hb.1 (by rw [← HX.out]; exact hlt))
        have J2 := hide (JN.out wr _ HZ.out)
        go_wp2_with fail
        refine J2.out.mono ?_
        rintro e w2 ⟨rfl, hd, hm⟩
        have HD2 := hide hd
        have HM2 := hide hm
        clear hd hm
        go_wp2_with fail
        go_roundg (dist (nxt s'))
        case measure => exact HF.out.2
        case rel => exact ⟨nxt s', _, rfl, rfl, rfl, nxt_b _, by rw [← HF.out.1]; exact HT.out, HD2.out, HW.out.trans HM2.out (fun _ _ e => e)⟩
theorem dbelow_any {w : World} {g : Nat} {s : Int} (h : Rz w g s) (n : Int) (h1 : -9223372036854775808 ≤ n) (h2 : n ≤ 9223372036854775807) : Calls Try.prog 20 #[.pointer (some ⟨g, 0, none⟩), .int .i64 n] w fun e w' => e = .returned (.int .i64 (belA n s)) ∧ Rz w' g (belS n s) ∧ Mv w w' (fun k => k = g) := by
  by_cases hn : n < 1
  · have J := hide (dnext_any h)
    have e1 : belA n s = 0 := if_pos hn
    have e2 : belS n s = nxt s := if_pos hn
    rw [e1, e2]
    generalize nxt s = s' at *
    generalize mixI s = m at *
    clear h e1 e2
    go_enter Try.func20, Try.ntmps20
    go_wp2_with fail
    refine J.out.mono ?_
    rintro e w1 ⟨rfl, hd, hm⟩
    have HD := hide hd
    have HM := hide hm
    clear hd hm
    go_wp2_with fail
    go_ret
    exact ⟨rfl, HD.out, HM.out⟩
  · have hwr : IntKind.u64.wrap n = n := by rw [IntKind.wrap_u64]; omega
    have hb := endI_b (n := n) (by omega) h2
    have J := hide (dnext_any h)
    have JN := hide (fun (W : World) (s : Int) (h : Rz W g s) => dnext_any h)
    have e1 : belA n s = mixI (stop (endI n) s) % n := if_neg hn
    have e2 : belS n s = nxt (stop (endI n) s) := if_neg hn
    have hend : IntKind.u64.wrap (18446744073709551615 - 18446744073709551615 % n) = endI n := by
      rw [IntKind.wrap_u64]
      show endI n % _ = _
      omega
    rw [e1, e2]
    generalize endI n = m at *
    have H := hide h
    clear h e1 e2
    go_enter Try.func20, Try.ntmps20
    go_wp2_with fail
    have HEND := hide hend
    clear hend J
    go_loopg [7] (dist s) (fun k _ wr => ∃ (s' : Int), k = dist s' ∧ Hid (0 ≤ s' ∧ s' < 18446744073709551616) ∧ Hid (stop m s' = stop m s) ∧ Hid (Rz wr g s') ∧ Hid (Mv w wr (fun k => k = g)))
    case atStart => exact ⟨s, rfl, H.out.2, rfl, H.out, Mv.refl _ _⟩
    case round =>
      obtain ⟨s', rfl, HS, HT, HZ, HW⟩ := hrel
      have J2 := hide (JN.out wr _ HZ.out)
      obtain ⟨x, hx⟩ : ∃ x, x = mixI s' := ⟨_, rfl⟩
      have HX := hide hx
      have hx0 : 0 ≤ x := by rw [hx]; exact mixI_lo _
      have hx1 : x < 18446744073709551616 := by rw [hx]; exact mixI_hi _
      rw [← hx] at J2
      clear hx
      go_wp2_with fail
      refine J2.out.mono ?_
      rintro e w2 ⟨rfl, hd, hm⟩
      have HD2 := hide hd
      have HM2 := hide hm
      clear hd hm
      by_cases hlt : x < m
      · have HF := hide (show stop m s = s' by rw [← HT.out]; exact stop_now (by rw [← HX.out]; exact hlt))
        go_wp2_with fail
        go_ret
        rw [HF.out, ← HX.out]
        exact ⟨ret_int (w64_mod x n (by omega) h2), HD2.out, HW.out.trans HM2.out (fun _ _ e => e)⟩
      · have HF := hide (stop_on HS.out.1 HS.out.2 hb.1 (by rw [← HX.out]; exact hlt))
        go_wp2_with fail
        go_roundg (dist (nxt s'))
        case measure => exact HF.out.2
        case rel => exact ⟨nxt s', rfl, nxt_b _, by rw [← HF.out.1]; exact HT.out, HD2.out, HW.out.trans HM2.out (fun _ _ e => e)⟩
end Go.Proofs.Ytihlhidpiehehaa
