/-
  World: words.
-/
import Derived.Test.YtafmiolehlagkaaGreatWWord
namespace Go.Proofs.YtafmiolehlagkaaGreat
open Go.RowKit
set_option maxRecDepth 100000
def okB (c : Int) : Bool := isL c || isD c || decide (c = 95)
def isW (x : ByteArray) : Prop := ∃ h : 0 < x.size, x.size ≤ 16 ∧ isL (x[0].toNat : Int) = true ∧ ∀ i (hi : i < x.size), okB (x[i].toNat : Int) = true
theorem text_empty {x : ByteArray} (h : 0 < x.size) : x.toList.isEmpty = false := by
  rw [ByteArray.toList_eq]
  cases hl : x.data.toList with
  | nil =>
    have : x.data.toList.length = x.size := Array.length_toList
    rw [hl] at this
    simp at this
    omega
  | cons _ _ => rfl
set_option maxHeartbeats 4000000 in
theorem word_any (x : ByteArray) (w : World) : Calls Tryz.prog 180 #[.string x] w fun e w' => (∃ b : Bool, e = .returned (.bool b) ∧ (b = true ↔ isW x)) ∧ w' = w := by
  by_cases h1 : 0 < x.size
  · have he := text_empty h1
    by_cases h16 : x.size ≤ 16
    · have t16 : ¬ (x.size : Int) > 16 := by omega
      have J0 := hide (letter_any (x[0].toNat : Int) w)
      cases hL : isL (x[0].toNat : Int) with
      | false =>
        rw [hL] at J0
        have HN : Hid (¬ isW x) := fun ⟨_, _, h, _⟩ => by rw [hL] at h; cases h
        clear hL
        go_enter Tryz.func180, Tryz.ntmps180
        go_wp2_with fail
        refine J0.out.mono ?_
        rintro e w' ⟨rfl, rfl⟩
        go_wp2_with fail
        go_ret
        exact ⟨⟨_, rfl, ⟨fun e => (by cases e), fun e => absurd e HN.out⟩⟩, rfl⟩
      | true =>
        rw [hL] at J0
        have HL := hide hL
        clear hL
        go_enter Tryz.func180, Tryz.ntmps180
        go_wp2_with fail
        refine J0.out.mono ?_
        rintro e w' ⟨rfl, rfl⟩
        obtain ⟨w, rfl⟩ : ∃ X, X = w' := ⟨_, rfl⟩
        go_wp2_with fail
        go_loopw [20] (fun v20 W => ∃ i : Nat, i ≤ x.size ∧ v20 = .int .i64 (i : Int) ∧ Hid (∀ j (hj : j < x.size), j < i → okB (x[j].toNat : Int) = true) ∧ Hid (W = w)) (fun v20 _ => x.size - (intOf v20).toNat)
        case atStart => exact ⟨0, Nat.zero_le _, rfl, fun j hj h => absurd h (by omega), rfl⟩
        case round =>
          obtain ⟨i, hil, rfl, HA, HW⟩ := hrel
          by_cases hlt : i < x.size
          · have t1 : (i : Int) < (x.size : Int) := by omega
            have J1 : Hid (∀ W, Calls Tryz.prog 210 #[.int .u8 (x[i].toNat : Int)] W fun e w' => e = .returned (.bool (isL (x[i].toNat : Int))) ∧ w' = W) := fun W => letter_any _ W
            have J2 : Hid (∀ W, Calls Tryz.prog 211 #[.int .u8 (x[i].toNat : Int)] W fun e w' => e = .returned (.bool (isD (x[i].toNat : Int))) ∧ w' = W) := fun W => digit_any _ W
            have HOK : Hid (okB (x[i].toNat : Int) = true → Hid (∀ j (hj : j < x.size), j < i + 1 → okB (x[j].toNat : Int) = true)) := fun h j hj hji => by
              by_cases e : j = i
              · subst e; exact h
              · exact HA.out j hj (by omega)
            have HNO : Hid (okB (x[i].toNat : Int) = false → ¬ isW x) := fun h ⟨_, _, _, h4⟩ => by
              have := h4 i hlt
              rw [h] at this
              cases this
            go_upto_region 7 with fail
            generalize (x[i].toNat : Int) = c at *
            cases hl : isL c with
            | true =>
              have HA2 := hide (HOK.out (by unfold okB; rw [hl]; rfl))
              clear HOK HNO
              simp only [hl] at J1
              clear J2 hl
              go_wp2_with fail
              refine (J1.out _).mono ?_
              rintro e w' ⟨rfl, rfl⟩
              go_wp2_with fail
              go_roundw
              case rel => exact ⟨i + 1, by omega, by go_num, HA2.out, HW⟩
              case measure => simp [intOf]; omega
            | false =>
              simp only [hl] at J1
              cases hd : isD c with
              | true =>
                have HA2 := hide (HOK.out (by unfold okB; rw [hl, hd]; rfl))
                clear HOK HNO
                simp only [hd] at J2
                clear hl hd
                go_wp2_with fail
                refine (J1.out _).mono ?_
                rintro e w' ⟨rfl, rfl⟩
                go_wp2_with fail
                refine (J2.out _).mono ?_
                rintro e w' ⟨rfl, rfl⟩
                go_wp2_with fail
                go_roundw
                case rel => exact ⟨i + 1, by omega, by go_num, HA2.out, HW⟩
                case measure => simp [intOf]; omega
              | false =>
                simp only [hd] at J2
                by_cases h95 : c = 95
                · have HA2 := hide (HOK.out (by unfold okB; rw [hl, hd, h95]; rfl))
                  subst h95
                  clear HOK HNO hl hd
                  go_wp2_with fail
                  refine (J1.out _).mono ?_
                  rintro e w' ⟨rfl, rfl⟩
                  go_wp2_with fail
                  refine (J2.out _).mono ?_
                  rintro e w' ⟨rfl, rfl⟩
                  go_wp2_with fail
                  go_roundw
                  case rel => exact ⟨i + 1, by omega, by go_num, HA2.out, HW⟩
                  case measure => simp [intOf]; omega
                · have HN := hide (HNO.out (by unfold okB; rw [hl, hd, decide_eq_false h95]; rfl))
                  have hb : (c != 95) = true := by rw [bne_iff_ne]; exact h95
                  have hb2 : (c == 95) = false := by rw [beq_eq_false_iff_ne]; exact h95
                  clear HOK HNO hl hd
                  go_wp2_with fail
                  refine (J1.out _).mono ?_
                  rintro e w' ⟨rfl, rfl⟩
                  go_wp2_with fail
                  refine (J2.out _).mono ?_
                  rintro e w' ⟨rfl, rfl⟩
                  go_wp2_with fail
                  go_ret
                  exact ⟨⟨_, rfl, ⟨fun e => (by cases e), fun e => absurd e HN.out⟩⟩, HW.out⟩
          · obtain rfl : i = x.size := by omega
            have t1 : ¬ (x.size : Int) < (x.size : Int) := by omega
            have HY : Hid (isW x) := ⟨h1, h16, HL.out, fun j hj => HA.out j hj hj⟩
            clear HA HL
            go_wp2_with fail
            go_ret
            first | exact ⟨.inr ⟨rfl, HY.out⟩, HW.out⟩ | exact ⟨⟨_, rfl, ⟨fun _ => HY.out, fun _ => rfl⟩⟩, HW.out⟩
    · have t16 : (x.size : Int) > 16 := by omega
      have HN : Hid (¬ isW x) := fun ⟨_, h, _⟩ => h16 h
      clear h16
      go_enter Tryz.func180, Tryz.ntmps180
      go_wp2_with fail
      go_ret
      exact ⟨⟨_, rfl, ⟨fun e => (by cases e), fun e => absurd e HN.out⟩⟩, rfl⟩
  · have he : x.toList.isEmpty = true := by
      rw [ByteArray.toList_eq]
      have : x.data.toList.length = x.size := Array.length_toList
      cases hl : x.data.toList with
      | nil => rfl
      | cons _ _ => rw [hl] at this; simp at this; omega
    have HN : Hid (¬ isW x) := fun ⟨h, _⟩ => h1 h
    clear h1
    go_enter Tryz.func180, Tryz.ntmps180
    go_wp2_with fail
    go_ret
    exact ⟨⟨_, rfl, ⟨fun e => (by cases e), fun e => absurd e HN.out⟩⟩, rfl⟩
end Go.Proofs.YtafmiolehlagkaaGreat
