/-
  World: the document's words.
-/
import Derived.Test.YtafmiolehlagkaaGreatNSame
namespace Go.Proofs.YtafmiolehlagkaaGreat
open Go.RowKit
set_option maxRecDepth 100000
/-- What is known behind i bytes. -/
def Wu (x : ByteArray) (i : Nat) : Prop := (∀ j (hj : j < x.size), j < i → okB (x[j].toNat : Int) = true) ∧ ∀ h : 0 < x.size, 0 < i → isL (x[0].toNat : Int) = true
theorem Wu.push {x : ByteArray} {i : Nat} (h : Wu x i) (hi : i < x.size) (h1 : okB (x[i].toNat : Int) = true) (h2 : i = 0 → isL (x[i].toNat : Int) = true) : Wu x (i + 1) := by
  refine ⟨fun j hj hji => ?_, fun h0 _ => ?_⟩
  · by_cases e : j = i
    · subst e; exact h1
    · exact h.1 j hj (by omega)
  · by_cases e : i = 0
    · subst e; exact h2 rfl
    · exact h.2 h0 (by omega)
theorem Wu.no {x : ByteArray} {i : Nat} (hi : i < x.size) (h : okB (x[i].toNat : Int) = false ∨ (i = 0 ∧ isL (x[i].toNat : Int) = false)) : ¬ isW x := fun ⟨h0, _, h2, h3⟩ => by
  rcases h with h | ⟨rfl, h⟩
  · have := h3 i hi
    rw [h] at this
    cases this
  · rw [h] at h2
    cases h2
set_option maxHeartbeats 8000000 in
theorem dword_any (x : ByteArray) (hbig : x.size ≤ 9223372036854775807) (w : World) : Calls Tryz.prog 194 #[.string x] w fun e w' => (∃ b : Bool, e = .returned (.bool b) ∧ (b = true ↔ isW x)) ∧ Below w.heap.size w w' := by
  go_enter Tryz.func194, Tryz.ntmps194
  go_wp2_with fail
  go_loopw [3] (fun v3 W => ∃ i : Nat, i ≤ x.size ∧ v3 = .int .i64 (i : Int) ∧ Hid (Wu x i) ∧ Hid (Below w.heap.size w W)) (fun v3 _ => x.size - (intOf v3).toNat)
  case atStart => exact ⟨0, Nat.zero_le _, rfl, ⟨fun j hj h => absurd h (by omega), fun _ h => absurd h (by omega)⟩, Below.refl _ _⟩
  case round =>
    obtain ⟨i, hil, rfl, HA, HW⟩ := hrel
    by_cases hlt : i < x.size
    · have t1 : (i : Int) < (x.size : Int) := by omega
      have HY : Hid (okB (x[i].toNat : Int) = true → (i = 0 → isL (x[i].toNat : Int) = true) → Wu x (i + 1)) := fun h1 h2 => HA.out.push hlt h1 h2
      have HN : Hid (okB (x[i].toNat : Int) = false ∨ (i = 0 ∧ isL (x[i].toNat : Int) = false) → ¬ isW x) := Wu.no hlt
      go_upto_region 5 with fail
      generalize (x[i].toNat : Int) = c at *
      by_cases q0 : 97 ≤ c ∧ c ≤ 122
      · have f1 : c ≥ 97 := by omega
        have f2 : c ≤ 122 := by omega
        have f5 : c ≥ 48 := by omega
        have f6 : ¬ c ≤ 57 := by omega
        have f7 : (c == 95) = false := by rw [beq_eq_false_iff_ne]; omega
        have HA2 := hide (HY.out (by simp [okB, isL, isD]; omega) (by intro _; simp [isL]; omega))
        clear HY HN HA
        go_wp2_with fail
        go_roundw
        case rel => exact ⟨i + 1, by omega, by go_num, HA2, HW⟩
        case measure => simp [intOf]; omega
      by_cases q1 : 122 < c
      · have f1 : c ≥ 97 := by omega
        have f2 : ¬ c ≤ 122 := by omega
        have f3 : c ≥ 65 := by omega
        have f4 : ¬ c ≤ 90 := by omega
        have f5 : c ≥ 48 := by omega
        have f6 : ¬ c ≤ 57 := by omega
        have f7 : (c == 95) = false := by rw [beq_eq_false_iff_ne]; omega
        have HM := hide (HN.out (by left; simp [okB, isL, isD]; omega))
        clear HY HN HA
        go_wp2_with fail
        all_goals go_ret
        all_goals first | exact ⟨.inl ⟨rfl, HM.out⟩, HW.out⟩ | exact ⟨⟨_, rfl, ⟨fun e => (by cases e), fun e => absurd e HM.out⟩⟩, HW.out⟩
      by_cases q2 : 65 ≤ c ∧ c ≤ 90
      · have f1 : ¬ c ≥ 97 := by omega
        have f3 : c ≥ 65 := by omega
        have f4 : c ≤ 90 := by omega
        have f5 : c ≥ 48 := by omega
        have f6 : ¬ c ≤ 57 := by omega
        have f7 : (c == 95) = false := by rw [beq_eq_false_iff_ne]; omega
        have HA2 := hide (HY.out (by simp [okB, isL, isD]; omega) (by intro _; simp [isL]; omega))
        clear HY HN HA
        go_wp2_with fail
        go_roundw
        case rel => exact ⟨i + 1, by omega, by go_num, HA2, HW⟩
        case measure => simp [intOf]; omega
      by_cases q3 : c = 95
      · have f1 : ¬ c ≥ 97 := by omega
        have f3 : c ≥ 65 := by omega
        have f4 : ¬ c ≤ 90 := by omega
        have f5 : c ≥ 48 := by omega
        have f6 : ¬ c ≤ 57 := by omega
        have f7 : (c == 95) = true := by rw [beq_iff_eq]; omega
        by_cases h0 : i = 0
        · subst h0
          have HM := hide (HN.out (by right; refine ⟨rfl, ?_⟩; simp [isL]; omega))
          clear HY HN HA
          go_wp2_with fail
          all_goals go_ret
          all_goals first | exact ⟨.inl ⟨rfl, HM.out⟩, HW.out⟩ | exact ⟨⟨_, rfl, ⟨fun e => (by cases e), fun e => absurd e HM.out⟩⟩, HW.out⟩
        · have f8 : ((i : Int) == 0) = false := by rw [beq_eq_false_iff_ne]; omega
          have HA2 := hide (HY.out (by simp [okB, isL, isD]; omega) (by intro e; exact absurd e h0))
          clear HY HN HA
          go_wp2_with fail
          go_roundw
          case rel => exact ⟨i + 1, by omega, by go_num, HA2, HW⟩
          case measure => simp [intOf]; omega
      by_cases q4 : 91 ≤ c ∧ c ≤ 96
      · have f1 : ¬ c ≥ 97 := by omega
        have f3 : c ≥ 65 := by omega
        have f4 : ¬ c ≤ 90 := by omega
        have f5 : c ≥ 48 := by omega
        have f6 : ¬ c ≤ 57 := by omega
        have f7 : (c == 95) = false := by rw [beq_eq_false_iff_ne]; omega
        have HM := hide (HN.out (by left; simp [okB, isL, isD]; omega))
        clear HY HN HA
        go_wp2_with fail
        all_goals go_ret
        all_goals first | exact ⟨.inl ⟨rfl, HM.out⟩, HW.out⟩ | exact ⟨⟨_, rfl, ⟨fun e => (by cases e), fun e => absurd e HM.out⟩⟩, HW.out⟩
      by_cases q5 : 58 ≤ c ∧ c ≤ 64
      · have f1 : ¬ c ≥ 97 := by omega
        have f3 : ¬ c ≥ 65 := by omega
        have f5 : c ≥ 48 := by omega
        have f6 : ¬ c ≤ 57 := by omega
        have f7 : (c == 95) = false := by rw [beq_eq_false_iff_ne]; omega
        have HM := hide (HN.out (by left; simp [okB, isL, isD]; omega))
        clear HY HN HA
        go_wp2_with fail
        all_goals go_ret
        all_goals first | exact ⟨.inl ⟨rfl, HM.out⟩, HW.out⟩ | exact ⟨⟨_, rfl, ⟨fun e => (by cases e), fun e => absurd e HM.out⟩⟩, HW.out⟩
      by_cases q6 : 48 ≤ c ∧ c ≤ 57
      · have f1 : ¬ c ≥ 97 := by omega
        have f3 : ¬ c ≥ 65 := by omega
        have f5 : c ≥ 48 := by omega
        have f6 : c ≤ 57 := by omega
        by_cases h0 : i = 0
        · subst h0
          have HM := hide (HN.out (by right; refine ⟨rfl, ?_⟩; simp [isL]; omega))
          clear HY HN HA
          go_wp2_with fail
          all_goals go_ret
          all_goals first | exact ⟨.inl ⟨rfl, HM.out⟩, HW.out⟩ | exact ⟨⟨_, rfl, ⟨fun e => (by cases e), fun e => absurd e HM.out⟩⟩, HW.out⟩
        · have f8 : ((i : Int) == 0) = false := by rw [beq_eq_false_iff_ne]; omega
          have HA2 := hide (HY.out (by simp [okB, isL, isD]; omega) (by intro e; exact absurd e h0))
          clear HY HN HA
          go_wp2_with fail
          go_roundw
          case rel => exact ⟨i + 1, by omega, by go_num, HA2, HW⟩
          case measure => simp [intOf]; omega
      have f1 : ¬ c ≥ 97 := by omega
      have f3 : ¬ c ≥ 65 := by omega
      have f5 : ¬ c ≥ 48 := by omega
      have f7 : (c == 95) = false := by rw [beq_eq_false_iff_ne]; omega
      have HM := hide (HN.out (by left; simp [okB, isL, isD]; omega))
      clear HY HN HA
      go_wp2_with fail
      all_goals go_ret
      all_goals first | exact ⟨.inl ⟨rfl, HM.out⟩, HW.out⟩ | exact ⟨⟨_, rfl, ⟨fun e => (by cases e), fun e => absurd e HM.out⟩⟩, HW.out⟩
    · obtain rfl : i = x.size := by omega
      have t1 : ¬ (x.size : Int) < (x.size : Int) := by omega
      by_cases h1 : (x.size : Int) ≥ 1
      · by_cases h16 : (x.size : Int) ≤ 16
        · have HY : Hid (isW x) := ⟨by omega, by omega, HA.out.2 (by omega) (by omega), fun j hj => HA.out.1 j hj hj⟩
          clear HA
          go_wp2_with fail
          go_ret
          first | exact ⟨.inr ⟨rfl, HY.out⟩, HW.out⟩ | exact ⟨⟨_, rfl, ⟨fun _ => HY.out, fun _ => rfl⟩⟩, HW.out⟩
        · have HM : Hid (¬ isW x) := fun ⟨_, h, _⟩ => by omega
          clear HA
          go_wp2_with fail
          go_ret
          first | exact ⟨.inl ⟨rfl, HM.out⟩, HW.out⟩ | exact ⟨⟨_, rfl, ⟨fun e => (by cases e), fun e => absurd e HM.out⟩⟩, HW.out⟩
      · have HM : Hid (¬ isW x) := fun ⟨h, _⟩ => by omega
        clear HA
        go_wp2_with fail
        go_ret
        first | exact ⟨.inl ⟨rfl, HM.out⟩, HW.out⟩ | exact ⟨⟨_, rfl, ⟨fun e => (by cases e), fun e => absurd e HM.out⟩⟩, HW.out⟩
end Go.Proofs.YtafmiolehlagkaaGreat
