/-
  World: whether texts are words, and no two the same.
-/
import Derived.Test.YtafmiolehlagkaaGreatWIsw
namespace Go.Proofs.YtafmiolehlagkaaGreat
open Go.RowKit
set_option maxRecDepth 100000
def areW (l : List ByteArray) : Prop := (∀ x ∈ l, isW x) ∧ l.Nodup
theorem areW_push (l : List ByteArray) (i : Nat) (hi : i < l.length) : areW (l.take (i + 1)) ↔ areW (l.take i) ∧ isW l[i] ∧ l[i] ∉ l.take i := by
  unfold areW
  rw [List.take_succ_eq_append_getElem hi, List.nodup_append]
  simp only [List.mem_append, List.mem_singleton]
  constructor
  · rintro ⟨h1, h2, -, h4⟩
    exact ⟨⟨fun x hx => h1 x (.inl hx), h2⟩, h1 _ (.inr rfl), fun e => h4 _ e _ rfl rfl⟩
  · rintro ⟨⟨h1, h2⟩, h3, h4⟩
    refine ⟨fun x hx => ?_, h2, by simp, fun a ha b hb e => h4 (by rw [← hb, ← e]; exact ha)⟩
    rcases hx with hx | rfl
    · exact h1 x hx
    · exact h3
theorem areW_take (l : List ByteArray) (i : Nat) (h : areW l) : areW (l.take i) := ⟨fun x hx => h.1 x (List.mem_of_mem_take hx), h.2.sublist (List.take_sublist _ _)⟩
set_option maxHeartbeats 4000000 in
theorem arewords_any {w : World} {v : Value} {l : List ByteArray} (h : Sr w v l) : Calls Tryz.prog 143 #[v] w fun e w' => (∃ b : Bool, e = .returned (.bool b) ∧ (b = true ↔ areW l)) ∧ w' = w := by
  obtain ⟨ao, c, rfl, h1, h2, h3⟩ := h
  have hbig : c ≤ 9223372036854775807 := by unfold maxLen at h2; omega
  have H2 := hide h2
  have H3 := hide h3
  clear h3 h2
  go_enter Tryz.func143, Tryz.ntmps143
  go_wp2_with fail
  go_loopw [7] (fun v7 W => ∃ i : Nat, i ≤ l.length ∧ v7 = .int .i64 (i : Int) ∧ Hid (areW (l.take i)) ∧ Hid (W = w)) (fun v7 _ => l.length - (intOf v7).toNat)
  case atStart => exact ⟨0, Nat.zero_le _, rfl, ⟨fun x hx => by simp at hx, by simp⟩, rfl⟩
  case round =>
    obtain ⟨i, hil, rfl, HA, HW⟩ := hrel
    by_cases hlt : i < l.length
    · have t1 : (i : Int) < (l.length : Int) := by omega
      obtain ⟨g, o, rfl, e1⟩ := H3.out i hlt
      rw [← HW.out] at e1
      have hS : Sr wr (.slice (some ⟨g, o, none⟩) i c) (l.take i) := by
        have hl : (l.take i).length = i := by rw [List.length_take]; omega
        refine ⟨some ⟨g, o, none⟩, c, by rw [hl], by omega, H2.out, fun j hj => ⟨g, o, rfl, ?_⟩⟩
        obtain ⟨g', o', e', z⟩ := H3.out j (by omega)
        simp only [Option.some.injEq, Addr.mk.injEq, and_true] at e'
        obtain ⟨rfl, rfl⟩ := e'
        rw [List.getElem_take, HW.out]
        exact z
      have hp := areW_push l i hlt
      have hno : ¬ areW (l.take (i + 1)) → ¬ areW l := fun h e => h (areW_take l _ e)
      have HP := hide hp
      have HNO := hide hno
      letI : Decidable (l[i] ∈ l.take i) := Classical.propDecidable _
      have JC := hide (contains_any hS l[i])
      have JC1 : Hid (l[i] ∈ l.take i → Calls Tryz.prog 181 #[.slice (some ⟨g, o, none⟩) i c, .string l[i]] wr fun e w' => e = .returned (.bool true) ∧ w' = wr) := fun hm => by
        have := JC.out
        rw [decide_eq_true hm] at this
        exact this
      have JC0 : Hid (l[i] ∉ l.take i → Calls Tryz.prog 181 #[.slice (some ⟨g, o, none⟩) i c, .string l[i]] wr fun e w' => e = .returned (.bool false) ∧ w' = wr) := fun hm => by
        have := JC.out
        rw [decide_eq_false hm] at this
        exact this
      have JW := hide (word_any l[i] wr)
      have tm : (i : Int) ≤ (l.length : Int) := by omega
      have tm2 : (i : Int) ≤ (c : Int) := by omega
      clear JC
      clear hS hp hno
      generalize l[i] = x at *
      by_cases hw : isW x
      · have JW1 : Hid (Calls Tryz.prog 180 #[.string x] wr fun e w' => e = .returned (.bool true) ∧ w' = wr) := JW.out.mono (fun _e _w' ⟨⟨b, k1, k2⟩, k3⟩ => ⟨by rw [k1, k2.2 hw], k3⟩)
        by_cases hm : x ∈ l.take i
        · have JC := hide (JC1.out hm)
          clear JC1 JC0
          have HN := hide (HNO.out (fun e => (HP.out.1 e).2.2 hm))
          clear JW hw hm HP HNO
          go_wp2_with fail
          refine JW1.out.mono ?_
          rintro e w' ⟨rfl, rfl⟩
          go_wp2_with fail
          refine JC.out.mono ?_
          rintro e w' ⟨rfl, rfl⟩
          go_wp2_with fail
          go_ret
          exact ⟨⟨_, rfl, ⟨fun e => (by cases e), fun e => absurd e HN.out⟩⟩, HW.out⟩
        · have JC := hide (JC0.out hm)
          clear JC1 JC0
          have HN := hide (HP.out.2 ⟨HA.out, hw, hm⟩)
          clear JW hw hm HP HNO
          go_wp2_with fail
          refine JW1.out.mono ?_
          rintro e w' ⟨rfl, rfl⟩
          go_wp2_with fail
          refine JC.out.mono ?_
          rintro e w' ⟨rfl, rfl⟩
          go_wp2_with fail
          go_roundw
          case rel => exact ⟨i + 1, by omega, by go_num, HN, HW⟩
          case measure => simp [intOf]; omega
      · have JW1 : Hid (Calls Tryz.prog 180 #[.string x] wr fun e w' => e = .returned (.bool false) ∧ w' = wr) := JW.out.mono (fun _e _w' ⟨⟨b, k1, k2⟩, k3⟩ => ⟨by rw [k1]; cases b with
          | true => exact absurd (k2.1 rfl) hw
          | false => rfl, k3⟩)
        have HN := hide (HNO.out (fun e => hw (HP.out.1 e).2.1))
        clear JW hw HP HNO JC1 JC0
        go_wp2_with fail
        refine JW1.out.mono ?_
        rintro e w' ⟨rfl, rfl⟩
        go_wp2_with fail
        go_ret
        exact ⟨⟨_, rfl, ⟨fun e => (by cases e), fun e => absurd e HN.out⟩⟩, HW.out⟩
    · obtain rfl : i = l.length := by omega
      have t1 : ¬ (l.length : Int) < (l.length : Int) := by omega
      have hy := HA.out
      rw [List.take_length] at hy
      have HY := hide hy
      clear HA hy
      go_wp2_with fail
      go_ret
      first | exact ⟨.inr ⟨rfl, HY.out⟩, HW.out⟩ | exact ⟨⟨_, rfl, ⟨fun _ => HY.out, fun _ => rfl⟩⟩, HW.out⟩
end Go.Proofs.YtafmiolehlagkaaGreat
