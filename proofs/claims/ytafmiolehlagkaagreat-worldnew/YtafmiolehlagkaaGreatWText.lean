/-
  World: whether a text is among others.
-/
import Derived.Test.YtafmiolehlagkaaGreatWUsual
namespace Go.Proofs.YtafmiolehlagkaaGreat
open Go.RowKit
set_option maxRecDepth 100000
theorem text_inj {a b : ByteArray} (h : a.data.toList = b.data.toList) : a = b := by
  cases a
  cases b
  simp only [ByteArray.mk.injEq]
  exact Array.toList_inj.1 h
set_option maxHeartbeats 2000000 in
theorem index_any {w : World} {v : Value} {l : List ByteArray} (h : Sr w v l) (x : ByteArray) : Calls Tryz.prog 212 #[v, .string x] w fun e w' => (∃ i : Int, e = .returned (.int .i64 i) ∧ (0 ≤ i ↔ x ∈ l)) ∧ w' = w := by
  obtain ⟨ao, c, rfl, h1, h2, h3⟩ := h
  have hbig : c ≤ 9223372036854775807 := by unfold maxLen at h2; omega
  have H3 := hide h3
  clear h3 h2
  go_enter Tryz.func212, Tryz.ntmps212
  go_wp2_with fail
  go_loopw [8] (fun v8 W => ∃ i : Nat, i ≤ l.length ∧ v8 = .int .i64 (i : Int) ∧ Hid (x ∉ l.take i) ∧ Hid (W = w)) (fun v8 _ => l.length - (intOf v8).toNat)
  case atStart => exact ⟨0, Nat.zero_le _, rfl, by simp [Hid], rfl⟩
  case round =>
    obtain ⟨i, hil, rfl, HN, HW⟩ := hrel
    by_cases hlt : i < l.length
    · have t1 : (i : Int) < (l.length : Int) := by omega
      obtain ⟨g, o, rfl, e1⟩ := H3.out i hlt
      rw [← HW.out] at e1
      have hm1 : Hid (x ∉ l.take (i + 1) ↔ ¬ x = l[i]) := by
        unfold Hid
        rw [List.take_succ_eq_append_getElem hlt, List.mem_append, List.mem_singleton]
        have := HN.out
        constructor
        · intro h e; exact h (.inr e)
        · intro h e
          rcases e with e | e
          · exact this e
          · exact h e
      have hm2 : Hid (x = l[i] → x ∈ l) := fun e => e ▸ List.getElem_mem hlt
      generalize l[i] = y at *
      by_cases hxy : x = y
      · have HIN := hide (hm2.out hxy)
        subst hxy
        clear hm2 hm1
        go_wp2_with fail
        go_ret
        exact ⟨⟨_, rfl, ⟨fun _ => HIN.out, fun _ => by omega⟩⟩, HW.out⟩
      · have HNN := hide (hm1.out.2 hxy)
        have hb : (x.toList == y.toList) = false := by
          rw [beq_eq_false_iff_ne]
          intro e
          rw [ByteArray.toList_eq, ByteArray.toList_eq] at e
          exact hxy (text_inj e)
        clear hm1 hm2
        go_wp2_with fail
        refine ⟨⟨i + 1, by omega, by go_num, HNN, HW⟩, ?_⟩
        simp [intOf]
        omega
    · obtain rfl : i = l.length := by omega
      have t1 : ¬ (l.length : Int) < (l.length : Int) := by omega
      have hn := HN.out
      rw [List.take_length] at hn
      have HN2 := hide hn
      clear hn HN
      go_wp2_with fail
      go_ret
      exact ⟨⟨_, rfl, ⟨fun e => by omega, fun e => absurd e HN2.out⟩⟩, HW.out⟩
set_option maxHeartbeats 1000000 in
theorem contains_any {w : World} {v : Value} {l : List ByteArray} (h : Sr w v l) (x : ByteArray) [Decidable (x ∈ l)] : Calls Tryz.prog 181 #[v, .string x] w fun e w' => e = .returned (.bool (decide (x ∈ l))) ∧ w' = w := by
  have J := hide (index_any h x)
  obtain ⟨ao, c, rfl, -⟩ := h
  by_cases h0 : x ∈ l
  · rw [decide_eq_true h0]
    have J2 : Hid (Calls Tryz.prog 212 #[.slice ao l.length c, .string x] w fun e w' => (∃ i : Int, e = .returned (.int .i64 i) ∧ i ≥ 0) ∧ w' = w) := J.out.mono (fun _e _w' ⟨⟨i, e1, e2⟩, e3⟩ => ⟨⟨i, e1, e2.2 h0⟩, e3⟩)
    clear J h0
    go_enter Tryz.func181, Tryz.ntmps181
    go_wp2_with fail
    refine J2.out.mono ?_
    rintro e w' ⟨⟨i, rfl, t1⟩, rfl⟩
    go_wp2_with fail
    go_ret
    exact ⟨rfl, rfl⟩
  · rw [decide_eq_false h0]
    have J2 : Hid (Calls Tryz.prog 212 #[.slice ao l.length c, .string x] w fun e w' => (∃ i : Int, e = .returned (.int .i64 i) ∧ ¬ 0 ≤ i) ∧ w' = w) := J.out.mono (fun _e _w' ⟨⟨i, e1, e2⟩, e3⟩ => ⟨⟨i, e1, fun e => h0 (e2.1 e)⟩, e3⟩)
    clear J h0
    go_enter Tryz.func181, Tryz.ntmps181
    go_wp2_with fail
    refine J2.out.mono ?_
    rintro e w' ⟨⟨i, rfl, t1⟩, rfl⟩
    have t2 : decide (0 ≤ i) = false := decide_eq_false (by omega)
    go_wp2_with fail
    go_ret
    refine ⟨?_, rfl⟩
    simp
end Go.Proofs.YtafmiolehlagkaaGreat
