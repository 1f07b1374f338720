/-
  World: the document's words, no two the same.
-/
import Derived.Test.YtafmiolehlagkaaGreatNWord
namespace Go.Proofs.YtafmiolehlagkaaGreat
open Go.RowKit
set_option maxRecDepth 100000
abbrev Small (x : ByteArray) : Prop := x.size ≤ 9223372036854775807
theorem Sr.later {w w' : World} {v : Value} {l : List ByteArray} (h : Sr w v l) (hb : Below w.heap.size w w') : Sr w' v l := h.on (fun a _x e => (hb.cell (p := a) (World.block_lt_of_cell? w _ e)).trans e)
theorem tk_not {α : Type} {l : List α} {x : α} {j : Nat} (hj : j < l.length) (h : x ∉ l.take j) (hx : ¬ l[j] = x) : x ∉ l.take (j + 1) := by
  rw [List.take_succ_eq_append_getElem hj, List.mem_append, List.mem_singleton]
  rintro (e | e)
  · exact h e
  · exact hx e.symm
set_option maxHeartbeats 8000000 in
theorem dwords_any {w : World} {v : Value} {l : List ByteArray} (h : Sr w v l) (hx : ∀ x ∈ l, Small x) : Calls Tryz.prog 157 #[v] w fun e w' => (∃ b : Bool, e = .returned (.bool b) ∧ (b = true ↔ areW l)) ∧ Below w.heap.size w w' := by
  have HS := hide h
  have HX := hide hx
  obtain ⟨ao, c, rfl, h1, h2, -⟩ := h
  have hbig : c ≤ 9223372036854775807 := by unfold maxLen at h2; omega
  clear h2 hx
  go_enter Tryz.func157, Tryz.ntmps157
  go_wp2_with fail
  go_loopw [3] (fun v3 W => ∃ i : Nat, i ≤ l.length ∧ v3 = .int .i64 (i : Int) ∧ Hid (areW (l.take i)) ∧ Hid (Below w.heap.size w W)) (fun v3 _ => l.length - (intOf v3).toNat)
  case atStart => exact ⟨0, Nat.zero_le _, rfl, ⟨fun x hx => by simp at hx, by simp⟩, Below.refl _ _⟩
  case round =>
    obtain ⟨i, hil, rfl, HA, HW⟩ := hrel
    by_cases hlt : i < l.length
    · have t1 : (i : Int) < (l.length : Int) := by omega
      have H3 : Hid (Sr wr (.slice ao l.length c) l) := HS.out.later HW.out
      obtain ⟨_, _, e, -, -, h3⟩ := H3.out
      simp only [Value.slice.injEq] at e
      obtain ⟨rfl, -, rfl⟩ := e
      obtain ⟨g, o, rfl, e1⟩ := h3 i hlt
      clear h3
      have HP := hide (areW_push l i hlt)
      have HNO : Hid (¬ areW (l.take (i + 1)) → ¬ areW l) := fun h e => h (areW_take l _ e)
      have JW := hide (dword_any l[i] (HX.out _ (List.getElem_mem hlt)) wr)
      have HT : Hid (∀ j (hj : j < l.length), l[i] ∉ l.take j → ¬ l[j] = l[i] → l[i] ∉ l.take (j + 1)) := fun j hj h h' => tk_not hj h h'
      have HM : Hid (∀ j (hj : j < l.length), j < i → l[j] = l[i] → l[i] ∈ l.take i) := fun j hj hji e => by
        rw [← e]
        exact List.mem_take_iff_getElem.2 ⟨j, by omega, rfl⟩
      generalize l[i] = x at *
      by_cases hw : isW x
      · have JW1 : Hid (Calls Tryz.prog 194 #[.string x] wr fun e w' => e = .returned (.bool true) ∧ Below wr.heap.size wr w') := JW.out.mono (fun _e _w' ⟨⟨b, k1, k2⟩, k3⟩ => ⟨by rw [k1, k2.2 hw], k3⟩)
        clear JW
        have HWD := hide hw
        clear hw
        go_wp2_with fail
        refine JW1.out.mono ?_
        rintro e w1 ⟨rfl, hb1⟩
        have HB1 := hide hb1
        have E1 : Hid (w1.cell? ⟨g, o + i, none⟩ = some (.string x)) := (hb1.cell (p := ⟨g, o + i, none⟩) (World.block_lt_of_cell? _ _ e1)).trans e1
        clear hb1 JW1 e1
        go_wp2_with fail
        go_loopw [5] (fun v5 W => ∃ j : Nat, j ≤ i ∧ v5 = .int .i64 (j : Int) ∧ Hid (x ∉ l.take j) ∧ Hid (Below w1.heap.size w1 W)) (fun v5 _ => i - (intOf v5).toNat)
        case atStart => exact ⟨0, Nat.zero_le _, rfl, by simp [Hid], Below.refl _ _⟩
        case round =>
          obtain ⟨j, hjl, rfl, HJ, HB2⟩ := hrel
          by_cases hji : j < i
          · have t2 : (j : Int) < (i : Int) := by omega
            have t3 : (j : Int) < (l.length : Int) := by omega
            obtain ⟨_, _, e, -, -, h3⟩ := (H3.out.later HB1.out).later HB2.out
            simp only [Value.slice.injEq] at e
            obtain ⟨rfl, -, rfl⟩ := e
            obtain ⟨g', o', e', e2⟩ := h3 j (by omega)
            simp only [Option.some.injEq, Addr.mk.injEq, and_true] at e'
            obtain ⟨rfl, rfl⟩ := e'
            have e1 := (HB2.out.cell (p := ⟨g, o + i, none⟩) (World.block_lt_of_cell? _ _ E1.out)).trans E1.out
            clear h3
            have HT2 := hide (HT.out j (by omega) HJ.out)
            have HM2 := hide (HM.out j (by omega) hji)
            generalize l[j]'(by omega) = y at *
            by_cases hyx : y = x
            · have HN := hide (HNO.out (fun e => (HP.out.1 e).2.2 (HM2.out hyx)))
              subst hyx
              clear HT2 HM2 HT HM HP HNO
              go_upto_region 10 with fail
              go_quiet (fail)
              go_wp2_with fail
              go_ret
              first | exact ⟨.inl ⟨rfl, HN.out⟩, below_on (below_on HW.out HB1.out) (below_on HB2.out (bdN _ _))⟩ | exact ⟨⟨_, rfl, ⟨fun e => (by cases e), fun e => absurd e HN.out⟩⟩, below_on (below_on HW.out HB1.out) (below_on HB2.out (bdN _ _))⟩
            · have HJ2 := hide (HT2.out hyx)
              have hb : (y.toList == x.toList) = false := by
                rw [beq_eq_false_iff_ne]
                intro e
                rw [ByteArray.toList_eq, ByteArray.toList_eq] at e
                exact hyx (text_inj e)
              clear HT2 HM2
              go_upto_region 10 with fail
              go_quiet (fail)
              go_wp2_with fail
              go_roundw
              case rel => exact ⟨j + 1, by omega, by go_num, HJ2, below_on HB2.out (bdN _ _)⟩
              case measure => simp [intOf]; omega
          · have t2 : ¬ (j : Int) < (i : Int) := by omega
            obtain rfl : j = i := by omega
            have HA2 := hide (HP.out.2 ⟨HA.out, HWD.out, HJ.out⟩)
            go_wp2_with fail
            go_roundw
            case rel => exact ⟨j + 1, by omega, by go_num, HA2, below_on (below_on HW.out HB1.out) HB2.out⟩
            case measure => simp [intOf]; omega
      · have JW1 : Hid (Calls Tryz.prog 194 #[.string x] wr fun e w' => e = .returned (.bool false) ∧ Below wr.heap.size wr w') := JW.out.mono (fun _e _w' ⟨⟨b, k1, k2⟩, k3⟩ => ⟨by rw [k1]; cases b with
          | true => exact absurd (k2.1 rfl) hw
          | false => rfl, k3⟩)
        have HN := hide (HNO.out (fun e => hw (HP.out.1 e).2.1))
        clear JW hw HP HNO HT HM
        go_wp2_with fail
        refine JW1.out.mono ?_
        rintro e w1 ⟨rfl, hb1⟩
        have HB1 := hide hb1
        clear hb1 JW1
        go_wp2_with fail
        go_ret
        first | exact ⟨.inl ⟨rfl, HN.out⟩, below_on HW.out HB1.out⟩ | exact ⟨⟨_, rfl, ⟨fun e => (by cases e), fun e => absurd e HN.out⟩⟩, below_on HW.out HB1.out⟩
    · obtain rfl : i = l.length := by omega
      have t1 : ¬ (l.length : Int) < (l.length : Int) := by omega
      have hy := HA.out
      rw [List.take_length] at hy
      have HY := hide hy
      clear HA hy
      go_wp2_with fail
      go_ret
      first | exact ⟨.inr ⟨rfl, HY.out⟩, HW.out⟩ | exact ⟨⟨_, rfl, ⟨fun _ => HY.out, fun _ => rfl⟩⟩, HW.out⟩
end Go.Proofs.YtafmiolehlagkaaGreat
