/-
  Verify: whether kinds may be, by the document (as proved for World).
-/
import Derived.Test.YtfkhhplcogedmaaGreatDoorMgO
import Derived.Test.YtfkhhplcogedmaaGreatDoorMgQ
namespace Go.Proofs.YtfkhhplcogedmaaGreatDoor
open Go.RowKit
set_option maxRecDepth 100000
theorem bdN (w : World) (n : Nat) : Below w.heap.size w (w.drewN n) := by
  induction n with
  | zero => exact Below.refl _ _
  | succ n ih => exact below_on ih (below_drew _)
/-- What is known behind i bytes. -/
def Wu (x : ByteArray) (i : Nat) : Prop := (∀ j (hj : j < x.size), j < i → okB (x[j].toNat : Int) = true) ∧ ∀ h : 0 < x.size, 0 < i → isL (x[0].toNat : Int) = true
theorem Wu.push {x : ByteArray} {i : Nat} (h : Wu x i) (hi : i < x.size) (h1 : okB (x[i].toNat : Int) = true) (h2 : i = 0 → isL (x[i].toNat : Int) = true) : Wu x (i + 1) := by
  refine ⟨fun j hj hji => ?_, fun h0 _ => ?_⟩
  · by_cases e : j = i
    · subst e; exact h1
    · exact h.1 j hj (by omega)
  · by_cases e : i = 0
    · subst e; exact h2 rfl
    · exact h.2 h0 (by omega)
theorem Wu.no {x : ByteArray} {i : Nat} (hi : i < x.size) (h : okB (x[i].toNat : Int) = false ∨ (i = 0 ∧ isL (x[i].toNat : Int) = false)) : ¬ isW x := fun ⟨h0, _, h2, h3⟩ => by
  rcases h with h | ⟨rfl, h⟩
  · have := h3 i hi
    rw [h] at this
    cases this
  · rw [h] at h2
    cases h2
set_option maxHeartbeats 8000000 in
theorem dword_any (x : ByteArray) (hbig : x.size ≤ 9223372036854775807) (w : World) : Calls Tryz.prog 84 #[.string x] w fun e w' => (∃ b : Bool, e = .returned (.bool b) ∧ (b = true ↔ isW x)) ∧ Below w.heap.size w w' := by
  go_enter Tryz.func84, Tryz.ntmps84
  go_wp2_with fail
  go_loopw [3] (fun v3 W => ∃ i : Nat, i ≤ x.size ∧ v3 = .int .i64 (i : Int) ∧ Hid (Wu x i) ∧ Hid (Below w.heap.size w W)) (fun v3 _ => x.size - (intOf v3).toNat)
  case atStart => exact ⟨0, Nat.zero_le _, rfl, ⟨fun j hj h => absurd h (by omega), fun _ h => absurd h (by omega)⟩, Below.refl _ _⟩
  case round =>
    obtain ⟨i, hil, rfl, HA, HW⟩ := hrel
    by_cases hlt : i < x.size
    · have t1 : (i : Int) < (x.size : Int) := by omega
      have HY : Hid (okB (x[i].toNat : Int) = true → (i = 0 → isL (x[i].toNat : Int) = true) → Wu x (i + 1)) := fun h1 h2 => HA.out.push hlt h1 h2
      have HN : Hid (okB (x[i].toNat : Int) = false ∨ (i = 0 ∧ isL (x[i].toNat : Int) = false) → ¬ isW x) := Wu.no hlt
      go_upto_region 5 with fail
      generalize (x[i].toNat : Int) = c at *
      by_cases q0 : 97 ≤ c ∧ c ≤ 122
      · have f1 : c ≥ 97 := by omega
        have f2 : c ≤ 122 := by omega
        have f5 : c ≥ 48 := by omega
        have f6 : ¬ c ≤ 57 := by omega
        have f7 : (c == 95) = false := by rw [beq_eq_false_iff_ne]; omega
        have HA2 := hide (HY.out (by simp [okB, isL, isD]; omega) (by intro _; simp [isL]; omega))
        clear HY HN HA
        go_wp2_with fail
        go_roundw
        case rel => exact ⟨i + 1, by omega, by go_num, HA2, HW⟩
        case measure => simp [intOf]; omega
      by_cases q1 : 122 < c
      · have f1 : c ≥ 97 := by omega
        have f2 : ¬ c ≤ 122 := by omega
        have f3 : c ≥ 65 := by omega
        have f4 : ¬ c ≤ 90 := by omega
        have f5 : c ≥ 48 := by omega
        have f6 : ¬ c ≤ 57 := by omega
        have f7 : (c == 95) = false := by rw [beq_eq_false_iff_ne]; omega
        have HM := hide (HN.out (by left; simp [okB, isL, isD]; omega))
        clear HY HN HA
        go_wp2_with fail
        all_goals go_ret
        all_goals first | exact ⟨.inl ⟨rfl, HM.out⟩, HW.out⟩ | exact ⟨⟨_, rfl, ⟨fun e => (by cases e), fun e => absurd e HM.out⟩⟩, HW.out⟩
      by_cases q2 : 65 ≤ c ∧ c ≤ 90
      · have f1 : ¬ c ≥ 97 := by omega
        have f3 : c ≥ 65 := by omega
        have f4 : c ≤ 90 := by omega
        have f5 : c ≥ 48 := by omega
        have f6 : ¬ c ≤ 57 := by omega
        have f7 : (c == 95) = false := by rw [beq_eq_false_iff_ne]; omega
        have HA2 := hide (HY.out (by simp [okB, isL, isD]; omega) (by intro _; simp [isL]; omega))
        clear HY HN HA
        go_wp2_with fail
        go_roundw
        case rel => exact ⟨i + 1, by omega, by go_num, HA2, HW⟩
        case measure => simp [intOf]; omega
      by_cases q3 : c = 95
      · have f1 : ¬ c ≥ 97 := by omega
        have f3 : c ≥ 65 := by omega
        have f4 : ¬ c ≤ 90 := by omega
        have f5 : c ≥ 48 := by omega
        have f6 : ¬ c ≤ 57 := by omega
        have f7 : (c == 95) = true := by rw [beq_iff_eq]; omega
        by_cases h0 : i = 0
        · subst h0
          have HM := hide (HN.out (by right; refine ⟨rfl, ?_⟩; simp [isL]; omega))
          clear HY HN HA
          go_wp2_with fail
          all_goals go_ret
          all_goals first | exact ⟨.inl ⟨rfl, HM.out⟩, HW.out⟩ | exact ⟨⟨_, rfl, ⟨fun e => (by cases e), fun e => absurd e HM.out⟩⟩, HW.out⟩
        · have f8 : ((i : Int) == 0) = false := by rw [beq_eq_false_iff_ne]; omega
          have HA2 := hide (HY.out (by simp [okB, isL, isD]; omega) (by intro e; exact absurd e h0))
          clear HY HN HA
          go_wp2_with fail
          go_roundw
          case rel => exact ⟨i + 1, by omega, by go_num, HA2, HW⟩
          case measure => simp [intOf]; omega
      by_cases q4 : 91 ≤ c ∧ c ≤ 96
      · have f1 : ¬ c ≥ 97 := by omega
        have f3 : c ≥ 65 := by omega
        have f4 : ¬ c ≤ 90 := by omega
        have f5 : c ≥ 48 := by omega
        have f6 : ¬ c ≤ 57 := by omega
        have f7 : (c == 95) = false := by rw [beq_eq_false_iff_ne]; omega
        have HM := hide (HN.out (by left; simp [okB, isL, isD]; omega))
        clear HY HN HA
        go_wp2_with fail
        all_goals go_ret
        all_goals first | exact ⟨.inl ⟨rfl, HM.out⟩, HW.out⟩ | exact ⟨⟨_, rfl, ⟨fun e => (by cases e), fun e => absurd e HM.out⟩⟩, HW.out⟩
      by_cases q5 : 58 ≤ c ∧ c ≤ 64
      · have f1 : ¬ c ≥ 97 := by omega
        have f3 : ¬ c ≥ 65 := by omega
        have f5 : c ≥ 48 := by omega
        have f6 : ¬ c ≤ 57 := by omega
        have f7 : (c == 95) = false := by rw [beq_eq_false_iff_ne]; omega
        have HM := hide (HN.out (by left; simp [okB, isL, isD]; omega))
        clear HY HN HA
        go_wp2_with fail
        all_goals go_ret
        all_goals first | exact ⟨.inl ⟨rfl, HM.out⟩, HW.out⟩ | exact ⟨⟨_, rfl, ⟨fun e => (by cases e), fun e => absurd e HM.out⟩⟩, HW.out⟩
      by_cases q6 : 48 ≤ c ∧ c ≤ 57
      · have f1 : ¬ c ≥ 97 := by omega
        have f3 : ¬ c ≥ 65 := by omega
        have f5 : c ≥ 48 := by omega
        have f6 : c ≤ 57 := by omega
        by_cases h0 : i = 0
        · subst h0
          have HM := hide (HN.out (by right; refine ⟨rfl, ?_⟩; simp [isL]; omega))
          clear HY HN HA
          go_wp2_with fail
          all_goals go_ret
          all_goals first | exact ⟨.inl ⟨rfl, HM.out⟩, HW.out⟩ | exact ⟨⟨_, rfl, ⟨fun e => (by cases e), fun e => absurd e HM.out⟩⟩, HW.out⟩
        · have f8 : ((i : Int) == 0) = false := by rw [beq_eq_false_iff_ne]; omega
          have HA2 := hide (HY.out (by simp [okB, isL, isD]; omega) (by intro e; exact absurd e h0))
          clear HY HN HA
          go_wp2_with fail
          go_roundw
          case rel => exact ⟨i + 1, by omega, by go_num, HA2, HW⟩
          case measure => simp [intOf]; omega
      have f1 : ¬ c ≥ 97 := by omega
      have f3 : ¬ c ≥ 65 := by omega
      have f5 : ¬ c ≥ 48 := by omega
      have f7 : (c == 95) = false := by rw [beq_eq_false_iff_ne]; omega
      have HM := hide (HN.out (by left; simp [okB, isL, isD]; omega))
      clear HY HN HA
      go_wp2_with fail
      all_goals go_ret
      all_goals first | exact ⟨.inl ⟨rfl, HM.out⟩, HW.out⟩ | exact ⟨⟨_, rfl, ⟨fun e => (by cases e), fun e => absurd e HM.out⟩⟩, HW.out⟩
    · obtain rfl : i = x.size := by omega
      have t1 : ¬ (x.size : Int) < (x.size : Int) := by omega
      by_cases h1 : (x.size : Int) ≥ 1
      · by_cases h16 : (x.size : Int) ≤ 16
        · have HY : Hid (isW x) := ⟨by omega, by omega, HA.out.2 (by omega) (by omega), fun j hj => HA.out.1 j hj hj⟩
          clear HA
          go_wp2_with fail
          go_ret
          first | exact ⟨.inr ⟨rfl, HY.out⟩, HW.out⟩ | exact ⟨⟨_, rfl, ⟨fun _ => HY.out, fun _ => rfl⟩⟩, HW.out⟩
        · have HM : Hid (¬ isW x) := fun ⟨_, h, _⟩ => by omega
          clear HA
          go_wp2_with fail
          go_ret
          first | exact ⟨.inl ⟨rfl, HM.out⟩, HW.out⟩ | exact ⟨⟨_, rfl, ⟨fun e => (by cases e), fun e => absurd e HM.out⟩⟩, HW.out⟩
      · have HM : Hid (¬ isW x) := fun ⟨h, _⟩ => by omega
        clear HA
        go_wp2_with fail
        go_ret
        first | exact ⟨.inl ⟨rfl, HM.out⟩, HW.out⟩ | exact ⟨⟨_, rfl, ⟨fun e => (by cases e), fun e => absurd e HM.out⟩⟩, HW.out⟩
abbrev Small (x : ByteArray) : Prop := x.size ≤ 9223372036854775807
theorem Sr.later {w w' : World} {v : Value} {l : List ByteArray} (h : Sr w v l) (hb : Below w.heap.size w w') : Sr w' v l := h.on (fun a _x e => (hb.cell (p := a) (World.block_lt_of_cell? w _ e)).trans e)
theorem tk_not {α : Type} {l : List α} {x : α} {j : Nat} (hj : j < l.length) (h : x ∉ l.take j) (hx : ¬ l[j] = x) : x ∉ l.take (j + 1) := by
  rw [List.take_succ_eq_append_getElem hj, List.mem_append, List.mem_singleton]
  rintro (e | e)
  · exact h e
  · exact hx e.symm
set_option maxHeartbeats 8000000 in
theorem dwords_any {w : World} {v : Value} {l : List ByteArray} (h : Sr w v l) (hx : ∀ x ∈ l, Small x) : Calls Tryz.prog 56 #[v] w fun e w' => (∃ b : Bool, e = .returned (.bool b) ∧ (b = true ↔ areW l)) ∧ Below w.heap.size w w' := by
  have HS := hide h
  have HX := hide hx
  obtain ⟨ao, c, rfl, h1, h2, -⟩ := h
  have hbig : c ≤ 9223372036854775807 := by unfold maxLen at h2; omega
  clear h2 hx
  go_enter Tryz.func56, Tryz.ntmps56
  go_wp2_with fail
  go_loopw [3] (fun v3 W => ∃ i : Nat, i ≤ l.length ∧ v3 = .int .i64 (i : Int) ∧ Hid (areW (l.take i)) ∧ Hid (Below w.heap.size w W)) (fun v3 _ => l.length - (intOf v3).toNat)
  case atStart => exact ⟨0, Nat.zero_le _, rfl, ⟨fun x hx => by simp at hx, by simp⟩, Below.refl _ _⟩
  case round =>
    obtain ⟨i, hil, rfl, HA, HW⟩ := hrel
    by_cases hlt : i < l.length
    · have t1 : (i : Int) < (l.length : Int) := by omega
      have H3 : Hid (Sr wr (.slice ao l.length c) l) := HS.out.later HW.out
      obtain ⟨_, _, e, -, -, h3⟩ := H3.out
      simp only [Value.slice.injEq] at e
      obtain ⟨rfl, -, rfl⟩ := e
      obtain ⟨g, o, rfl, e1⟩ := h3 i hlt
      clear h3
      have HP := hide (areW_push l i hlt)
      have HNO : Hid (¬ areW (l.take (i + 1)) → ¬ areW l) := fun h e => h (areW_take l _ e)
      have JW := hide (dword_any l[i] (HX.out _ (List.getElem_mem hlt)) wr)
      have HT : Hid (∀ j (hj : j < l.length), l[i] ∉ l.take j → ¬ l[j] = l[i] → l[i] ∉ l.take (j + 1)) := fun j hj h h' => tk_not hj h h'
      have HM : Hid (∀ j (hj : j < l.length), j < i → l[j] = l[i] → l[i] ∈ l.take i) := fun j hj hji e => by
        rw [← e]
        exact List.mem_take_iff_getElem.2 ⟨j, by omega, rfl⟩
      generalize l[i] = x at *
      by_cases hw : isW x
      · have JW1 : Hid (Calls Tryz.prog 84 #[.string x] wr fun e w' => e = .returned (.bool true) ∧ Below wr.heap.size wr w') := JW.out.mono (fun _e _w' ⟨⟨b, k1, k2⟩, k3⟩ => ⟨by rw [k1, k2.2 hw], k3⟩)
        clear JW
        have HWD := hide hw
        clear hw
        go_wp2_with fail
        refine JW1.out.mono ?_
        rintro e w1 ⟨rfl, hb1⟩
        have HB1 := hide hb1
        have E1 : Hid (w1.cell? ⟨g, o + i, none⟩ = some (.string x)) := (hb1.cell (p := ⟨g, o + i, none⟩) (World.block_lt_of_cell? _ _ e1)).trans e1
        clear hb1 JW1 e1
        go_wp2_with fail
        go_loopw [5] (fun v5 W => ∃ j : Nat, j ≤ i ∧ v5 = .int .i64 (j : Int) ∧ Hid (x ∉ l.take j) ∧ Hid (Below w1.heap.size w1 W)) (fun v5 _ => i - (intOf v5).toNat)
        case atStart => exact ⟨0, Nat.zero_le _, rfl, by simp [Hid], Below.refl _ _⟩
        case round =>
          obtain ⟨j, hjl, rfl, HJ, HB2⟩ := hrel
          by_cases hji : j < i
          · have t2 : (j : Int) < (i : Int) := by omega
            have t3 : (j : Int) < (l.length : Int) := by omega
            obtain ⟨_, _, e, -, -, h3⟩ := (H3.out.later HB1.out).later HB2.out
            simp only [Value.slice.injEq] at e
            obtain ⟨rfl, -, rfl⟩ := e
            obtain ⟨g', o', e', e2⟩ := h3 j (by omega)
            simp only [Option.some.injEq, Addr.mk.injEq, and_true] at e'
            obtain ⟨rfl, rfl⟩ := e'
            have e1 := (HB2.out.cell (p := ⟨g, o + i, none⟩) (World.block_lt_of_cell? _ _ E1.out)).trans E1.out
            clear h3
            have HT2 := hide (HT.out j (by omega) HJ.out)
            have HM2 := hide (HM.out j (by omega) hji)
            generalize l[j]'(by omega) = y at *
            by_cases hyx : y = x
            · have HN := hide (HNO.out (fun e => (HP.out.1 e).2.2 (HM2.out hyx)))
              subst hyx
              clear HT2 HM2 HT HM HP HNO
              go_upto_region 10 with fail
              go_quiet (fail)
              go_wp2_with fail
              go_ret
              first | exact ⟨.inl ⟨rfl, HN.out⟩, below_on (below_on HW.out HB1.out) (below_on HB2.out (bdN _ _))⟩ | exact ⟨⟨_, rfl, ⟨fun e => (by cases e), fun e => absurd e HN.out⟩⟩, below_on (below_on HW.out HB1.out) (below_on HB2.out (bdN _ _))⟩
            · have HJ2 := hide (HT2.out hyx)
              have hb : (y.toList == x.toList) = false := by
                rw [beq_eq_false_iff_ne]
                intro e
                rw [ByteArray.toList_eq, ByteArray.toList_eq] at e
                exact hyx (text_inj e)
              clear HT2 HM2
              go_upto_region 10 with fail
              go_quiet (fail)
              go_wp2_with fail
              go_roundw
              case rel => exact ⟨j + 1, by omega, by go_num, HJ2, below_on HB2.out (bdN _ _)⟩
              case measure => simp [intOf]; omega
          · have t2 : ¬ (j : Int) < (i : Int) := by omega
            obtain rfl : j = i := by omega
            have HA2 := hide (HP.out.2 ⟨HA.out, HWD.out, HJ.out⟩)
            go_wp2_with fail
            go_roundw
            case rel => exact ⟨j + 1, by omega, by go_num, HA2, below_on (below_on HW.out HB1.out) HB2.out⟩
            case measure => simp [intOf]; omega
      · have JW1 : Hid (Calls Tryz.prog 84 #[.string x] wr fun e w' => e = .returned (.bool false) ∧ Below wr.heap.size wr w') := JW.out.mono (fun _e _w' ⟨⟨b, k1, k2⟩, k3⟩ => ⟨by rw [k1]; cases b with
          | true => exact absurd (k2.1 rfl) hw
          | false => rfl, k3⟩)
        have HN := hide (HNO.out (fun e => hw (HP.out.1 e).2.1))
        clear JW hw HP HNO HT HM
        go_wp2_with fail
        refine JW1.out.mono ?_
        rintro e w1 ⟨rfl, hb1⟩
        have HB1 := hide hb1
        clear hb1 JW1
        go_wp2_with fail
        go_ret
        first | exact ⟨.inl ⟨rfl, HN.out⟩, below_on HW.out HB1.out⟩ | exact ⟨⟨_, rfl, ⟨fun e => (by cases e), fun e => absurd e HN.out⟩⟩, below_on HW.out HB1.out⟩
    · obtain rfl : i = l.length := by omega
      have t1 : ¬ (l.length : Int) < (l.length : Int) := by omega
      have hy := HA.out
      rw [List.take_length] at hy
      have HY := hide hy
      clear HA hy
      go_wp2_with fail
      go_ret
      first | exact ⟨.inr ⟨rfl, HY.out⟩, HW.out⟩ | exact ⟨⟨_, rfl, ⟨fun _ => HY.out, fun _ => rfl⟩⟩, HW.out⟩
/-- Kinds that are not past a machine's reach. -/
def Sz (ks : List Kind) : Prop := ks.length * 40 ≤ 140737488351232 ∧ ∀ k ∈ ks, k.2.length * 16 ≤ 140737488351232 ∧ Small k.1 ∧ ∀ x ∈ k.2, Small x
set_option maxHeartbeats 8000000 in
theorem dmaybe_any {w : World} {v : Value} {ks : List Kind} (h : Kr w v ks) (hz : Sz ks) : Calls Tryz.prog 31 #[v] w fun e w' => (∃ b : Bool, e = .returned (.bool b) ∧ (b = true ↔ mayB ks)) ∧ Below w.heap.size w w' := by
  obtain ⟨i0, hi0, hz0, hz1, hz2⟩ := info_parts info9
  have HK := hide h
  have HZ := hide hz
  have hz := hz.1
  obtain ⟨ao, c, rfl, h1, h2, h3⟩ := h
  have hbig : c ≤ 9223372036854775807 := by unfold maxLen at h2; omega
  clear h3 h2
  go_enter Tryz.func31, Tryz.ntmps31
  go_wp2_with fail
  go_loopw [3, 4] (fun v3 v4 W => ∃ i : Nat, i ≤ ks.length ∧ v4 = .int .i64 (i : Int) ∧ Hid (∀ k ∈ ks.take i, fieldsOk k) ∧ Hid (W.ownsRow w.heap.size 9 1 v3 ((ks.take i).map (·.1)).length (sz ((ks.take i).map (·.1)))) ∧ Hid (Below w.heap.size w W)) (fun _ v4 _ => ks.length - (intOf v4).toNat)
  case atStart => exact ⟨0, Nat.zero_le _, rfl, fun k hk => by simp at hk, World.ownsRow_nil _ _ _ _, Below.refl _ _⟩
  case round =>
    obtain ⟨i, hil, rfl, HA, HO, HB⟩ := hrel
    by_cases hlt : i < ks.length
    · have t1 : (i : Int) < (ks.length : Int) := by omega
      obtain ⟨ao', c', e', -, -, h3⟩ := HK.out.later HB.out
      simp only [Value.slice.injEq, true_and] at e'
      obtain ⟨rfl, rfl⟩ := e'
      obtain ⟨g, o, vf, rfl, e1, e2, e3⟩ := h3 i hlt
      have hnp := hide (names_push ks i hlt)
      have HNO : Hid (¬ fieldsOk ks[i] → ¬ mayB ks) := fun h e => h (e.2.2.1 _ (List.getElem_mem hlt))
      have HOK : Hid (fieldsOk ks[i] → ∀ k ∈ ks.take (i + 1), fieldsOk k) := fun h k hk => by
        rw [List.take_succ_eq_append_getElem hlt, List.mem_append, List.mem_singleton] at hk
        rcases hk with hk | rfl
        · exact HA.out k hk
        · exact h
      have hnl : ((ks.take i).map (·.1)).length ≤ ks.length := by rw [List.length_map, List.length_take]; omega
      have hnl2 : ((ks.take i).map (·.1)).length < ks.length := by rw [List.length_map, List.length_take]; omega
      have hss := (HZ.out.2 _ (List.getElem_mem hlt)).2.2
      generalize (ks.take i).map (·.1) = N at *
      generalize ks[i] = kd at *
      obtain ⟨nm, fs⟩ := kd
      have JA := hide (dwords_any e3 hss)
      obtain ⟨af, cf, rfl, -⟩ := e3
      obtain ⟨a3, c3, rfl⟩ := own_len HO.out
      dsimp only at e1 e2
      have hsz := HB.out.size
      clear h3 hss
      by_cases hW : areW fs
      · have JA1 : Hid (Calls Tryz.prog 56 #[.slice af fs.length cf] wr fun e w' => e = .returned (.bool true) ∧ Below wr.heap.size wr w') := JA.out.mono (fun _e _w' ⟨⟨b, k1, k2⟩, k3⟩ => ⟨by rw [k1, k2.2 hW], k3⟩)
        clear JA
        go_wp2_with fail
        refine JA1.out.mono ?_
        rintro e w1 ⟨rfl, hb1⟩
        have HB1 := hide hb1
        replace e1 := (hb1.cell (p := ⟨g, o + i * 2, none⟩) (World.block_lt_of_cell? _ _ e1)).trans e1
        replace e2 := (hb1.cell (p := ⟨g, o + i * 2 + 1, none⟩) (World.block_lt_of_cell? _ _ e2)).trans e2
        have HO1 := hide (own_later HO.out hb1)
        have hs1 := hb1.size
        clear hb1 JA1
        by_cases g4 : (fs.length : Int) > 4
        · have HN := hide (HNO.out (fun e => by have := e.1; dsimp only at this; omega))
          clear HNO HOK hW
          go_wp2_with fail
          go_ret
          first | exact ⟨.inl ⟨rfl, HN.out⟩, below_on HB.out HB1.out⟩ | exact ⟨⟨_, rfl, ⟨fun e => (by cases e), fun e => absurd e HN.out⟩⟩, below_on HB.out HB1.out⟩
        · have HY := hide (HOK.out ⟨by dsimp only; omega, hW⟩)
          have HX : Hid (∀ (v' : Value) (w' : World), w'.ownsRow w.heap.size 9 1 v' (N.length + 1) (sz N ++ [.string nm]) → (w1.alloc (.cells #[.string nm] 9)).grownBy w' (Value.slice a3 N.length c3).ownBlock → w'.ownsRow w.heap.size 9 1 v' ((ks.take (i + 1)).map (·.1)).length (sz ((ks.take (i + 1)).map (·.1))) ∧ Below w.heap.size w w') := fun v' w' k1 k2 => by
            refine ⟨?_, (below_on (below_on HB.out HB1.out) (below_alloc _ _)).grown k2 (by simp; omega) (fun k e => (HO.out.lt k e).1)⟩
            rw [hnp.out, List.length_append, sz_append]
            exact k1
          clear HOK HNO hW hnp
          go_wp2_with (first | (at_builtin; refine wpList_append_own_at _ rfl _ _ 61 rfl w.heap.size 9 i0 (.string ⟨#[]⟩) 1 16 Tryz.underlying61 hi0 hz0 hz1 hz2 rfl (by decide) _ N.length (sz N) rfl (HO1.out.alloc _) ⟨w1.heap.size, 0, none⟩ 1 1 [.string nm] rfl rfl ?c1 ?c2 (by unfold maxLen; omega) (by omega) ?c5 ?_))
          case c1 =>
            intro j u hj
            match j, hj with
            | 0, hj => simp at hj; subst hj; simp [Addr.add]
          case c2 =>
            intro u hu
            simp at hu
            subst hu
            rfl
          case c5 => simp; omega
          intro v' w' k1 k2 _ _
          obtain ⟨r1, r2⟩ := HX.out v' w' k1 k2
          have R1 := hide r1
          have R2 := hide r2
          clear k1 k2 r1 r2 HX
          go_wp2_with fail
          go_roundw
          case rel => exact ⟨i + 1, by omega, by go_num, HY, R1, R2⟩
          case measure => simp [intOf]; omega
      · have JA1 : Hid (Calls Tryz.prog 56 #[.slice af fs.length cf] wr fun e w' => e = .returned (.bool false) ∧ Below wr.heap.size wr w') := JA.out.mono (fun _e _w' ⟨⟨b, k1, k2⟩, k3⟩ => ⟨by rw [k1]; cases b with
          | true => exact absurd (k2.1 rfl) hW
          | false => rfl, k3⟩)
        have HN := hide (HNO.out (fun e => hW e.2))
        clear HNO HOK JA hW
        go_wp2_with fail
        refine JA1.out.mono ?_
        rintro e w1 ⟨rfl, hb1⟩
        have HB1 := hide hb1
        clear hb1
        go_wp2_with fail
        go_ret
        first | exact ⟨.inl ⟨rfl, HN.out⟩, below_on HB.out HB1.out⟩ | exact ⟨⟨_, rfl, ⟨fun e => (by cases e), fun e => absurd e HN.out⟩⟩, below_on HB.out HB1.out⟩
    · obtain rfl : i = ks.length := by omega
      have t1 : ¬ (ks.length : Int) < (ks.length : Int) := by omega
      have ho := HO.out
      have ha := HA.out
      rw [List.take_length] at ho ha
      have JA := hide (dwords_any (Sr.own ho) (fun x hx => by
        obtain ⟨k, hk, rfl⟩ := List.mem_map.1 hx
        exact (HZ.out.2 k hk).2.1))
      have HM : Hid (areW (ks.map (·.1)) → 1 ≤ ks.length → ks.length ≤ 12 → mayB ks) := fun e e1 e2 => ⟨e1, e2, ha, e⟩
      have HM2 : Hid (mayB ks → areW (ks.map (·.1)) ∧ 1 ≤ ks.length ∧ ks.length ≤ 12) := fun e => ⟨e.2.2.2, e.1, e.2.1⟩
      obtain ⟨a3, c3, rfl⟩ := own_len ho
      clear ho ha HO HA
      generalize (ks.map (·.1)).length = nn at *
      generalize hAW : areW (ks.map (·.1)) = AW at *
      clear hAW
      go_wp2_with fail
      refine JA.out.mono ?_
      rintro e w1 ⟨⟨b, rfl, hb⟩, hb1⟩
      have HB1 := hide hb1
      clear hb1 JA
      by_cases hAW : AW
      · obtain rfl : b = true := hb.2 hAW
        by_cases q1 : (ks.length : Int) ≥ 1
        · by_cases q2 : (ks.length : Int) ≤ 12
          · have HY := hide (HM.out hAW (by omega) (by omega))
            clear HM HM2 hb
            go_wp2_with fail
            go_ret
            first | exact ⟨.inr ⟨rfl, HY.out⟩, below_on HB.out HB1.out⟩ | exact ⟨⟨_, rfl, ⟨fun _ => HY.out, fun _ => rfl⟩⟩, below_on HB.out HB1.out⟩
          · have HN : Hid (¬ mayB ks) := fun e => by have := (HM2.out e).2.2; omega
            have q3 : decide ((ks.length : Int) ≤ 12) = false := decide_eq_false q2
            clear HM HM2 hb
            go_wp2_with fail
            go_ret
            first | exact ⟨.inl ⟨rfl, HN.out⟩, below_on HB.out HB1.out⟩ | exact ⟨⟨_, rfl, ⟨fun e => (by cases e), fun e => absurd e HN.out⟩⟩, below_on HB.out HB1.out⟩
        · have HN : Hid (¬ mayB ks) := fun e => by have := (HM2.out e).2.1; omega
          clear HM HM2 hb
          go_wp2_with fail
          go_ret
          first | exact ⟨.inl ⟨rfl, HN.out⟩, below_on HB.out HB1.out⟩ | exact ⟨⟨_, rfl, ⟨fun e => (by cases e), fun e => absurd e HN.out⟩⟩, below_on HB.out HB1.out⟩
      · obtain rfl : b = false := by
          cases b with
          | true => exact absurd (hb.1 rfl) hAW
          | false => rfl
        have HN : Hid (¬ mayB ks) := fun e => hAW (HM2.out e).1
        clear HM HM2 hb
        go_wp2_with fail
        go_ret
        first | exact ⟨.inl ⟨rfl, HN.out⟩, below_on HB.out HB1.out⟩ | exact ⟨⟨_, rfl, ⟨fun e => (by cases e), fun e => absurd e HN.out⟩⟩, below_on HB.out HB1.out⟩
end Go.Proofs.YtfkhhplcogedmaaGreatDoor
