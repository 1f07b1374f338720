import Derived.Test.YtafmiolehlagkaaGreatGm2
import Derived.Test.YtafmiolehlagkaaGreatWClo
import Derived.Test.YtafmiolehlagkaaGreatWDes
/-
  World: words.
-/
namespace Go.Proofs.YtafmiolehlagkaaGreat
open Go.RowKit
set_option maxRecDepth 100000
def okB (c : Int) : Bool := isL c || isD c || decide (c = 95)
def isW (x : ByteArray) : Prop := ∃ h : 0 < x.size, x.size ≤ 16 ∧ isL (x[0].toNat : Int) = true ∧ ∀ i (hi : i < x.size), okB (x[i].toNat : Int) = true
theorem text_empty {x : ByteArray} (h : 0 < x.size) : x.toList.isEmpty = false := by
  rw [ByteArray.toList_eq]
  cases hl : x.data.toList with
  | nil =>
    have : x.data.toList.length = x.size := Array.length_toList
    rw [hl] at this
    simp at this
    omega
  | cons _ _ => rfl
set_option maxHeartbeats 4000000 in
theorem word_any (x : ByteArray) (w : World) : Calls Tryz.prog 180 #[.string x] w fun e w' => (∃ b : Bool, e = .returned (.bool b) ∧ (b = true ↔ isW x)) ∧ w' = w := by
  by_cases h1 : 0 < x.size
  · have he := text_empty h1
    by_cases h16 : x.size ≤ 16
    · have t16 : ¬ (x.size : Int) > 16 := by omega
      have J0 := hide (letter_any (x[0].toNat : Int) w)
      cases hL : isL (x[0].toNat : Int) with
      | false =>
        rw [hL] at J0
        have HN : Hid (¬ isW x) := fun ⟨_, _, h, _⟩ => by rw [hL] at h; cases h
        clear hL
        go_enter Tryz.func180, Tryz.ntmps180
        go_wp2_with fail
        refine J0.out.mono ?_
        rintro e w' ⟨rfl, rfl⟩
        go_wp2_with fail
        go_ret
        exact ⟨⟨_, rfl, ⟨fun e => (by cases e), fun e => absurd e HN.out⟩⟩, rfl⟩
      | true =>
        rw [hL] at J0
        have HL := hide hL
        clear hL
        go_enter Tryz.func180, Tryz.ntmps180
        go_wp2_with fail
        refine J0.out.mono ?_
        rintro e w' ⟨rfl, rfl⟩
        obtain ⟨w, rfl⟩ : ∃ X, X = w' := ⟨_, rfl⟩
        go_wp2_with fail
        go_loopw [20] (fun v20 W => ∃ i : Nat, i ≤ x.size ∧ v20 = .int .i64 (i : Int) ∧ Hid (∀ j (hj : j < x.size), j < i → okB (x[j].toNat : Int) = true) ∧ Hid (W = w)) (fun v20 _ => x.size - (intOf v20).toNat)
        case atStart => exact ⟨0, Nat.zero_le _, rfl, fun j hj h => absurd h (by omega), rfl⟩
        case round =>
          obtain ⟨i, hil, rfl, HA, HW⟩ := hrel
          by_cases hlt : i < x.size
          · have t1 : (i : Int) < (x.size : Int) := by omega
            have J1 : Hid (∀ W, Calls Tryz.prog 210 #[.int .u8 (x[i].toNat : Int)] W fun e w' => e = .returned (.bool (isL (x[i].toNat : Int))) ∧ w' = W) := fun W => letter_any _ W
            have J2 : Hid (∀ W, Calls Tryz.prog 211 #[.int .u8 (x[i].toNat : Int)] W fun e w' => e = .returned (.bool (isD (x[i].toNat : Int))) ∧ w' = W) := fun W => digit_any _ W
            have HOK : Hid (okB (x[i].toNat : Int) = true → Hid (∀ j (hj : j < x.size), j < i + 1 → okB (x[j].toNat : Int) = true)) := fun h j hj hji => by
              by_cases e : j = i
              · subst e; exact h
              · exact HA.out j hj (by omega)
            have HNO : Hid (okB (x[i].toNat : Int) = false → ¬ isW x) := fun h ⟨_, _, _, h4⟩ => by
              have := h4 i hlt
              rw [h] at this
              cases this
            go_upto_region 7 with fail
            generalize (x[i].toNat : Int) = c at *
            cases hl : isL c with
            | true =>
              have HA2 := hide (HOK.out (by unfold okB; rw [hl]; rfl))
              clear HOK HNO
              simp only [hl] at J1
              clear J2 hl
              go_wp2_with fail
              refine (J1.out _).mono ?_
              rintro e w' ⟨rfl, rfl⟩
              go_wp2_with fail
              go_roundw
              case rel => exact ⟨i + 1, by omega, by go_num, HA2.out, HW⟩
              case measure => simp [intOf]; omega
            | false =>
              simp only [hl] at J1
              cases hd : isD c with
              | true =>
                have HA2 := hide (HOK.out (by unfold okB; rw [hl, hd]; rfl))
                clear HOK HNO
                simp only [hd] at J2
                clear hl hd
                go_wp2_with fail
                refine (J1.out _).mono ?_
                rintro e w' ⟨rfl, rfl⟩
                go_wp2_with fail
                refine (J2.out _).mono ?_
                rintro e w' ⟨rfl, rfl⟩
                go_wp2_with fail
                go_roundw
                case rel => exact ⟨i + 1, by omega, by go_num, HA2.out, HW⟩
                case measure => simp [intOf]; omega
              | false =>
                simp only [hd] at J2
                by_cases h95 : c = 95
                · have HA2 := hide (HOK.out (by unfold okB; rw [hl, hd, h95]; rfl))
                  subst h95
                  clear HOK HNO hl hd
                  go_wp2_with fail
                  refine (J1.out _).mono ?_
                  rintro e w' ⟨rfl, rfl⟩
                  go_wp2_with fail
                  refine (J2.out _).mono ?_
                  rintro e w' ⟨rfl, rfl⟩
                  go_wp2_with fail
                  go_roundw
                  case rel => exact ⟨i + 1, by omega, by go_num, HA2.out, HW⟩
                  case measure => simp [intOf]; omega
                · have HN := hide (HNO.out (by unfold okB; rw [hl, hd, decide_eq_false h95]; rfl))
                  have hb : (c != 95) = true := by rw [bne_iff_ne]; exact h95
                  have hb2 : (c == 95) = false := by rw [beq_eq_false_iff_ne]; exact h95
                  clear HOK HNO hl hd
                  go_wp2_with fail
                  refine (J1.out _).mono ?_
                  rintro e w' ⟨rfl, rfl⟩
                  go_wp2_with fail
                  refine (J2.out _).mono ?_
                  rintro e w' ⟨rfl, rfl⟩
                  go_wp2_with fail
                  go_ret
                  exact ⟨⟨_, rfl, ⟨fun e => (by cases e), fun e => absurd e HN.out⟩⟩, HW.out⟩
          · obtain rfl : i = x.size := by omega
            have t1 : ¬ (x.size : Int) < (x.size : Int) := by omega
            have HY : Hid (isW x) := ⟨h1, h16, HL.out, fun j hj => HA.out j hj hj⟩
            clear HA HL
            go_wp2_with fail
            go_ret
            first | exact ⟨.inr ⟨rfl, HY.out⟩, HW.out⟩ | exact ⟨⟨_, rfl, ⟨fun _ => HY.out, fun _ => rfl⟩⟩, HW.out⟩
    · have t16 : (x.size : Int) > 16 := by omega
      have HN : Hid (¬ isW x) := fun ⟨_, h, _⟩ => h16 h
      clear h16
      go_enter Tryz.func180, Tryz.ntmps180
      go_wp2_with fail
      go_ret
      exact ⟨⟨_, rfl, ⟨fun e => (by cases e), fun e => absurd e HN.out⟩⟩, rfl⟩
  · have he : x.toList.isEmpty = true := by
      rw [ByteArray.toList_eq]
      have : x.data.toList.length = x.size := Array.length_toList
      cases hl : x.data.toList with
      | nil => rfl
      | cons _ _ => rw [hl] at this; simp at this; omega
    have HN : Hid (¬ isW x) := fun ⟨h, _⟩ => h1 h
    clear h1
    go_enter Tryz.func180, Tryz.ntmps180
    go_wp2_with fail
    go_ret
    exact ⟨⟨_, rfl, ⟨fun e => (by cases e), fun e => absurd e HN.out⟩⟩, rfl⟩
end Go.Proofs.YtafmiolehlagkaaGreat

/-
  World: whether texts are words, and no two the same.
-/
namespace Go.Proofs.YtafmiolehlagkaaGreat
open Go.RowKit
set_option maxRecDepth 100000
def areW (l : List ByteArray) : Prop := (∀ x ∈ l, isW x) ∧ l.Nodup
theorem areW_push (l : List ByteArray) (i : Nat) (hi : i < l.length) : areW (l.take (i + 1)) ↔ areW (l.take i) ∧ isW l[i] ∧ l[i] ∉ l.take i := by
  unfold areW
  rw [List.take_succ_eq_append_getElem hi, List.nodup_append]
  simp only [List.mem_append, List.mem_singleton]
  constructor
  · rintro ⟨h1, h2, -, h4⟩
    exact ⟨⟨fun x hx => h1 x (.inl hx), h2⟩, h1 _ (.inr rfl), fun e => h4 _ e _ rfl rfl⟩
  · rintro ⟨⟨h1, h2⟩, h3, h4⟩
    refine ⟨fun x hx => ?_, h2, by simp, fun a ha b hb e => h4 (by rw [← hb, ← e]; exact ha)⟩
    rcases hx with hx | rfl
    · exact h1 x hx
    · exact h3
theorem areW_take (l : List ByteArray) (i : Nat) (h : areW l) : areW (l.take i) := ⟨fun x hx => h.1 x (List.mem_of_mem_take hx), h.2.sublist (List.take_sublist _ _)⟩
set_option maxHeartbeats 4000000 in
theorem arewords_any {w : World} {v : Value} {l : List ByteArray} (h : Sr w v l) : Calls Tryz.prog 143 #[v] w fun e w' => (∃ b : Bool, e = .returned (.bool b) ∧ (b = true ↔ areW l)) ∧ w' = w := by
  obtain ⟨ao, c, rfl, h1, h2, h3⟩ := h
  have hbig : c ≤ 9223372036854775807 := by unfold maxLen at h2; omega
  have H2 := hide h2
  have H3 := hide h3
  clear h3 h2
  go_enter Tryz.func143, Tryz.ntmps143
  go_wp2_with fail
  go_loopw [7] (fun v7 W => ∃ i : Nat, i ≤ l.length ∧ v7 = .int .i64 (i : Int) ∧ Hid (areW (l.take i)) ∧ Hid (W = w)) (fun v7 _ => l.length - (intOf v7).toNat)
  case atStart => exact ⟨0, Nat.zero_le _, rfl, ⟨fun x hx => by simp at hx, by simp⟩, rfl⟩
  case round =>
    obtain ⟨i, hil, rfl, HA, HW⟩ := hrel
    by_cases hlt : i < l.length
    · have t1 : (i : Int) < (l.length : Int) := by omega
      obtain ⟨g, o, rfl, e1⟩ := H3.out i hlt
      rw [← HW.out] at e1
      have hS : Sr wr (.slice (some ⟨g, o, none⟩) i c) (l.take i) := by
        have hl : (l.take i).length = i := by rw [List.length_take]; omega
        refine ⟨some ⟨g, o, none⟩, c, by rw [hl], by omega, H2.out, fun j hj => ⟨g, o, rfl, ?_⟩⟩
        obtain ⟨g', o', e', z⟩ := H3.out j (by omega)
        simp only [Option.some.injEq, Addr.mk.injEq, and_true] at e'
        obtain ⟨rfl, rfl⟩ := e'
        rw [List.getElem_take, HW.out]
        exact z
      have hp := areW_push l i hlt
      have hno : ¬ areW (l.take (i + 1)) → ¬ areW l := fun h e => h (areW_take l _ e)
      have HP := hide hp
      have HNO := hide hno
      letI : Decidable (l[i] ∈ l.take i) := Classical.propDecidable _
      have JC := hide (contains_any hS l[i])
      have JC1 : Hid (l[i] ∈ l.take i → Calls Tryz.prog 181 #[.slice (some ⟨g, o, none⟩) i c, .string l[i]] wr fun e w' => e = .returned (.bool true) ∧ w' = wr) := fun hm => by
        have := JC.out
        rw [decide_eq_true hm] at this
        exact this
      have JC0 : Hid (l[i] ∉ l.take i → Calls Tryz.prog 181 #[.slice (some ⟨g, o, none⟩) i c, .string l[i]] wr fun e w' => e = .returned (.bool false) ∧ w' = wr) := fun hm => by
        have := JC.out
        rw [decide_eq_false hm] at this
        exact this
      have JW := hide (word_any l[i] wr)
      have tm : (i : Int) ≤ (l.length : Int) := by omega
      have tm2 : (i : Int) ≤ (c : Int) := by omega
      clear JC
      clear hS hp hno
      generalize l[i] = x at *
      by_cases hw : isW x
      · have JW1 : Hid (Calls Tryz.prog 180 #[.string x] wr fun e w' => e = .returned (.bool true) ∧ w' = wr) := JW.out.mono (fun _e _w' ⟨⟨b, k1, k2⟩, k3⟩ => ⟨by rw [k1, k2.2 hw], k3⟩)
        by_cases hm : x ∈ l.take i
        · have JC := hide (JC1.out hm)
          clear JC1 JC0
          have HN := hide (HNO.out (fun e => (HP.out.1 e).2.2 hm))
          clear JW hw hm HP HNO
          go_wp2_with fail
          refine JW1.out.mono ?_
          rintro e w' ⟨rfl, rfl⟩
          go_wp2_with fail
          refine JC.out.mono ?_
          rintro e w' ⟨rfl, rfl⟩
          go_wp2_with fail
          go_ret
          exact ⟨⟨_, rfl, ⟨fun e => (by cases e), fun e => absurd e HN.out⟩⟩, HW.out⟩
        · have JC := hide (JC0.out hm)
          clear JC1 JC0
          have HN := hide (HP.out.2 ⟨HA.out, hw, hm⟩)
          clear JW hw hm HP HNO
          go_wp2_with fail
          refine JW1.out.mono ?_
          rintro e w' ⟨rfl, rfl⟩
          go_wp2_with fail
          refine JC.out.mono ?_
          rintro e w' ⟨rfl, rfl⟩
          go_wp2_with fail
          go_roundw
          case rel => exact ⟨i + 1, by omega, by go_num, HN, HW⟩
          case measure => simp [intOf]; omega
      · have JW1 : Hid (Calls Tryz.prog 180 #[.string x] wr fun e w' => e = .returned (.bool false) ∧ w' = wr) := JW.out.mono (fun _e _w' ⟨⟨b, k1, k2⟩, k3⟩ => ⟨by rw [k1]; cases b with
          | true => exact absurd (k2.1 rfl) hw
          | false => rfl, k3⟩)
        have HN := hide (HNO.out (fun e => hw (HP.out.1 e).2.1))
        clear JW hw HP HNO JC1 JC0
        go_wp2_with fail
        refine JW1.out.mono ?_
        rintro e w' ⟨rfl, rfl⟩
        go_wp2_with fail
        go_ret
        exact ⟨⟨_, rfl, ⟨fun e => (by cases e), fun e => absurd e HN.out⟩⟩, HW.out⟩
    · obtain rfl : i = l.length := by omega
      have t1 : ¬ (l.length : Int) < (l.length : Int) := by omega
      have hy := HA.out
      rw [List.take_length] at hy
      have HY := hide hy
      clear HA hy
      go_wp2_with fail
      go_ret
      first | exact ⟨.inr ⟨rfl, HY.out⟩, HW.out⟩ | exact ⟨⟨_, rfl, ⟨fun _ => HY.out, fun _ => rfl⟩⟩, HW.out⟩
end Go.Proofs.YtafmiolehlagkaaGreat

/-
  World: slices.Clone of texts.
-/
namespace Go.Proofs.YtafmiolehlagkaaGreat
open Go.RowKit
set_option maxRecDepth 100000
theorem info9 : (Tryz.prog.info? 9).map (fun i => (i.zero, i.size, i.bytes)) = some (some (.string ⟨#[]⟩), 1, 16) := by kernel_rfl
def sz (l : List ByteArray) : List Value := l.map Value.string
theorem sz_len (l : List ByteArray) : (sz l).length = l.length := by simp [sz]
theorem sz_one (l : List ByteArray) : ∀ u ∈ sz l, u.oneCell' = true := by
  intro u hu
  simp only [sz, List.mem_map] at hu
  obtain ⟨x, -, rfl⟩ := hu
  rfl
theorem sz_at (l : List ByteArray) (i : Nat) (h : i < l.length) : (sz l)[i]? = some (.string l[i]) := by simp [sz, h]
theorem Sr.own {w : World} {v : Value} {l : List ByteArray} {B : Nat} (h : w.ownsRow B 9 1 v l.length (sz l)) : Sr w v l := by
  rcases h.2 with ⟨rfl, hl⟩ | ⟨g, c, cur, rfl, -, hg, h1, h2, hcs, htake⟩
  · obtain rfl := List.eq_nil_of_length_eq_zero hl
    exact ⟨none, 0, rfl, Nat.le_refl _, Nat.zero_le _, fun j hj => absurd hj (by simp)⟩
  · refine ⟨_, c, rfl, h1, h2, fun j hj => ⟨g, 0, rfl, ?_⟩⟩
    rw [Nat.zero_add, h.cellAt j (by omega), sz_at l j hj]
set_option maxHeartbeats 1000000 in
theorem clone_texts (v : Value) (l : List ByteArray) (w : World) (h : Sr w v l) (hn : l.length ≤ 1000000) :
    Calls Tryz.prog 145 #[v] w fun e w' => ∃ v', e = .returned v' ∧ w'.ownsRow w.heap.size 9 1 v' l.length (sz l) ∧ Below w.heap.size w w' := by
  obtain ⟨i0, hi, hz0, hz1, hz2⟩ := info_parts info9
  have q41 : ∀ (w : World) (a : Option Addr) (n c n' c' : Nat), (binOp .eql 41 (.slice a n c) (.slice none n' c')).run Tryz.prog w = .ok (.bool a.isNone) w := fun w a n c n' c' => Lib.run_eql_slice_nil w _ _ a n c n' c' Tryz.underlying41
  obtain ⟨ao, c, rfl, h1, h2, h3⟩ := h
  cases ao with
  | none =>
    obtain rfl : l = [] := by
      cases l with
      | nil => rfl
      | cons x t =>
        obtain ⟨g, o, e, -⟩ := h3 0 (by simp)
        cases e
    clear h3
    go_enter Tryz.func145, Tryz.ntmps145
    go_wp2_with fail
    go_ret
    exact ⟨_, rfl, World.ownsRow_nil _ _ _ _, Below.refl _ _⟩
  | some ad =>
    have H : Hid (∀ j u, (sz l)[j]? = some u → (w.alloc (.cells #[] 9)).cell? (ad.add j) = some u) := fun j u hj => by
      have hj2 : j < l.length := by
        have := (List.getElem?_eq_some_iff.1 hj).1
        rwa [sz_len] at this
      rw [sz_at l j hj2] at hj
      obtain ⟨g', o', e3, z4⟩ := h3 j hj2
      obtain rfl := Option.some.inj e3
      rw [add_at, ← Option.some.inj hj]
      exact ((below_alloc w _).cell (p := ⟨g', o' + j, none⟩) (World.block_lt_of_cell? w _ z4)).trans z4
    clear h3
    go_enter Tryz.func145, Tryz.ntmps145
    go_wp2_with (at_builtin; refine wpList_append_own_at _ rfl _ _ 41 rfl w.heap.size 9 i0 (.string ⟨#[]⟩) 1 16 Tryz.underlying41 hi hz0 hz1 hz2 rfl (by decide) _ 0 [] rfl (World.ownsRow_lit w #[] 0 (Nat.le_refl _) (Nat.zero_le _) rfl) ad l.length c (sz l) rfl (by rw [sz_len]; omega) H.out (sz_one l) (by unfold maxLen; omega) (by omega) (by simp) ?_)
    intro v' w' ho hg _ _
    obtain ⟨ao, c, rfl⟩ := own_len ho
    have HO := hide ho
    have HG := hide hg
    clear ho hg
    go_wp2_with fail
    go_ret
    refine ⟨_, rfl, ?_, (below_alloc w _).grown HG.out (by simp) (fun k e => ?_)⟩
    · have := HO.out
      simpa using this
    · simp [Value.ownBlock] at e
      omega
end Go.Proofs.YtafmiolehlagkaaGreat

/-
  World: whether kinds may be those of a world.
-/
namespace Go.Proofs.YtafmiolehlagkaaGreat
open Go.RowKit
set_option maxRecDepth 100000
def fieldsOk (k : Kind) : Prop := k.2.length ≤ 4 ∧ areW k.2
def mayB (ks : List Kind) : Prop := 1 ≤ ks.length ∧ ks.length ≤ 12 ∧ (∀ k ∈ ks, fieldsOk k) ∧ areW (ks.map (·.1))
theorem sz_append (a b : List ByteArray) : sz (a ++ b) = sz a ++ sz b := by simp [sz]
theorem names_push (ks : List Kind) (i : Nat) (hi : i < ks.length) : (ks.take (i + 1)).map (·.1) = (ks.take i).map (·.1) ++ [ks[i].1] := by
  rw [List.take_succ_eq_append_getElem hi, List.map_append]
  rfl
set_option maxHeartbeats 4000000 in
theorem maybe_any {w : World} {v : Value} {ks : List Kind} (h : Kr w v ks) : Calls Tryz.prog 71 #[v] w fun e w' => (∃ b : Bool, e = .returned (.bool b) ∧ (b = true ↔ mayB ks)) ∧ Below w.heap.size w w' := by
  obtain ⟨i0, hi0, hz0, hz1, hz2⟩ := info_parts info9
  have HK := hide h
  obtain ⟨ao, c, rfl, h1, h2, h3⟩ := h
  have hbig : c ≤ 9223372036854775807 := by unfold maxLen at h2; omega
  clear h3 h2
  by_cases g1 : (ks.length : Int) < 1
  · have HN : Hid (¬ mayB ks) := fun h => by have := h.1; omega
    go_enter Tryz.func71, Tryz.ntmps71
    go_wp2_with fail
    go_ret
    first | exact ⟨.inl ⟨rfl, HN.out⟩, Below.refl _ _⟩ | exact ⟨⟨_, rfl, ⟨fun e => (by cases e), fun e => absurd e HN.out⟩⟩, Below.refl _ _⟩
  · by_cases g2 : (ks.length : Int) > 12
    · have HN : Hid (¬ mayB ks) := fun h => by have := h.2.1; omega
      go_enter Tryz.func71, Tryz.ntmps71
      go_wp2_with fail
      go_ret
      first | exact ⟨.inl ⟨rfl, HN.out⟩, Below.refl _ _⟩ | exact ⟨⟨_, rfl, ⟨fun e => (by cases e), fun e => absurd e HN.out⟩⟩, Below.refl _ _⟩
    · go_enter Tryz.func71, Tryz.ntmps71
      go_wp2_with fail
      go_loopw [3, 16] (fun v3 v16 W => ∃ i : Nat, i ≤ ks.length ∧ v16 = .int .i64 (i : Int) ∧ Hid (∀ k ∈ ks.take i, fieldsOk k) ∧ Hid (W.ownsRow w.heap.size 9 1 v3 ((ks.take i).map (·.1)).length (sz ((ks.take i).map (·.1)))) ∧ Hid (Below w.heap.size w W)) (fun _ v16 _ => ks.length - (intOf v16).toNat)
      case atStart => exact ⟨0, Nat.zero_le _, rfl, fun k hk => by simp at hk, World.ownsRow_nil _ _ _ _, Below.refl _ _⟩
      case round =>
        obtain ⟨i, hil, rfl, HA, HO, HB⟩ := hrel
        by_cases hlt : i < ks.length
        · have t1 : (i : Int) < (ks.length : Int) := by omega
          obtain ⟨ao', c', e', -, -, h3⟩ := HK.out.later HB.out
          simp only [Value.slice.injEq, true_and] at e'
          obtain ⟨rfl, rfl⟩ := e'
          obtain ⟨g, o, vf, rfl, e1, e2, e3⟩ := h3 i hlt
          have hnp := hide (names_push ks i hlt)
          have HNO : Hid (¬ fieldsOk ks[i] → ¬ mayB ks) := fun h e => h (e.2.2.1 _ (List.getElem_mem hlt))
          have HOK : Hid (fieldsOk ks[i] → ∀ k ∈ ks.take (i + 1), fieldsOk k) := fun h k hk => by
            rw [List.take_succ_eq_append_getElem hlt, List.mem_append, List.mem_singleton] at hk
            rcases hk with hk | rfl
            · exact HA.out k hk
            · exact h
          have hnl : ((ks.take i).map (·.1)).length ≤ 12 := by rw [List.length_map, List.length_take]; omega
          generalize (ks.take i).map (·.1) = N at *
          generalize ks[i] = kd at *
          obtain ⟨nm, fs⟩ := kd
          have E3 := hide e3
          obtain ⟨af, cf, rfl, -⟩ := e3
          obtain ⟨a3, c3, rfl⟩ := own_len HO.out
          dsimp only at e1 e2
          have hsz := HB.out.size
          have B5 : Hid (Below wr.heap.size wr (wr.alloc (.cells #[.string nm, .slice af fs.length cf] 119))) := below_alloc wr _
          have JA := hide (arewords_any (w := wr.alloc (.cells #[.string nm, .slice af fs.length cf] 119)) (E3.out.on (fun a x e => (B5.out.cell (p := a) (World.block_lt_of_cell? wr _ e)).trans e)))
          clear h3 E3
          by_cases g4 : (fs.length : Int) > 4
          · have HN := hide (HNO.out (fun e => by have := e.1; dsimp only at this; omega))
            clear HNO HOK JA
            go_wp2_with fail
            go_ret
            first | exact ⟨.inl ⟨rfl, HN.out⟩, below_on HB.out B5.out⟩ | exact ⟨⟨_, rfl, ⟨fun e => (by cases e), fun e => absurd e HN.out⟩⟩, below_on HB.out B5.out⟩
          · by_cases hW : areW fs
            · have JA1 : Hid (Calls Tryz.prog 143 #[.slice af fs.length cf] (wr.alloc (.cells #[.string nm, .slice af fs.length cf] 119)) fun e w' => e = .returned (.bool true) ∧ w' = wr.alloc (.cells #[.string nm, .slice af fs.length cf] 119)) := JA.out.mono (fun _e _w' ⟨⟨b, k1, k2⟩, k3⟩ => ⟨by rw [k1, k2.2 hW], k3⟩)
              have HY := hide (HOK.out ⟨by dsimp only; omega, hW⟩)
              have HX : Hid (∀ (v' : Value) (w' : World), w'.ownsRow w.heap.size 9 1 v' (N.length + 1) (sz N ++ [.string nm]) → ((wr.alloc (.cells #[.string nm, .slice af fs.length cf] 119)).alloc (.cells #[.string nm] 9)).grownBy w' (Value.slice a3 N.length c3).ownBlock → w'.ownsRow w.heap.size 9 1 v' ((ks.take (i + 1)).map (·.1)).length (sz ((ks.take (i + 1)).map (·.1))) ∧ Below w.heap.size w w') := fun v' w' k1 k2 => by
                refine ⟨?_, (below_on (below_on HB.out B5.out) (below_alloc _ _)).grown k2 (by simp; omega) (fun k e => (HO.out.lt k e).1)⟩
                rw [hnp.out, List.length_append, sz_append]
                exact k1
              clear JA HOK HNO hW hnp
              go_wp2_with (first | (go_at_call 143; refine JA1.out.mono ?_; rintro e w' ⟨rfl, rfl⟩) | (at_builtin; refine wpList_append_own_at _ rfl _ _ 41 rfl w.heap.size 9 i0 (.string ⟨#[]⟩) 1 16 Tryz.underlying41 hi0 hz0 hz1 hz2 rfl (by decide) _ N.length (sz N) rfl ((HO.out.alloc _).alloc _) ⟨wr.heap.size + 1, 0, none⟩ 1 1 [.string nm] rfl rfl ?c1 ?c2 (by unfold maxLen; omega) (by omega) ?c5 ?_))
              case c1 =>
                intro j u hj
                match j, hj with
                | 0, hj => simp at hj; subst hj; simp [Addr.add]
              case c2 =>
                intro u hu
                simp at hu
                subst hu
                rfl
              case c5 => simp; omega
              intro v' w' k1 k2 _ _
              obtain ⟨r1, r2⟩ := HX.out v' w' k1 k2
              have R1 := hide r1
              have R2 := hide r2
              clear k1 k2 r1 r2 HX
              go_wp2_with fail
              go_roundw
              case rel => exact ⟨i + 1, by omega, by go_num, HY, R1, R2⟩
              case measure => simp [intOf]; omega
            · have JA1 : Hid (Calls Tryz.prog 143 #[.slice af fs.length cf] (wr.alloc (.cells #[.string nm, .slice af fs.length cf] 119)) fun e w' => e = .returned (.bool false) ∧ w' = wr.alloc (.cells #[.string nm, .slice af fs.length cf] 119)) := JA.out.mono (fun _e _w' ⟨⟨b, k1, k2⟩, k3⟩ => ⟨by rw [k1]; cases b with
                | true => exact absurd (k2.1 rfl) hW
                | false => rfl, k3⟩)
              have HN := hide (HNO.out (fun e => hW e.2))
              clear HNO HOK JA hW
              go_wp2_with fail
              refine JA1.out.mono ?_
              rintro e w' ⟨rfl, rfl⟩
              go_wp2_with fail
              go_ret
              first | exact ⟨.inl ⟨rfl, HN.out⟩, below_on HB.out B5.out⟩ | exact ⟨⟨_, rfl, ⟨fun e => (by cases e), fun e => absurd e HN.out⟩⟩, below_on HB.out B5.out⟩
        · obtain rfl : i = ks.length := by omega
          have t1 : ¬ (ks.length : Int) < (ks.length : Int) := by omega
          have ho := HO.out
          have ha := HA.out
          rw [List.take_length] at ho ha
          have JA := hide (arewords_any (Sr.own ho))
          have HM : Hid (areW (ks.map (·.1)) ↔ mayB ks) := ⟨fun e => ⟨by omega, by omega, ha, e⟩, fun e => e.2.2.2⟩
          obtain ⟨a3, c3, rfl⟩ := own_len ho
          clear ho ha HO HA
          generalize (ks.map (·.1)).length = nn at *
          go_wp2_with fail
          refine JA.out.mono ?_
          rintro e w' ⟨⟨b, rfl, hb⟩, rfl⟩
          have HBB := hide (hb.trans HM.out)
          clear hb JA HM
          go_wp2_with fail
          go_ret
          exact ⟨⟨b, rfl, HBB.out⟩, HB.out⟩
end Go.Proofs.YtafmiolehlagkaaGreat

/-
  World: kinds cloned; New.
-/
namespace Go.Proofs.YtafmiolehlagkaaGreat
open Go.RowKit
set_option maxRecDepth 100000
theorem infoK : (Tryz.prog.info? 119).map (fun i => (i.zero, i.size, i.bytes)) = some (some (.agg #[.string ⟨#[]⟩, .slice none 0 0]), 2, 40) := by kernel_rfl
abbrev Kc := ByteArray × Option Addr × Nat × Nat
def kcV (p : Kc) : Value := .slice p.2.1 p.2.2.1 p.2.2.2
def kz : List Kc → List Value
  | [] => []
  | p :: l => .string p.1 :: .slice p.2.1 p.2.2.1 p.2.2.2 :: kz l
theorem kz_len : ∀ l : List Kc, (kz l).length = l.length * 2
  | [] => rfl
  | p :: t => by simp [kz, kz_len t]; omega
theorem kz_at : ∀ (l : List Kc) (i : Nat) (h : i < l.length), (kz l)[i * 2]? = some (.string l[i].1) ∧ (kz l)[i * 2 + 1]? = some (kcV l[i])
  | p :: t, 0, _ => ⟨rfl, rfl⟩
  | p :: t, i + 1, h => by
    have := kz_at t i (by simpa using h)
    rw [show (i + 1) * 2 = i * 2 + 1 + 1 by omega]
    simpa [kz] using this
theorem kz_set : ∀ (l : List Kc) (i : Nat) (x : Option Addr × Nat × Nat) (_h : i < l.length), (kz l).set (i * 2 + 1) (.slice x.1 x.2.1 x.2.2) = kz (l.set i (l[i].1, x))
  | p :: t, 0, x, _ => rfl
  | p :: t, i + 1, x, h => by
    have := kz_set t i x (by simpa using h)
    rw [show (i + 1) * 2 = i * 2 + 1 + 1 by omega]
    simpa [kz] using this
theorem kz_one : ∀ l : List Kc, ∀ u ∈ kz l, u.oneCell' = true
  | [], _, h => by cases h
  | p :: t, v, h => by
    simp only [kz, List.mem_cons] at h
    rcases h with rfl | rfl | h
    · rfl
    · rfl
    · exact kz_one t v h
/-- Kinds as they lie: names, and where the fields are. -/
def Kl (w : World) (v : Value) (L : List Kc) : Prop :=
  ∃ ao c, v = .slice ao L.length c ∧ L.length ≤ c ∧ c ≤ maxLen ∧ ∀ i (hi : i < L.length), ∃ g o, ao = some ⟨g, o, none⟩ ∧ w.cell? ⟨g, o + i * 2, none⟩ = some (.string L[i].1) ∧ w.cell? ⟨g, o + i * 2 + 1, none⟩ = some (kcV L[i])
theorem Kr.kl {w : World} {v : Value} {ks : List Kind} (h : Kr w v ks) : ∃ L, Kl w v L ∧ L.length = ks.length ∧ ∀ i (h1 : i < L.length) (h2 : i < ks.length), L[i].1 = ks[i].1 ∧ Sr w (kcV L[i]) ks[i].2 := by
  obtain ⟨ao, c, rfl, h1, h2, h3⟩ := h
  have hL : ∀ n, n ≤ ks.length → ∃ L : List Kc, L.length = n ∧ ∀ i (h1 : i < L.length) (h2 : i < ks.length), (∃ g o, ao = some ⟨g, o, none⟩ ∧ w.cell? ⟨g, o + i * 2, none⟩ = some (.string L[i].1) ∧ w.cell? ⟨g, o + i * 2 + 1, none⟩ = some (kcV L[i])) ∧ L[i].1 = ks[i].1 ∧ Sr w (kcV L[i]) ks[i].2 := by
    intro n
    induction n with
    | zero => exact fun _ => ⟨[], rfl, fun i h => by simp at h⟩
    | succ n ih =>
      intro hn
      obtain ⟨L, e1, e2⟩ := ih (by omega)
      obtain ⟨g, o, vf, ea, a1, a2, a3⟩ := h3 n (by omega)
      have a4 := a3
      obtain ⟨af, cf, rfl, -⟩ := a3
      refine ⟨L ++ [(ks[n].1, af, ks[n].2.length, cf)], by simp [e1], fun i hi hi2 => ?_⟩
      by_cases hin : i < L.length
      · rw [List.getElem_append_left hin]
        exact e2 i hin hi2
      · have hie : i = L.length := by simp at hi; omega
        subst hie
        rw [List.getElem_append_right (Nat.le_refl _)]
        simp only [Nat.sub_self, List.getElem_cons_zero, e1]
        exact ⟨⟨g, o, ea, a1, a2⟩, trivial, a4⟩
  obtain ⟨L, e1, e2⟩ := hL ks.length (Nat.le_refl _)
  refine ⟨L, ⟨ao, c, by rw [e1], by omega, h2, fun i hi => (e2 i hi (by omega)).1⟩, e1, fun i hi hi2 => (e2 i hi hi2).2⟩
set_option maxHeartbeats 1000000 in
theorem clone_kl (v : Value) (l : List Kc) (w : World) (h : Kl w v l) (hn : l.length ≤ 1000000) :
    Calls Tryz.prog 144 #[v] w fun e w' => ∃ v', e = .returned v' ∧ w'.ownsRow w.heap.size 119 2 v' l.length (kz l) ∧ Below w.heap.size w w' := by
  obtain ⟨i0, hi, hz0, hz1, hz2⟩ := info_parts infoK
  have q22 : ∀ (w : World) (a : Option Addr) (n c n' c' : Nat), (binOp .eql 22 (.slice a n c) (.slice none n' c')).run Tryz.prog w = .ok (.bool a.isNone) w := fun w a n c n' c' => Lib.run_eql_slice_nil w _ _ a n c n' c' Tryz.underlying22
  obtain ⟨ao, c, rfl, h1, h2, h3⟩ := h
  cases ao with
  | none =>
    obtain rfl : l = [] := by
      cases l with
      | nil => rfl
      | cons x t =>
        obtain ⟨g, o, e, -⟩ := h3 0 (by simp)
        cases e
    clear h3
    go_enter Tryz.func144, Tryz.ntmps144
    go_wp2_with fail
    go_ret
    exact ⟨_, rfl, World.ownsRow_nil _ _ _ _, Below.refl _ _⟩
  | some ad =>
    have H : Hid (∀ j u, (kz l)[j]? = some u → (w.alloc (.cells #[] 119)).cell? (ad.add j) = some u) := fun j u hj => by
      have hj2 : j < l.length * 2 := by
        have := (List.getElem?_eq_some_iff.1 hj).1
        rwa [kz_len] at this
      obtain ⟨g', o', e3, z4, z5⟩ := h3 (j / 2) (by omega)
      obtain rfl := Option.some.inj e3
      obtain ⟨y1, y2⟩ := kz_at l (j / 2) (by omega)
      rw [add_at]
      rcases Nat.mod_two_eq_zero_or_one j with hm | hm
      · have hje : j / 2 * 2 = j := by omega
        rw [hje] at y1 z4
        rw [y1] at hj
        rw [← Option.some.inj hj]
        exact ((below_alloc w _).cell (p := ⟨g', o' + j, none⟩) (World.block_lt_of_cell? w _ z4)).trans z4
      · have hje : j / 2 * 2 + 1 = j := by omega
        rw [hje] at y2
        rw [show o' + j / 2 * 2 + 1 = o' + j by omega] at z5
        rw [y2] at hj
        rw [← Option.some.inj hj]
        exact ((below_alloc w _).cell (p := ⟨g', o' + j, none⟩) (World.block_lt_of_cell? w _ z5)).trans z5
    clear h3
    go_enter Tryz.func144, Tryz.ntmps144
    go_wp2_with (at_builtin; refine wpList_append_own_at _ rfl _ _ 22 rfl w.heap.size 119 i0 (.agg #[.string ⟨#[]⟩, .slice none 0 0]) 2 40 Tryz.underlying22 hi hz0 hz1 hz2 rfl (by decide) _ 0 [] rfl (World.ownsRow_lit w #[] 0 (Nat.le_refl _) (Nat.zero_le _) rfl) ad l.length c (kz l) rfl (by rw [kz_len]) H.out (kz_one l) (by unfold maxLen; omega) (by omega) (by simp) ?_)
    intro v' w' ho hg _ _
    obtain ⟨ao, c, rfl⟩ := own_len ho
    have HO := hide ho
    have HG := hide hg
    clear ho hg
    go_wp2_with fail
    go_ret
    refine ⟨_, rfl, ?_, (below_alloc w _).grown HG.out (by simp) (fun k e => ?_)⟩
    · have := HO.out
      simpa using this
    · simp [Value.ownBlock] at e
      omega
end Go.Proofs.YtafmiolehlagkaaGreat

/-
  World: cloneKinds; New.
-/
namespace Go.Proofs.YtafmiolehlagkaaGreat
open Go.RowKit
set_option maxRecDepth 100000
/-- The clone under way: behind i rounds. -/
def Ck (w w1 W : World) (v : Value) (ks : List Kind) (L : List Kc) (i : Nat) : Prop :=
  L.length = ks.length ∧ (∀ j (h1 : j < L.length) (h2 : j < ks.length), L[j].1 = ks[j].1 ∧ (j < i → W.ownsRow w1.heap.size 9 1 (kcV L[j]) ks[j].2.length (sz ks[j].2))) ∧ W.ownsRow w.heap.size 119 2 v ks.length (kz L) ∧ Below w.heap.size w W ∧ w1.heap.size ≤ W.heap.size ∧ w.heap.size ≤ w1.heap.size ∧ ∀ k, v.ownBlock = some k → k < w1.heap.size
theorem Ck.turn {w w1 W W2 : World} {g c : Nat} {ks : List Kind} {L : List Kc} {i : Nat} (h : Ck w w1 W (.slice (some ⟨g, 0, none⟩) ks.length c) ks L i) (hi : i < ks.length) (hb : Below W.heap.size W W2) {a2 : Option Addr} {n2 c2 : Nat} (ho : W2.ownsRow W.heap.size 9 1 (.slice a2 n2 c2) ks[i].2.length (sz ks[i].2)) :
    (W2.cell? ⟨g, i * 2 + 1, none⟩ = some (kcV (L[i]'(by rw [h.1]; exact hi))) ∧ W2.frozen? ⟨g, i * 2 + 1, none⟩ = false) ∧ ∃ L', Ck w w1 (W2.setCell ⟨g, i * 2 + 1, none⟩ (.slice a2 n2 c2)) (.slice (some ⟨g, 0, none⟩) ks.length c) ks L' (i + 1) := by
  obtain ⟨h1, h2, h3, h4, h5, h6, h7⟩ := h
  have hL : i < L.length := by omega
  have h3' := own_later h3 hb
  have hg := h7 g rfl
  refine ⟨⟨by rw [h3'.cellAt (i * 2 + 1) (by omega)]; exact (kz_at L i hL).2, h3'.frozenAt _⟩, L.set i (L[i].1, a2, n2, c2), by rw [List.length_set]; exact h1, fun j j1 j2 => ?_, ?_, ?_, ?_, h6, h7⟩
  · rw [List.length_set] at j1
    obtain ⟨k1, k2⟩ := h2 j j1 j2
    by_cases e : i = j
    · subst e
      rw [List.getElem_set_self]
      refine ⟨k1, fun _ => own_set (own_lower ho h5) (fun e' => ?_)⟩
      have := (ho.lt g e').1
      omega
    · rw [List.getElem_set_ne e]
      refine ⟨k1, fun hj => own_set (own_later (k2 (by omega)) hb) (fun e' => ?_)⟩
      have := ((k2 (by omega)).lt g e').1
      omega
  · have := (h3'.stored (i * 2 + 1) (.slice a2 n2 c2)).1
    rw [show (Value.slice a2 n2 c2) = .slice (a2, n2, c2).1 (a2, n2, c2).2.1 (a2, n2, c2).2.2 from rfl, kz_set L i (a2, n2, c2) hL] at this
    exact this
  · have := (h3.lt g rfl).1
    exact (below_on h4 hb).grown (grown_set _ _ _ _) (by have := hb.size; have := h4.size; omega) (fun k e => by cases e; omega)
  · have := (grown_set W2 g (i * 2 + 1) (.slice a2 n2 c2)).size
    have := hb.size
    omega
/-- Kinds in memory of their own. -/
def Ko (B : Nat) (w : World) (v : Value) (ks : List Kind) : Prop := ∃ L, w.ownsRow B 119 2 v ks.length (kz L) ∧ L.length = ks.length ∧ ∀ i (h1 : i < L.length) (h2 : i < ks.length), L[i].1 = ks[i].1 ∧ w.ownsRow B 9 1 (kcV L[i]) ks[i].2.length (sz ks[i].2)
theorem Ck.fin {w w1 W : World} {v : Value} {ks : List Kind} {L : List Kc} (h : Ck w w1 W v ks L ks.length) : Ko w.heap.size W v ks ∧ Below w.heap.size w W := by
  obtain ⟨h1, h2, h3, h4, h5, h6, h7⟩ := h
  exact ⟨⟨L, h3, h1, fun i i1 i2 => ⟨(h2 i i1 i2).1, own_lower ((h2 i i1 i2).2 i2) h6⟩⟩, h4⟩
theorem Ko.kr {B : Nat} {w : World} {v : Value} {ks : List Kind} (h : Ko B w v ks) : Kr w v ks := by
  obtain ⟨L, h1, h2, h3⟩ := h
  rcases h1.2 with ⟨rfl, hl⟩ | ⟨g, c, cur, rfl, -, hg, e1, e2, hcs, htake⟩
  · have : ks.length = 0 := hl
    exact ⟨none, 0, by rw [this], by omega, Nat.zero_le _, fun j hj => absurd hj (by omega)⟩
  · refine ⟨_, c, rfl, e1, e2, fun i hi => ⟨g, 0, kcV (L[i]'(by omega)), rfl, ?_, ?_, ?_⟩⟩
    · rw [Nat.zero_add, h1.cellAt (i * 2) (by omega), (kz_at L i (by omega)).1, (h3 i (by omega) hi).1]
    · rw [Nat.zero_add, h1.cellAt (i * 2 + 1) (by omega), (kz_at L i (by omega)).2]
    · exact Sr.own (h3 i (by omega) hi).2
theorem Ko.same {B : Nat} {w w' : World} {v : Value} {ks : List Kind} (h : Ko B w v ks) (hs : ∀ k, B ≤ k → k < w.heap.size → w'.heap[k]? = w.heap[k]?) : Ko B w' v ks := by
  have key : ∀ {e s n : Nat} {v : Value} {xs : List Value}, w.ownsRow B e s v n xs → w'.ownsRow B e s v n xs := fun {e s n v xs} hr => by
    have hlt := hr.lt
    obtain ⟨a1, a2⟩ := hr
    refine ⟨a1, ?_⟩
    rcases a2 with a2 | ⟨g, c, cur, rfl, b1, b2, b3⟩
    · exact .inl a2
    · have := hlt g rfl
      exact .inr ⟨g, c, cur, rfl, b1, (hs g this.1 this.2).trans b2, b3⟩
  obtain ⟨L, h1, h2, h3⟩ := h
  exact ⟨L, key h1, h2, fun i i1 i2 => ⟨(h3 i i1 i2).1, key (h3 i i1 i2).2⟩⟩
set_option maxHeartbeats 4000000 in
theorem clone_kinds {w : World} {v : Value} {ks : List Kind} (h : Kr w v ks) (hn : ks.length ≤ 1000) (hf : ∀ k ∈ ks, k.2.length ≤ 1000) :
    Calls Tryz.prog 73 #[v] w fun e w' => ∃ v', e = .returned v' ∧ Ko w.heap.size w' v' ks ∧ Below w.heap.size w w' := by
  have HK := hide h
  obtain ⟨L0, hkl, hlen, hsr⟩ := h.kl
  have JC := hide (clone_kl v L0 w hkl (by omega))
  have HN : Hid (L0.length = ks.length) := hlen
  have HR : Hid (∀ i (h1 : i < L0.length) (h2 : i < ks.length), L0[i].1 = ks[i].1) := fun i h1 h2 => (hsr i h1 h2).1
  clear hsr hkl
  obtain ⟨ao, c, rfl, h1, h2, h3⟩ := h
  have hbig : c ≤ 9223372036854775807 := by unfold maxLen at h2; omega
  have HF := hide hf
  clear h3 h2 hf hlen
  go_enter Tryz.func73, Tryz.ntmps73
  go_wp2_with fail
  refine JC.out.mono ?_
  rintro e w1 ⟨v', rfl, ho, hb⟩
  rw [HN.out] at ho
  have hlt := ho.lt
  have hbs := hb.size
  obtain ⟨a', c', rfl⟩ := own_len ho
  have H0 : Hid (∃ L, Ck w w1 w1 (.slice a' ks.length c') ks L 0) := ⟨L0, HN.out, fun j j1 j2 => ⟨HR.out j j1 j2, fun e => absurd e (by omega)⟩, ho, hb, Nat.le_refl _, hb.size, fun k e => (hlt k e).2⟩
  have hc' := (own_cap ho)
  clear ho hlt HR JC hb HN
  go_wp2_with fail
  go_loopw [10] (fun v10 W => ∃ i : Nat, i ≤ ks.length ∧ v10 = .int .i64 (i : Int) ∧ Hid (∃ L, Ck w w1 W (.slice a' ks.length c') ks L i)) (fun v10 _ => ks.length - (intOf v10).toNat)
  case atStart => exact ⟨0, Nat.zero_le _, rfl, H0⟩
  case round =>
    obtain ⟨i, hil, rfl, HC⟩ := hrel
    by_cases hlt : i < ks.length
    · have t1 : (i : Int) < (ks.length : Int) := by omega
      have t2 : (0 : Int) ≤ (i : Int) := by omega
      obtain ⟨L, hC⟩ := HC.out
      obtain ⟨ao2, c2, e2, -, -, h3⟩ := HK.out.later hC.2.2.2.1
      simp only [Value.slice.injEq, true_and] at e2
      obtain ⟨rfl, rfl⟩ := e2
      obtain ⟨g, o, vf, rfl, y1, y2, y3⟩ := h3 i hlt
      obtain ⟨g', c3, e3, -, -⟩ := own_form hC.2.2.1 (by omega)
      simp only [Value.slice.injEq, true_and] at e3
      obtain ⟨rfl, rfl⟩ := e3
      have hfl := HF.out _ (List.getElem_mem hlt)
      have HT : Hid (∀ (W2 : World), Below (wr.alloc (.cells #[.string ks[i].1, vf] 119)).heap.size (wr.alloc (.cells #[.string ks[i].1, vf] 119)) W2 → ∀ a2 n2 c2, W2.ownsRow (wr.alloc (.cells #[.string ks[i].1, vf] 119)).heap.size 9 1 (.slice a2 n2 c2) ks[i].2.length (sz ks[i].2) → (W2.cell? ⟨g', i * 2 + 1, none⟩ = some (kcV (L[i]'(by rw [hC.1]; exact hlt))) ∧ W2.frozen? ⟨g', i * 2 + 1, none⟩ = false) ∧ ∃ L', Ck w w1 (W2.setCell ⟨g', i * 2 + 1, none⟩ (.slice a2 n2 c2)) (.slice (some ⟨g', 0, none⟩) ks.length c') ks L' (i + 1)) := fun W2 hb2 a2 n2 c2 ho => hC.turn hlt (below_on (below_alloc wr _) hb2) (own_lower ho (by simp))
      have JT : Hid (Calls Tryz.prog 145 #[vf] (wr.alloc (.cells #[.string ks[i].1, vf] 119)) fun e w' => ∃ v', e = .returned v' ∧ w'.ownsRow (wr.alloc (.cells #[.string ks[i].1, vf] 119)).heap.size 9 1 v' ks[i].2.length (sz ks[i].2) ∧ Below (wr.alloc (.cells #[.string ks[i].1, vf] 119)).heap.size (wr.alloc (.cells #[.string ks[i].1, vf] 119)) w') := clone_texts vf _ _ (y3.on (fun a x e => ((below_alloc wr _).cell (p := a) (World.block_lt_of_cell? wr _ e)).trans e)) (by omega)
      generalize L[i]'(by rw [hC.1]; exact hlt) = li at *
      clear hC HC h3 hfl
      generalize ks[i] = kd at *
      obtain ⟨nm, fs⟩ := kd
      obtain ⟨af, cf, rfl, -⟩ := y3
      dsimp only at y1 y2 HT JT
      go_wp2_with fail
      refine JT.out.mono ?_
      rintro e w2 ⟨v2, rfl, ho2, hb2⟩
      obtain ⟨a2, c2, rfl⟩ := own_len ho2
      obtain ⟨⟨z1, z2⟩, hz⟩ := HT.out w2 hb2 _ _ _ ho2
      have HZ := hide hz
      clear hz HT JT ho2 hb2
      go_wp2_with fail
      go_roundw
      case rel => exact ⟨i + 1, by omega, by go_num, HZ⟩
      case measure => simp [intOf]; omega
    · obtain rfl : i = ks.length := by omega
      have t1 : ¬ (ks.length : Int) < (ks.length : Int) := by omega
      obtain ⟨L, hC⟩ := HC.out
      have HE := hide hC.fin
      clear hC HC
      go_wp2_with fail
      go_ret
      exact ⟨_, rfl, HE.out.1, HE.out.2⟩
/-- A world of nobody. -/
theorem wx_made {w w3 : World} {g0 B2 : Nat} {vk : Value} {ks : List Kind} (hp : Pl w3 (fun k => k = g0) g0 200 [] []) (hg : g0 < B2) (hk : Ko B2 w3 vk ks) (hB : w.heap.size ≤ g0) (hB2 : B2 ≤ w3.heap.size) (T : Nat → Ts) :
    ∃ own : Nat → Nat, (∀ k, k < w.heap.size → own k = 0) ∧ Wx 0 (((w3.alloc (.map #[] 0)).alloc (.map #[] 0)).alloc (.cells #[vk, .pointer (some ⟨g0, 0, none⟩), .map (some w3.heap.size), .map (some (w3.heap.size + 1))] 109)) own (w3.heap.size + 1 + 1) vk g0 w3.heap.size (w3.heap.size + 1) 0 ks [] [] (fun _ => none) (fun _ => none) T := by
  obtain ⟨o3, ho3⟩ : ∃ X, X = Obj.cells #[vk, .pointer (some ⟨g0, 0, none⟩), .map (some w3.heap.size), .map (some (w3.heap.size + 1))] 109 (0, 0) := ⟨_, rfl⟩
  rw [← ho3]
  obtain ⟨n1, n2, n3⟩ : ((((w3.alloc (.map #[] 0)).alloc (.map #[] 0)).alloc o3).heap[w3.heap.size]? = some (.map #[] 0)) ∧ ((((w3.alloc (.map #[] 0)).alloc (.map #[] 0)).alloc o3).heap[w3.heap.size + 1]? = some (.map #[] 0)) ∧ ((((w3.alloc (.map #[] 0)).alloc (.map #[] 0)).alloc o3).heap[w3.heap.size + 1 + 1]? = some o3) := by
    refine ⟨?_, ?_, ?_⟩
    · have b1 := below_alloc (w3.alloc (.map #[] 0)) (.map #[] 0)
      have b2 := below_alloc ((w3.alloc (.map #[] 0)).alloc (.map #[] 0)) o3
      exact (b2.block _ (by simp; omega)).trans ((b1.block _ (by simp)).trans (heap_alloc_new w3 _))
    · have b2 := below_alloc ((w3.alloc (.map #[] 0)).alloc (.map #[] 0)) o3
      refine (b2.block _ (by simp)).trans ?_
      have := heap_alloc_new (w3.alloc (.map #[] 0)) (.map #[] 0)
      simpa using this
    · have := heap_alloc_new ((w3.alloc (.map #[] 0)).alloc (.map #[] 0)) o3
      simpa using this
  have hb : Below w3.heap.size w3 (((w3.alloc (.map #[] 0)).alloc (.map #[] 0)).alloc o3) := below_on (below_on (below_alloc w3 _) (below_alloc _ _)) (below_alloc _ _)
  have hsz : (((w3.alloc (.map #[] 0)).alloc (.map #[] 0)).alloc o3).heap.size = w3.heap.size + 3 := by simp
  generalize ((w3.alloc (.map #[] 0)).alloc (.map #[] 0)).alloc o3 = W at *
  refine ⟨fun k => if k < B2 then (if k = g0 then 3 else 0) else if k = w3.heap.size then 4 else if k = w3.heap.size + 1 then 5 else if k = w3.heap.size + 1 + 1 then 1 else 2, fun k hk => ?_, ⟨?_, ?_, ?_⟩, ⟨by omega, by omega⟩, ?_, ?_, fun _ => ?_, fun _ => ?_, fun _ => ?_, fun s g h => by cases h⟩
  · dsimp only
    rw [if_pos (by omega), if_neg (by omega)]
  · dsimp only
    rw [if_neg (by omega), if_neg (by omega), if_neg (by omega), if_pos rfl]
  · dsimp only
    rw [if_neg (by omega), if_pos rfl]
  · dsimp only
    rw [if_neg (by omega), if_neg (by omega), if_pos rfl]
  · rw [Wc, n3, ho3]
  · intro w' hw'
    refine Ko.kr (hk.same (w' := w') (fun k k1 k2 => ?_))
    refine (hw' k ⟨by omega, ?_⟩).trans (hb.block k k2)
    dsimp only
    rw [if_neg (by omega), if_neg (by omega), if_neg (by omega), if_neg (by omega)]
  · refine (hp.later hb).mono (fun k e => ?_)
    subst e
    refine ⟨by omega, ?_⟩
    dsimp only
    rw [if_pos hg, if_pos rfl]
  · exact (Mp.made w3).same (n1.trans (heap_alloc_new w3 _).symm)
  · have e : (w3.alloc (.map #[] 0)).heap.size = w3.heap.size + 1 := by simp
    have h1 := Mq.made (w3.alloc (.map #[] 0))
    have h2 := heap_alloc_new (w3.alloc (.map #[] 0)) (.map #[] 0)
    rw [e] at h1 h2
    exact h1.same (n2.trans h2.symm)
set_option maxHeartbeats 4000000 in
theorem wnew_any {w : World} {v : Value} {ks : List Kind} (h : Kr w v ks) (hm : mayB ks) (T : Nat → Ts) :
    Calls Tryz.prog 22 #[v] w fun e w' => ∃ gw, e = .returned (.tuple #[.pointer (some ⟨gw, 0, none⟩), .int .i64 0]) ∧ (∃ own vk gp gm gt, (∀ k, k < w.heap.size → own k = 0) ∧ Wx 0 w' own gw vk gp gm gt 0 ks [] [] (fun _ => none) (fun _ => none) T) ∧ Below w.heap.size w w' := by
  have JM : Hid (Calls Tryz.prog 71 #[v] w fun e w' => e = .returned (.bool true) ∧ Below w.heap.size w w') := (maybe_any h).mono (fun _e _w' ⟨⟨b, k1, k2⟩, k3⟩ => ⟨by rw [k1, k2.2 hm], k3⟩)
  have JK : Hid (∀ W, Below w.heap.size w W → Calls Tryz.prog 73 #[v] W fun e w' => ∃ v', e = .returned v' ∧ Ko W.heap.size w' v' ks ∧ Below W.heap.size W w') := fun W hW => clone_kinds (h.later hW) (by have := hm.2.1; omega) (fun k hk => by have := (hm.2.2.1 k hk).1; omega)
  have JP : Hid (∀ W : World, Calls Tryz.prog 72 #[.int .i64 200] W fun e w' => e = .returned (.tuple #[.pointer (some ⟨W.heap.size, 0, none⟩), .int .i64 0]) ∧ Pl w' (fun k => k = W.heap.size) W.heap.size 200 [] [] ∧ Below W.heap.size W w') := fun W => i_new_any 200 W (by omega) (by omega)
  have hmm := @run_makeMap Tryz.prog
  obtain ⟨ao, c, rfl, -⟩ := h
  clear hm
  go_enter Tryz.func22, Tryz.ntmps22
  go_wp2_with fail
  refine JM.out.mono ?_
  rintro e w1 ⟨rfl, hb⟩
  have HB1 := hide hb
  clear hb JM
  go_wp2_with fail
  refine (JP.out _).mono ?_
  rintro e w2 ⟨rfl, hp, hb⟩
  have HB2 := hide hb
  have HP := hide hp
  clear hp hb JP
  go_wp2_with fail
  refine (JK.out _ (below_on HB1.out HB2.out)).mono ?_
  rintro e w3 ⟨vk, rfl, hk, hb⟩
  have HB3 := hide hb
  have HKo := hide hk
  clear hb JK
  obtain ⟨L, hk, -⟩ := hk
  obtain ⟨ak, ck, rfl⟩ := own_len hk
  clear hk
  go_wp2_with fail
  go_ret2
  have hlt : w1.heap.size < w2.heap.size := by
    obtain ⟨⟨vg, vl, vf, hpm, -⟩, -⟩ := HP.out
    exact hpm.lt
  obtain ⟨own, o1, o2⟩ := wx_made (w := w) (HP.out.later HB3.out) hlt HKo.out HB1.out.size HB3.out.size T
  refine ⟨_, rfl, ⟨own, _, _, _, _, o1, o2⟩, ?_⟩
  exact below_on (below_on (below_on HB1.out HB2.out) HB3.out) (below_on (below_on (below_alloc w3 _) (below_alloc _ _)) (below_alloc _ _))
end Go.Proofs.YtafmiolehlagkaaGreat

/-
  World: who lives with what.
-/
namespace Go.Proofs.YtafmiolehlagkaaGreat
open Go.RowKit
set_option maxRecDepth 100000
theorem row_ext {a b : List (List Int)} {i j : Nat} (hl : a.length = b.length) (h : ∀ m (h1 : m < a.length) (h2 : m < b.length), a[m].getD i 0 = b[m].getD j 0) : rowOf a i = rowOf b j := by
  refine List.ext_getElem (by simp [rowOf, hl]) (fun m m1 m2 => ?_)
  simp only [rowOf, List.length_map] at m1 m2
  simp only [rowOf, List.getElem_map]
  exact h m m1 m2
theorem row_add_old {cols : List (List Int)} {vals : List Int} {n j : Nat} (hc : ∀ c ∈ cols, c.length = n) (hj : j < n) : rowOf (addRow cols vals) j = rowOf cols j := by
  refine row_ext (addRow_len _ _) (fun m m1 m2 => ?_)
  have := hc _ (List.getElem_mem m2)
  rw [addRow_at cols vals m m2 m1, List.getD_eq_getElem?_getD, List.getElem?_append_left (by omega), ← List.getD_eq_getElem?_getD]
theorem row_add_new {cols : List (List Int)} {vals : List Int} {n : Nat} (hc : ∀ c ∈ cols, c.length = n) (hv : vals.length = cols.length) : rowOf (addRow cols vals) n = vals := by
  refine List.ext_getElem (by rw [rowOf_len, addRow_len, hv]) (fun m m1 m2 => ?_)
  have hm : m < cols.length := by omega
  have hm1 : m < (addRow cols vals).length := by rw [addRow_len]; exact hm
  have := hc _ (List.getElem_mem hm)
  simp only [rowOf, List.getElem_map]
  rw [addRow_at cols vals m hm hm1, List.getD_eq_getElem?_getD, List.getElem?_append_right (by omega), this, Nat.sub_self]
  simp [m2]
theorem row_rem {cols : List (List Int)} {n r j : Nat} (hc : ∀ c ∈ cols, c.length = n) (hr : r < n) (hj : j < n - 1) : rowOf (remCols cols r) j = rowOf cols (if j = r then n - 1 else j) := by
  refine row_ext (remCols_len _ _) (fun m m1 m2 => ?_)
  have hl := hc _ (List.getElem_mem m2)
  have hj2 : j < (rem cols[m] r).length := by rw [rem_len]; omega
  rw [remCols_at cols r m m2 m1, List.getD_eq_getElem?_getD, List.getElem?_eq_getElem hj2, Option.getD_some, rem_at _ _ _ (by omega) hj2]
  by_cases c : j = r
  · rw [if_pos c, if_pos c, List.getD_eq_getElem?_getD, List.getElem?_eq_getElem (by omega), Option.getD_some]
    congr 1
    omega
  · rw [if_neg c, if_neg c, List.getD_eq_getElem?_getD, List.getElem?_eq_getElem (by omega), Option.getD_some]
abbrev Co := Int × Int → Option (Nat × List Int)
/-- The tables hold what is told of each. -/
def Ct (C : Co) (T : Nat → Ts) : Prop := ∀ e s vals, C e = some (s, vals) → ∃ j, ∃ hj : j < (T s).1.length, (T s).1[j] = e ∧ rowOf (T s).2 j = vals
def fC (C : Co) : Int × Int → Option Nat := fun e => (C e).map (·.1)
section
variable {ks : List Kind} {C : Co} {q : Nat → Option Nat} {T : Nat → Ts}
theorem fC_some {e : Int × Int} {s : Nat} {vals : List Int} (h : C e = some (s, vals)) : fC C e = some s := by simp [fC, h]
theorem fC_is (e : Int × Int) : (fC C e).isSome = (C e).isSome := by simp [fC]
theorem fC_less (C : Co) (e : Int × Int) : fC (fun x => if x = e then none else C x) = fun x => if x = e then none else fC C x := by
  funext x
  by_cases c : x = e <;> simp [fC, c]
theorem fC_more (C : Co) (e : Int × Int) (p : Nat × List Int) : fC (fun x => if x = e then some p else C x) = fun x => if x = e then some p.1 else fC C x := by
  funext x
  by_cases c : x = e <;> simp [fC, c]
theorem Ct.drop (h : Ct C T) (hw : Wi ks (fC C) q T) {e : Int × Int} {s r : Nat} (hf : fC C e = some s) (hr : r < (T s).1.length) (hx : (T s).1[r] = e) : Ct (fun x => if x = e then none else C x) (lessT T s r) := by
  obtain ⟨_, ⟨g, hg⟩, _⟩ := hw.1 e s hf
  obtain ⟨_, k2, k3, k4, k5, k6⟩ := hw.2 s g hg
  intro x s' vals hx'
  dsimp only at hx'
  by_cases c : x = e
  · rw [if_pos c] at hx'; cases hx'
  · rw [if_neg c] at hx'
    obtain ⟨j, hj, e1, e2⟩ := h x s' vals hx'
    by_cases d : s' = s
    · subst d
      have hjr : j ≠ r := fun e' => c (by subst e'; exact e1.symm.trans hx)
      by_cases hl : j = (T s').1.length - 1
      · have hr2 : r < (rem (T s').1 r).length := by rw [rem_len]; omega
        refine ⟨r, by simp only [lessT, if_true]; exact hr2, ?_, ?_⟩
        · simp only [lessT, if_true]
          rw [rem_at _ _ _ hr hr2, if_pos rfl]
          subst hl
          exact e1
        · simp only [lessT, if_true]
          rw [row_rem k6 hr (by omega), if_pos rfl, ← hl]
          exact e2
      · have hj2 : j < (rem (T s').1 r).length := by rw [rem_len]; omega
        refine ⟨j, by simp only [lessT, if_true]; exact hj2, ?_, ?_⟩
        · simp only [lessT, if_true]
          rw [rem_at _ _ _ hr hj2, if_neg hjr]
          exact e1
        · simp only [lessT, if_true]
          rw [row_rem k6 hr (by omega), if_neg hjr]
          exact e2
    · refine ⟨j, by simp only [lessT, if_neg d]; exact hj, ?_, ?_⟩
      · simp only [lessT, if_neg d]
        exact e1
      · simp only [lessT, if_neg d]
        exact e2
theorem Ct.put (h : Ct C T) (hw : Wi ks (fC C) q T) {e : Int × Int} {s : Nat} {vals : List Int} (hv : vals.length = fsum ks s 1) : Ct (fun x => if x = e then some (s, vals) else C x) (moreT q T s e vals) := by
  have hb : (baseT q T s vals.length).2.length = vals.length ∧ ∀ c ∈ (baseT q T s vals.length).2, c.length = (baseT q T s vals.length).1.length := by
    unfold baseT
    cases hq : q s with
    | none => simp
    | some g0 =>
      obtain ⟨_, k2, _, _, _, k6⟩ := hw.2 s g0 hq
      simp only [Option.isSome_some, if_true]
      exact ⟨by rw [k2, hv], k6⟩
  intro x s' vals' hx'
  dsimp only at hx'
  by_cases c : x = e
  · rw [if_pos c] at hx'
    simp only [Option.some.injEq, Prod.mk.injEq] at hx'
    obtain ⟨rfl, rfl⟩ := hx'
    refine ⟨(baseT q T s vals.length).1.length, by simp [moreT], ?_, ?_⟩
    · simp [moreT, c]
    · simp only [moreT, if_true]
      exact row_add_new hb.2 hb.1.symm
  · rw [if_neg c] at hx'
    obtain ⟨j, hj, e1, e2⟩ := h x s' vals' hx'
    by_cases d : s' = s
    · subst d
      obtain ⟨_, ⟨g, hg⟩, _⟩ := hw.1 x s' (fC_some hx')
      have hbe : baseT q T s' vals.length = T s' := by unfold baseT; rw [hg]; simp
      obtain ⟨_, _, _, _, _, k6⟩ := hw.2 s' g hg
      refine ⟨j, by simp only [moreT, if_true, hbe, List.length_append]; omega, ?_, ?_⟩
      · simp only [moreT, if_true, hbe]
        rw [List.getElem_append_left hj]
        exact e1
      · simp only [moreT, if_true, hbe]
        rw [row_add_old k6 hj]
        exact e2
    · refine ⟨j, by simp only [moreT, if_neg d]; exact hj, ?_, ?_⟩
      · simp only [moreT, if_neg d]
        exact e1
      · simp only [moreT, if_neg d]
        exact e2
end
/-! ### A world, as it is told -/
def Lv (gs fr : List Nat) (C : Co) : Prop := ∀ a b, livesOf gs fr a b = (C (a, b)).isSome
/-- A world: its kinds, its pool as State tells it, and who lives with what. -/
def Wn (w : World) (own : Nat → Nat) (gw N : Nat) (ks : List Kind) (gs fr : List Nat) (C : Co) : Prop :=
  ∃ vk gp gm gt q T, Wx 0 w own gw vk gp gm gt N ks gs fr (fC C) q T ∧ Wi ks (fC C) q T ∧ Ct C T ∧ mayB ks ∧ Lv gs fr C ∧ ∀ e s vals, C e = some (s, vals) → Pak.Rw.AllFit vals
theorem lives_at {gs fr : List Nat} {a b : Int} (h : livesOf gs fr a b = true) : ∃ i : Nat, a = (i : Int) ∧ i < gs.length ∧ on gs fr i = true ∧ b = ((gs.getD i 0 : Nat) : Int) := by
  simp only [livesOf, isOn, Bool.and_eq_true, decide_eq_true_eq] at h
  exact ⟨a.toNat, by omega, h.1.1.2, h.1.2, h.2.symm⟩
theorem lives_cnt {gs fr : List Nat} {C : Co} (h : Lv gs fr C) (hg : gs.length ≤ 200) (E : List (Int × Int)) (hn : E.Nodup) (hE : ∀ e ∈ E, (fC C e).isSome = true) : E.length ≤ 200 := by
  have hm : (E.map (fun e => e.1.toNat)).Nodup := by
    refine List.pairwise_map.2 (List.Pairwise.imp_of_mem (fun {x y} hx hy hne e => ?_) hn)
    have h1 := hE x hx
    have h2 := hE y hy
    rw [fC_is, ← h] at h1 h2
    obtain ⟨i, i1, i2, i3, i4⟩ := lives_at h1
    obtain ⟨j, j1, j2, j3, j4⟩ := lives_at h2
    have : i = j := by rw [i1, j1] at e; simpa using e
    subst this
    exact hne (Prod.ext (i1.trans j1.symm) (i4.trans j4.symm))
  have := nodup_len 200 _ hm (fun n hn' => by
    obtain ⟨e, he, rfl⟩ := List.mem_map.1 hn'
    have h1 := hE e he
    rw [fC_is, ← h] at h1
    obtain ⟨i, i1, i2, -⟩ := lives_at h1
    rw [i1]
    simp
    omega)
  rwa [List.length_map] at this
section
variable {w w' : World} {own : Nat → Nat} {gw N N' : Nat} {ks : List Kind} {gs fr : List Nat} {C : Co}
theorem Wn.later (h : Wn w own gw N ks gs fr C) (hb : Below w.heap.size w w') : Wn w' (rel own w 0) gw N ks gs fr C := by
  obtain ⟨vk, gp, gm, gt, q, T, h1, h2⟩ := h
  exact ⟨vk, gp, gm, gt, q, T, h1.later hb, h2⟩
theorem Wn.up (h : Wn w own gw N ks gs fr C) (hN : N ≤ N') : Wn w own gw N' ks gs fr C := by
  obtain ⟨vk, gp, gm, gt, q, T, h1, h2⟩ := h
  exact ⟨vk, gp, gm, gt, q, T, h1.up hN, h2⟩
theorem Wn.ok (h : Wn w own gw N ks gs fr C) : Ok 200 gs fr := by
  obtain ⟨vk, gp, gm, gt, q, T, h1, h2⟩ := h
  exact h1.pl.2
theorem fit_cols {q : Nat → Option Nat} {T : Nat → Ts} (hw : Wi ks (fC C) q T) (hc : Ct C T) (hf : ∀ e s vals, C e = some (s, vals) → Pak.Rw.AllFit vals) : ∀ s g, q s = some g → ∀ c ∈ (T s).2, Pak.Rw.AllFit c := fun s g hg c hcm z hz => by
  obtain ⟨_, k2, k3, k4, k5, k6⟩ := hw.2 s g hg
  obtain ⟨m, hm, rfl⟩ := List.getElem_of_mem hcm
  obtain ⟨j, hj, rfl⟩ := List.getElem_of_mem hz
  have hjl : j < (T s).1.length := by rw [← k6 _ (List.getElem_mem hm)]; exact hj
  have hfe := k4 _ (List.getElem_mem hjl)
  obtain ⟨⟨s', vals⟩, hC, hs'⟩ := Option.map_eq_some_iff.1 hfe
  dsimp only at hs'
  subst hs'
  obtain ⟨j', hj', e1, e2⟩ := hc _ _ _ hC
  obtain rfl := nodup_at k3 hj' hjl e1
  refine hf _ _ _ hC _ ?_
  rw [← e2]
  simp only [rowOf, List.mem_map]
  exact ⟨_, List.getElem_mem hm, by rw [List.getD_eq_getElem?_getD, List.getElem?_eq_getElem hj]; rfl⟩
theorem inb_of {gs fr : List Nat} {a b : Int} (ho : Ok 200 gs fr) (h : livesOf gs fr a b = true) : InB (a, b) := by
  obtain ⟨i, i1, i2, i3, i4⟩ := lives_at h
  have := ho.gen i i2
  have := ho.2.2.1
  refine ⟨⟨?_, ?_⟩, ?_, ?_⟩ <;> dsimp only <;> omega
end
end Go.Proofs.YtafmiolehlagkaaGreat

/-
  World: its calls, told by who lives with what.
-/
namespace Go.Proofs.YtafmiolehlagkaaGreat
open Go.RowKit
set_option maxRecDepth 100000
/-! ### The pool's turns -/
def takeE (gs fr : List Nat) : Nat × Nat := match fr with
  | [] => (gs.length, 1)
  | i :: _ => (i, gs.getD i 0 + 1)
def takeG (gs fr : List Nat) : List Nat := match fr with
  | [] => gs ++ [1]
  | i :: _ => gs.set i (gs.getD i 0 + 1)
def takeF (fr : List Nat) : List Nat := fr.tail
theorem getD_push (gs : List Nat) (j : Nat) : (gs ++ [1]).getD j 0 = if j < gs.length then gs.getD j 0 else if j = gs.length then 1 else 0 := by
  simp only [List.getD_eq_getElem?_getD, List.getElem?_append]
  by_cases hj : j < gs.length
  · simp [hj]
  · by_cases hj2 : j = gs.length
    · subst hj2
      simp
    · have e : (([1] : List Nat)[j - gs.length]?) = none := by
        rw [List.getElem?_eq_none]
        simp
        omega
      rw [if_neg hj, if_neg hj, if_neg hj2, e]
      rfl
theorem lives_iff (gs fr : List Nat) (a b : Int) : livesOf gs fr a b = true ↔ ∃ i : Nat, a = (i : Int) ∧ i < gs.length ∧ gs.getD i 0 ≤ 1000000 ∧ i ∉ fr ∧ b = ((gs.getD i 0 : Nat) : Int) := by
  constructor
  · intro h
    obtain ⟨i, h1, h2, h3, h4⟩ := lives_at h
    simp only [on, Bool.and_eq_true, decide_eq_true_eq, Bool.not_eq_true', List.contains_eq_mem, decide_eq_false_iff_not] at h3
    exact ⟨i, h1, h2, h3.1, h3.2, h4⟩
  · rintro ⟨i, rfl, h2, h3, h4, rfl⟩
    simp only [livesOf, isOn, on, Int.toNat_natCast, Bool.and_eq_true, decide_eq_true_eq, Bool.not_eq_true', List.contains_eq_mem, decide_eq_false_iff_not]
    exact ⟨⟨⟨by omega, h2⟩, h3, h4⟩, trivial⟩
theorem lives_take {gs fr : List Nat} (ho : Ok 200 gs fr) (hroom : fr ≠ [] ∨ gs.length < 200) (a b : Int) : livesOf (takeG gs fr) (takeF fr) a b = true ↔ (a, b) = (((takeE gs fr).1 : Int), ((takeE gs fr).2 : Int)) ∨ livesOf gs fr a b = true := by
  rw [lives_iff, lives_iff]
  cases fr with
  | nil =>
    simp only [takeG, takeF, takeE, List.tail_nil, List.length_append, List.length_singleton, List.not_mem_nil, not_false_eq_true, true_and, Prod.mk.injEq]
    constructor
    · rintro ⟨i, rfl, h2, h3, rfl⟩
      rw [getD_push] at h3 ⊢
      by_cases c : i < gs.length
      · rw [if_pos c] at h3 ⊢
        exact .inr ⟨i, rfl, c, h3, rfl⟩
      · have : i = gs.length := by omega
        subst this
        rw [if_neg c, if_pos rfl]
        exact .inl ⟨rfl, rfl⟩
    · rintro (⟨rfl, rfl⟩ | ⟨i, rfl, h2, h3, rfl⟩)
      · refine ⟨gs.length, rfl, by omega, ?_, ?_⟩
        · rw [getD_push, if_neg (by omega), if_pos rfl]
          omega
        · rw [getD_push, if_neg (by omega), if_pos rfl]
      · refine ⟨i, rfl, by omega, ?_, ?_⟩
        · rw [getD_push, if_pos h2]
          exact h3
        · rw [getD_push, if_pos h2]
  | cons k t =>
    have hk := ho.2.2.2.2.2 k (by simp)
    have hnk : k ∉ t := (List.nodup_cons.1 ho.2.2.2.2.1).1
    simp only [takeG, takeF, takeE, List.tail_cons, List.length_set, List.mem_cons, not_or, Prod.mk.injEq]
    constructor
    · rintro ⟨i, rfl, h2, h3, h4, rfl⟩
      rw [getD_set hk.1] at h3 ⊢
      by_cases c : k = i
      · subst c
        rw [if_pos rfl]
        exact .inl ⟨rfl, rfl⟩
      · rw [if_neg c] at h3 ⊢
        exact .inr ⟨i, rfl, h2, h3, ⟨fun e => c e.symm, h4⟩, rfl⟩
    · rintro (⟨rfl, rfl⟩ | ⟨i, rfl, h2, h3, h4, rfl⟩)
      · refine ⟨k, rfl, hk.1, ?_, hnk, ?_⟩
        · rw [getD_set hk.1, if_pos rfl]
          omega
        · rw [getD_set hk.1, if_pos rfl]
      · have c : ¬ k = i := fun e => h4.1 e.symm
        refine ⟨i, rfl, h2, ?_, h4.2, ?_⟩
        · rw [getD_set hk.1, if_neg c]
          exact h3
        · rw [getD_set hk.1, if_neg c]
theorem take_not {gs fr : List Nat} (ho : Ok 200 gs fr) : livesOf gs fr ((takeE gs fr).1 : Int) ((takeE gs fr).2 : Int) = false := by
  rw [← Bool.not_eq_true, lives_iff]
  rintro ⟨i, h1, h2, h3, h4, h5⟩
  cases fr with
  | nil =>
    simp only [takeE] at h1
    omega
  | cons k t =>
    simp only [takeE] at h1
    have : i = k := by omega
    subst this
    simp at h4
theorem take_inb {gs fr : List Nat} (ho : Ok 200 gs fr) : InB (((takeE gs fr).1 : Int), ((takeE gs fr).2 : Int)) := by
  have hl := ho.2.2.1
  cases fr with
  | nil =>
    simp only [takeE]
    refine ⟨⟨?_, ?_⟩, ?_, ?_⟩ <;> dsimp only <;> omega
  | cons k t =>
    have hk := ho.2.2.2.2.2 k (by simp)
    simp only [takeE]
    refine ⟨⟨?_, ?_⟩, ?_, ?_⟩ <;> dsimp only <;> omega
theorem lives_give {gs fr : List Nat} {i : Nat} (hi : i < gs.length) (_hl : gs.getD i 0 ≤ 1000000) (_hfr : i ∉ fr) (a b : Int) : livesOf (giveG gs i) (giveF gs fr i) a b = true ↔ (a, b) ≠ ((i : Int), ((gs.getD i 0 : Nat) : Int)) ∧ livesOf gs fr a b = true := by
  rw [lives_iff, lives_iff]
  simp only [ne_eq, Prod.mk.injEq, not_and]
  by_cases c : gs.getD i 0 = 1000000
  · simp only [giveG, giveF, if_pos c, List.length_set]
    constructor
    · rintro ⟨j, rfl, h2, h3, h4, rfl⟩
      rw [getD_set hi] at h3 ⊢
      by_cases d : i = j
      · rw [if_pos d] at h3
        omega
      · rw [if_neg d] at h3 ⊢
        exact ⟨fun e => absurd e (by omega), j, rfl, h2, h3, h4, rfl⟩
    · rintro ⟨h0, j, rfl, h2, h3, h4, rfl⟩
      have d : ¬ i = j := fun e => h0 (by omega) (by rw [e])
      refine ⟨j, rfl, h2, ?_, h4, ?_⟩ <;> rw [getD_set hi, if_neg d]
      exact h3
  · simp only [giveG, giveF, if_neg c, List.mem_append, List.mem_singleton, not_or]
    constructor
    · rintro ⟨j, rfl, h2, h3, ⟨h4, h5⟩, rfl⟩
      exact ⟨fun e => absurd e (by omega), j, rfl, h2, h3, h4, rfl⟩
    · rintro ⟨h0, j, rfl, h2, h3, h4, rfl⟩
      exact ⟨j, rfl, h2, h3, ⟨h4, fun e => h0 (by omega) (by rw [e])⟩, rfl⟩
/-! ### The calls -/
section
variable {w w' : World} {own : Nat → Nat} {gw N N' : Nat} {ks : List Kind} {gs fr : List Nat} {C : Co}
theorem wn_new {v : Value} (h : Kr w v ks) (hm : mayB ks) : Calls Tryz.prog 22 #[v] w fun e w' => ∃ gw, e = .returned (.tuple #[.pointer (some ⟨gw, 0, none⟩), .int .i64 0]) ∧ (∃ own, (∀ k, k < w.heap.size → own k = 0) ∧ Wn w' own gw 0 ks [] [] (fun _ => none)) ∧ Below w.heap.size w w' := by
  refine (wnew_any h hm (fun _ => ([], []))).mono ?_
  rintro e w' ⟨gw, rfl, ⟨own, vk, gp, gm, gt, h1, h2⟩, h3⟩
  refine ⟨gw, rfl, ⟨own, h1, vk, gp, gm, gt, _, _, h2, Wi.start _ _, fun e s vals h => (by cases h), hm, fun a b => ?_, fun e s vals h => (by cases h)⟩, h3⟩
  simp [livesOf, isOn]
theorem Wn.spawn (h : Wn w own gw N ks gs fr C) (hN : N ≤ 900000) (hroom : fr ≠ [] ∨ gs.length < 200) (v : Value) (l : List Pt) (V : Pt → List Int) (hv : Rp w v l) (hcome : comeL ks 0 l = 0) (hv0 : ∀ k, v.ownBlock = some k → own k = 0 ∧ k < w.heap.size) (hV : ∀ p ∈ l, Iz w (ptV p) (V p) ∧ (p.2.1 = none → p.2.2 = (0, 0))) (hV0 : ∀ p ∈ l, ∀ k, (ptV p).ownBlock = some k → own k = 0 ∧ k < w.heap.size) (hfit : ∀ p ∈ l, Pak.Rw.AllFit (V p)) :
    Calls Tryz.prog 24 #[.pointer (some ⟨gw, 0, none⟩), v] w fun e w' => e = .returned (.tuple #[ev (takeE gs fr), .int .i64 0]) ∧ ∃ (vals : List Int) (own' : Nat → Nat), Wn w' own' gw (N + 3) ks (takeG gs fr) (takeF fr) (fun x => if x = (((takeE gs fr).1 : Int), ((takeE gs fr).2 : Int)) then some (setOf l, vals) else C x) ∧ Wk own own' w w' ∧ vals.length = fsum ks (setOf l) 1 ∧ ∀ r, r ∈ partsL ks (setOf l) 1 vals ↔ ∃ p ∈ l, r = (p.1.toNat, V p) := by
  have ho := h.ok
  obtain ⟨vk, gp, gm, gt, q, T, h1, h2, h3, h4, h5, h6⟩ := h
  obtain ⟨p1, p2, p3⟩ := come_twelve hcome h4.2.1
  have hpg := come_pg hcome
  obtain ⟨-, -, -, hsb, hs⟩ := hpg.facts h4.2.1
  have hVl : ∀ p ∈ l, (V p).length = p.2.2.1 := fun p hp => by
    obtain ⟨ao, c, e, -⟩ := (hV p hp).1
    simp only [ptV, Value.slice.injEq] at e
    exact e.2.1.symm
  have hl := nvals_flat l hVl
  have h48 := fsum_le ks (setOf l) 1 (fun x hx => (h4.2.2.1 x hx).1)
  have hnl := take_not ho
  have hfn : fC C (((takeE gs fr).1 : Int), ((takeE gs fr).2 : Int)) = none := by
    rw [h5] at hnl
    have := fC_is (C := C) (((takeE gs fr).1 : Int), ((takeE gs fr).2 : Int))
    rw [hnl] at this
    simpa using this
  have hqs : ∀ g, q (setOf l) = some g → (((takeE gs fr).1 : Int), ((takeE gs fr).2 : Int)) ∉ (T (setOf l)).1 ∧ (T (setOf l)).1.length < 200 ∧ (l.flatMap V).length = (T (setOf l)).2.length := fun g hg => by
    obtain ⟨k1, k2, k3, k4, k5, k6⟩ := h2.2 _ g hg
    have hni : (((takeE gs fr).1 : Int), ((takeE gs fr).2 : Int)) ∉ (T (setOf l)).1 := fun hm => by
      have := k4 _ hm
      rw [hfn] at this
      cases this
    refine ⟨hni, ?_, by rw [hl, k2, p3]⟩
    have hlv : Lv (takeG gs fr) (takeF fr) (fun x => if x = (((takeE gs fr).1 : Int), ((takeE gs fr).2 : Int)) then some (0, []) else C x) := fun a b => by
      rw [Bool.eq_iff_iff, lives_take ho hroom, h5]
      (try dsimp only)
      by_cases c : (a, b) = (((takeE gs fr).1 : Int), ((takeE gs fr).2 : Int))
      · rw [if_pos c]; simp [c]
      · rw [if_neg c]; simp [c]
    have hg2 : (takeG gs fr).length ≤ 200 := by
      cases fr with
      | nil =>
        simp only [takeG, List.length_append, List.length_singleton]
        rcases hroom with c | c
        · exact absurd rfl c
        · omega
      | cons k t =>
        simp only [takeG, List.length_set]
        exact ho.2.2.1
    have := lives_cnt hlv hg2 ((T (setOf l)).1 ++ [(((takeE gs fr).1 : Int), ((takeE gs fr).2 : Int))]) (by
      rw [List.nodup_append]
      refine ⟨k3, by simp, fun x hx y hy e => ?_⟩
      simp only [List.mem_singleton] at hy
      exact hni (by rw [← hy, ← e]; exact hx)) (fun x hx => by
      rw [fC_is]
      (try dsimp only)
      rcases List.mem_append.1 hx with hx | hx
      · by_cases c : x = (((takeE gs fr).1 : Int), ((takeE gs fr).2 : Int))
        · rw [if_pos c]; rfl
        · rw [if_neg c, ← fC_is, k4 x hx]; rfl
      · rw [if_pos (List.mem_singleton.1 hx)]; rfl)
    rw [List.length_append, List.length_singleton] at this
    omega
  have hT : ∀ (W : World) (S : Nat → Prop), Pl W S gp 200 gs fr → Calls Tryz.prog 75 #[.pointer (some ⟨gp, 0, none⟩)] W fun e w' => e = .returned (.tuple #[.agg #[.int .i64 ((takeE gs fr).1 : Int), .int .i64 ((takeE gs fr).2 : Int)], .int .i64 0]) ∧ Pl w' (Nw W S) gp 200 (takeG gs fr) (takeF fr) ∧ Mv W w' S := fun W S hp => by
    cases fr with
    | nil =>
      rcases hroom with c | c
      · exact absurd rfl c
      · exact take_new hp c
    | cons k t => exact take_free hp
  refine (spawn_of h1 v l hv h4.2.1 hcome V hv0 p1 hV hV0 (by have := h4.2.1; omega) hN _ _ (take_inb ho) hqs hT).mono ?_
  rintro e w' ⟨rfl, l', g, own', r1, r2, r3, r4⟩
  obtain ⟨t1, t2⟩ := put_told hpg h4.2.1 hVl r1 r2
  refine ⟨rfl, l'.flatMap V, own', ⟨vk, gp, gm, gt, fun x => if x = setOf l then some g else q x, moreT q T (setOf l) (((takeE gs fr).1 : Int), ((takeE gs fr).2 : Int)) (l'.flatMap V), ?_, ?_, h3.put h2 t1, h4, fun a b => ?_, fun e s vals he => ?_⟩, r4, t1, fun r => ?_⟩
  · rw [fC_more]
    exact r3
  · rw [fC_more]
    exact h2.put hfn hs hsb t1
  · rw [Bool.eq_iff_iff, lives_take ho hroom, h5]
    (try dsimp only)
    by_cases c : (a, b) = (((takeE gs fr).1 : Int), ((takeE gs fr).2 : Int))
    · rw [if_pos c]; simp [c]
    · rw [if_neg c]; simp [c]
  · dsimp only at he
    by_cases c : e = (((takeE gs fr).1 : Int), ((takeE gs fr).2 : Int))
    · rw [if_pos c] at he
      simp only [Option.some.injEq, Prod.mk.injEq] at he
      rw [← he.2]
      intro z hz
      obtain ⟨p, hp, hzp⟩ := List.mem_flatMap.1 hz
      exact hfit p (r1.mem_iff.1 hp) z hzp
    · rw [if_neg c] at he
      exact h6 e s vals he
  · rw [t2, List.mem_map]
    constructor
    · rintro ⟨p, hp, rfl⟩
      exact ⟨p, r1.mem_iff.1 hp, rfl⟩
    · rintro ⟨p, hp, rfl⟩
      exact ⟨p, r1.mem_iff.2 hp, rfl⟩
theorem Wn.spawn_full (h : Wn w own gw N ks gs fr C) (hfr : fr = []) (hgs : gs.length = 200) (v : Value) (l : List Pt) (hv : Rp w v l) (hcome : comeL ks 0 l = 0) : Calls Tryz.prog 24 #[.pointer (some ⟨gw, 0, none⟩), v] w fun e w' => e = .returned (.tuple #[ev (0, 0), .int .i64 40]) ∧ Below w.heap.size w w' := by
  obtain ⟨vk, gp, gm, gt, q, T, h1, h2, h3, h4, h5, h6⟩ := h
  exact Go.Proofs.YtafmiolehlagkaaGreat.spawn_full h1 v l hv h4.2.1 hcome hfr hgs
theorem Wn.at (h : Wn w own gw N ks gs fr C) {a b : Int} (hc : (C (a, b)).isSome = true) : ∃ i : Nat, a = (i : Int) ∧ b = ((gs.getD i 0 : Nat) : Int) ∧ i < gs.length ∧ gs.getD i 0 ≤ 1000000 ∧ i ∉ fr := by
  obtain ⟨vk, gp, gm, gt, q, T, h1, h2, h3, h4, h5, h6⟩ := h
  rw [← h5] at hc
  obtain ⟨i, i1, i2, i3, i4, i5⟩ := (lives_iff gs fr a b).1 hc
  exact ⟨i, i1, i5, i2, i3, i4⟩
theorem Wn.despawn (h : Wn w own gw N ks gs fr C) (hN : N ≤ 900000) {i : Nat} (hc : (C ((i : Int), ((gs.getD i 0 : Nat) : Int))).isSome = true) (hi : i < gs.length) (hl : gs.getD i 0 ≤ 1000000) (hfr : i ∉ fr) :
    Calls Tryz.prog 31 #[.pointer (some ⟨gw, 0, none⟩), ev (i, gs.getD i 0)] w fun e w' => e = .returned (.int .i64 0) ∧ ∃ own', Wn w' own' gw (N + 1) ks (giveG gs i) (giveF gs fr i) (fun x => if x = ((i : Int), ((gs.getD i 0 : Nat) : Int)) then none else C x) ∧ Wk own own' w w' := by
  have ho := h.ok
  obtain ⟨vk, gp, gm, gt, q, T, h1, h2, h3, h4, h5, h6⟩ := h
  obtain ⟨⟨s, vals⟩, hC⟩ := Option.isSome_iff_exists.1 hc
  have hf := fC_some hC
  obtain ⟨hs, ⟨g, hq⟩, -⟩ := h2.1 _ s hf
  obtain ⟨r, hr, hx, -⟩ := h3 _ s vals hC
  refine (despawn_live h1 i _ _ rfl rfl hi hl hfr s g r hf hq hs hr hx hN (by have := ho.2.2.1; omega)).mono ?_
  rintro e w' ⟨rfl, own', r1, r2⟩
  refine ⟨rfl, own', ⟨vk, gp, gm, gt, lessQ q T s, lessT T s r, ?_, ?_, h3.drop h2 hf hr hx, h4, fun a b => ?_, fun e s vals he => ?_⟩, r2⟩
  · rw [fC_less]
    exact r1
  · rw [fC_less]
    exact h2.drop hf hr hx
  · rw [Bool.eq_iff_iff, lives_give hi hl hfr, h5]
    (try dsimp only)
    by_cases c : (a, b) = ((i : Int), ((gs.getD i 0 : Nat) : Int))
    · rw [if_pos c]
      exact ⟨fun h => absurd c h.1, fun h => by cases h⟩
    · rw [if_neg c]
      exact ⟨fun h => h.2, fun h => ⟨c, h⟩⟩
  · dsimp only at he
    by_cases c : e = ((i : Int), ((gs.getD i 0 : Nat) : Int))
    · rw [if_pos c] at he; cases he
    · rw [if_neg c] at he
      exact h6 e s vals he
theorem Wn.despawn_stale (h : Wn w own gw N ks gs fr C) (a b : Int) (hc : (C (a, b)).isSome = false) : Calls Tryz.prog 31 #[.pointer (some ⟨gw, 0, none⟩), .agg #[.int .i64 a, .int .i64 b]] w fun e w' => e = .returned (.int .i64 41) ∧ Below w.heap.size w w' := by
  obtain ⟨vk, gp, gm, gt, q, T, h1, h2, h3, h4, h5, h6⟩ := h
  exact Go.Proofs.YtafmiolehlagkaaGreat.despawn_stale h1 a b ((h5 a b).trans hc)
theorem Wn.add (h : Wn w own gw N ks gs fr C) (hN : N ≤ 800000) (a b x : Int) (s : Nat) (old vals : List Int) (hc : C (a, b) = some (s, old)) (av : Option Addr) (nv cv : Nat) (hvs : Iz w (.slice av nv cv) vals) (hav : av = none → (nv, cv) = (0, 0)) (hv0 : ∀ k, (Value.slice av nv cv).ownBlock = some k → own k = 0 ∧ k < w.heap.size) (hz : comeS ks s x nv = 0) (hfit : Pak.Rw.AllFit vals) :
    Calls Tryz.prog 27 #[.pointer (some ⟨gw, 0, none⟩), .agg #[.int .i64 a, .int .i64 b], .agg #[.int .i64 x, .slice av nv cv]] w fun e w' => e = .returned (.int .i64 0) ∧ ∃ (vals' : List Int) (own' : Nat → Nat), Wn w' own' gw (N + 4) ks gs fr (fun y => if y = (a, b) then some (s ||| 2 ^ x.toNat, vals') else C y) ∧ Wk own own' w w' ∧ vals'.length = fsum ks (s ||| 2 ^ x.toNat) 1 ∧ ∀ r, r ∈ partsL ks (s ||| 2 ^ x.toNat) 1 vals' ↔ r ∈ partsL ks s 1 old ∨ r = (x.toNat, vals) := by
  have ho := h.ok
  obtain ⟨vk, gp, gm, gt, q, T, h1, h2, h3, h4, h5, h6⟩ := h
  have hf := fC_some hc
  obtain ⟨hs, ⟨g, hq⟩, -⟩ := h2.1 _ s hf
  obtain ⟨i, hi, hx, hrow⟩ := h3 _ s old hc
  have hl : livesOf gs fr a b = true := by rw [h5, hc]; rfl
  refine (wadd_any h1 h2 a b x (inb_of ho hl) h4.2.1 (fun x hx => (h4.2.2.1 x hx).1) s g i hf hq hi hx (fun E e1 e2 => lives_cnt h5 ho.2.2.1 E e1 e2) hN av nv cv vals hvs hav hv0 hl hz).mono ?_
  rintro e w' ⟨rfl, vals', g', own', r1, r2, r3, r4, r5⟩
  have hfe : (fun y => if y = (a, b) then some (s ||| 2 ^ x.toNat) else if y = (a, b) then none else fC C y) = fC (fun y => if y = (a, b) then some (s ||| 2 ^ x.toNat, vals') else C y) := by
    rw [fC_more]
    funext y
    by_cases c : y = (a, b) <;> simp [c]
  rw [hfe] at r1 r3
  rw [hrow] at r5
  refine ⟨rfl, vals', own', ⟨vk, gp, gm, gt, _, _, r1, r3, ?_, h4, fun c d => ?_, fun e s' vs he => ?_⟩, r2, r4, r5⟩
  · have hd := h3.drop h2 hf hi hx
    have hwd : Wi ks (fC (fun x => if x = (a, b) then none else C x)) (lessQ q T s) (lessT T s i) := by
      rw [fC_less]
      exact h2.drop hf hi hx
    have hp := hd.put hwd (e := (a, b)) (s := s ||| 2 ^ x.toNat) (vals := vals') r4
    intro e s' vs he
    refine hp e s' vs ?_
    dsimp only at he ⊢
    by_cases c : e = (a, b)
    · rw [if_pos c] at he ⊢
      exact he
    · rw [if_neg c] at he ⊢
      rw [if_neg c]
      exact he
  · rw [h5]
    (try dsimp only)
    by_cases e : (c, d) = (a, b)
    · rw [if_pos e, e, hc]
      rfl
    · rw [if_neg e]
  · dsimp only at he
    by_cases c : e = (a, b)
    · rw [if_pos c] at he
      simp only [Option.some.injEq, Prod.mk.injEq] at he
      obtain ⟨rfl, rfl⟩ := he
      have hflat := partsL_flat ks (s ||| 2 ^ x.toNat) 1 vals' r4
      intro z hz
      rw [← hflat] at hz
      obtain ⟨r, hr, hzr⟩ := List.mem_flatMap.1 hz
      rcases (r5 r).1 hr with hr | rfl
      · exact h6 _ _ _ hc z (partsL_sub ks s 1 old r hr z hzr)
      · exact hfit z hzr
    · rw [if_neg c] at he
      exact h6 e s' vs he
theorem Wn.add_err (h : Wn w own gw N ks gs fr C) (a b x : Int) (s : Nat) (old : List Int) (hc : C (a, b) = some (s, old)) (av : Option Addr) (nv cv : Nat) (z : Int) (hz : comeS ks s x nv = z) (hz0 : z ≠ 0) : Calls Tryz.prog 27 #[.pointer (some ⟨gw, 0, none⟩), .agg #[.int .i64 a, .int .i64 b], .agg #[.int .i64 x, .slice av nv cv]] w fun e w' => e = .returned (.int .i64 z) ∧ Below w.heap.size w w' := by
  have ho := h.ok
  obtain ⟨vk, gp, gm, gt, q, T, h1, h2, h3, h4, h5, h6⟩ := h
  have hf := fC_some hc
  have hl : livesOf gs fr a b = true := by rw [h5, hc]; rfl
  exact Go.Proofs.YtafmiolehlagkaaGreat.add_err h1 a b x (inb_of ho hl) h4.2.1 s (h2.1 _ s hf).1 hf av nv cv hl z hz hz0
/-- What is written of one. -/
def oneB (ks : List Kind) : Option (Nat × List Int) → List UInt8
  | none => []
  | some p => wrB p.1 (partsL ks p.1 1 p.2)
theorem Wn.snapshot (h : Wn w own gw N ks gs fr C) : Calls Tryz.prog 13 #[.pointer (some ⟨gw, 0, none⟩)] w fun e w' => ∃ v, e = .returned v ∧ (∃ E, Livers (fC C) E ∧ ∃ l, l = Pak.Rw.rowB (zi gs) ++ Pak.Rw.rowB (zi fr) ++ E.flatMap (fun e => oneB ks (C e)) ∧ w'.ownsRow w.heap.size 5 1 v l.length (Lib.byteCells l)) ∧ Below w.heap.size w w' := by
  have ho := h.ok
  obtain ⟨vk, gp, gm, gt, q, T, h1, h2, h3, h4, h5, h6⟩ := h
  refine (snapshot_any h1 h2 h4.2.1 (fit_cols h2 h3 h6) (fun E e1 e2 => lives_cnt h5 ho.2.2.1 E e1 e2)).mono ?_
  rintro e w' ⟨v, rfl, ⟨E, hE, hv⟩, hb⟩
  refine ⟨v, rfl, ⟨E, hE, _, rfl, ?_⟩, hb⟩
  have : E.flatMap (fun e => oneB ks (C e)) = E.flatMap (contB ks (fC C) T) := by
    refine congrArg (fun f => E.flatMap f) (funext fun e => ?_)
    cases hC : C e with
    | none => simp [contB, fC, hC, oneB]
    | some p =>
      obtain ⟨s, vals⟩ := p
      obtain ⟨j, hj, e1, e2⟩ := h3 e s vals hC
      rw [cont_of h2 (fC_some hC) ⟨hj, e1⟩, e2]
      rfl
  rw [this]
  exact hv
end
end Go.Proofs.YtafmiolehlagkaaGreat
