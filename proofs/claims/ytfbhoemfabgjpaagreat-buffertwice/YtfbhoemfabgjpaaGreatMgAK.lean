import Derived.Test.YtfbhoemfabgjpaaGreatMgAE
/-
  World: the usual kinds, of the law's own.
-/
namespace Go.Proofs.YtfbhoemfabgjpaaGreat
open Go.RowKit
set_option maxRecDepth 100000
def bs (l : List UInt8) : ByteArray := ⟨l.toArray⟩
def usualK : List Kind := [(bs [80, 111, 115], [bs [120], bs [121]]), (bs [86, 101, 108], [bs [120]]), (bs [68, 101, 97, 100], []), (bs [66, 111, 120], [bs [97], bs [98], bs [99], bs [100]])]
theorem four_allocs (w : World) (a b c d : Obj) : ((((w.alloc a).alloc b).alloc c).alloc d).heap[w.heap.size]? = some a ∧ ((((w.alloc a).alloc b).alloc c).alloc d).heap[w.heap.size + 1]? = some b ∧ ((((w.alloc a).alloc b).alloc c).alloc d).heap[w.heap.size + 1 + 1]? = some c ∧ ((((w.alloc a).alloc b).alloc c).alloc d).heap[w.heap.size + 1 + 1 + 1]? = some d := by
  have s1 : (w.alloc a).heap.size = w.heap.size + 1 := World.size_alloc ..
  have s2 : ((w.alloc a).alloc b).heap.size = w.heap.size + 1 + 1 := by rw [World.size_alloc, s1]
  have s3 : (((w.alloc a).alloc b).alloc c).heap.size = w.heap.size + 1 + 1 + 1 := by rw [World.size_alloc, s2]
  have e1 := heap_alloc_new w a
  have e2 := heap_alloc_new (w.alloc a) b
  have e3 := heap_alloc_new ((w.alloc a).alloc b) c
  have e4 := heap_alloc_new (((w.alloc a).alloc b).alloc c) d
  rw [s1] at e2
  rw [s2] at e3
  rw [s3] at e4
  have b2 := below_alloc (w.alloc a) b
  have b3 := below_alloc ((w.alloc a).alloc b) c
  have b4 := below_alloc (((w.alloc a).alloc b).alloc c) d
  exact ⟨((below_on (below_on b2 b3) b4).block _ (lt_of_block e1)).trans e1, ((below_on b3 b4).block _ (lt_of_block e2)).trans e2, (b4.block _ (lt_of_block e3)).trans e3, e4⟩
theorem sr_of {W : World} {g : Nat} {l : List ByteArray} {o : Array Value} (h : W.heap[g]? = some (.cells o 9 (0, 0))) (hl : l.length ≤ 100) (ho : ∀ j (hj : j < l.length), o[j]? = some (.string l[j])) : Sr W (.slice (some ⟨g, 0, none⟩) l.length l.length) l := by
  refine ⟨some ⟨g, 0, none⟩, l.length, rfl, Nat.le_refl _, by unfold maxLen; omega, fun j hj => ⟨g, 0, rfl, ?_⟩⟩
  rw [Nat.zero_add, cell_of_row W g _ _ 9 (0, 0) h]
  exact ho j hj
theorem usual_kr {W : World} {g1 g2 g3 g4 : Nat} (h1 : W.heap[g1]? = some (.cells #[.string (bs [120]), .string (bs [121])] 9 (0, 0))) (h2 : W.heap[g2]? = some (.cells #[.string (bs [120])] 9 (0, 0))) (h3 : W.heap[g3]? = some (.cells #[.string (bs [97]), .string (bs [98]), .string (bs [99]), .string (bs [100])] 9 (0, 0)))
    (h4 : W.heap[g4]? = some (.cells #[.string (bs [80, 111, 115]), .slice (some ⟨g1, 0, none⟩) 2 2, .string (bs [86, 101, 108]), .slice (some ⟨g2, 0, none⟩) 1 1, .string (bs [68, 101, 97, 100]), .slice none 0 0, .string (bs [66, 111, 120]), .slice (some ⟨g3, 0, none⟩) 4 4] 67 (0, 0))) : Kr W (.slice (some ⟨g4, 0, none⟩) 4 4) usualK := by
  have hc : ∀ j, W.cell? ⟨g4, j, none⟩ = _ := fun j => cell_of_row W g4 j _ 67 (0, 0) h4
  refine ⟨some ⟨g4, 0, none⟩, 4, rfl, Nat.le_refl _, by unfold maxLen; omega, fun i hi => ?_⟩
  have hi4 : i = 0 ∨ i = 1 ∨ i = 2 ∨ i = 3 := by have : usualK.length = 4 := rfl; omega
  rcases hi4 with rfl | rfl | rfl | rfl
  · exact ⟨g4, 0, _, rfl, hc 0, hc 1, sr_of (l := [bs [120], bs [121]]) h1 (by decide) (fun j hj => by
      have : j = 0 ∨ j = 1 := by simp at hj; omega
      rcases this with rfl | rfl <;> rfl)⟩
  · exact ⟨g4, 0, _, rfl, hc 2, hc 3, sr_of (l := [bs [120]]) h2 (by decide) (fun j hj => by
      have : j = 0 := by simp at hj; omega
      subst this; rfl)⟩
  · exact ⟨g4, 0, _, rfl, hc 4, hc 5, ⟨none, 0, rfl, Nat.le_refl _, Nat.zero_le _, fun j hj => absurd hj (by simp [usualK])⟩⟩
  · exact ⟨g4, 0, _, rfl, hc 6, hc 7, sr_of (l := [bs [97], bs [98], bs [99], bs [100]]) h3 (by decide) (fun j hj => by
      have : j = 0 ∨ j = 1 ∨ j = 2 ∨ j = 3 := by simp at hj; omega
      rcases this with rfl | rfl | rfl | rfl <;> rfl)⟩
end Go.Proofs.YtfbhoemfabgjpaaGreat

/-
  World: whether a text is among others.
-/
namespace Go.Proofs.YtfbhoemfabgjpaaGreat
open Go.RowKit
set_option maxRecDepth 100000
theorem text_inj {a b : ByteArray} (h : a.data.toList = b.data.toList) : a = b := by
  cases a
  cases b
  simp only [ByteArray.mk.injEq]
  exact Array.toList_inj.1 h
set_option maxHeartbeats 2000000 in
theorem index_any {w : World} {v : Value} {l : List ByteArray} (h : Sr w v l) (x : ByteArray) : Calls Tryz.prog 84 #[v, .string x] w fun e w' => (∃ i : Int, e = .returned (.int .i64 i) ∧ (0 ≤ i ↔ x ∈ l)) ∧ w' = w := by
  obtain ⟨ao, c, rfl, h1, h2, h3⟩ := h
  have hbig : c ≤ 9223372036854775807 := by unfold maxLen at h2; omega
  have H3 := hide h3
  clear h3 h2
  go_enter Tryz.func84, Tryz.ntmps84
  go_wp2_with fail
  go_loopw [8] (fun v8 W => ∃ i : Nat, i ≤ l.length ∧ v8 = .int .i64 (i : Int) ∧ Hid (x ∉ l.take i) ∧ Hid (W = w)) (fun v8 _ => l.length - (intOf v8).toNat)
  case atStart => exact ⟨0, Nat.zero_le _, rfl, by simp [Hid], rfl⟩
  case round =>
    obtain ⟨i, hil, rfl, HN, HW⟩ := hrel
    by_cases hlt : i < l.length
    · have t1 : (i : Int) < (l.length : Int) := by omega
      obtain ⟨g, o, rfl, e1⟩ := H3.out i hlt
      rw [← HW.out] at e1
      have hm1 : Hid (x ∉ l.take (i + 1) ↔ ¬ x = l[i]) := by
        unfold Hid
        rw [List.take_succ_eq_append_getElem hlt, List.mem_append, List.mem_singleton]
        have := HN.out
        constructor
        · intro h e; exact h (.inr e)
        · intro h e
          rcases e with e | e
          · exact this e
          · exact h e
      have hm2 : Hid (x = l[i] → x ∈ l) := fun e => e ▸ List.getElem_mem hlt
      generalize l[i] = y at *
      by_cases hxy : x = y
      · have HIN := hide (hm2.out hxy)
        subst hxy
        clear hm2 hm1
        go_wp2_with fail
        go_ret
        exact ⟨⟨_, rfl, ⟨fun _ => HIN.out, fun _ => by omega⟩⟩, HW.out⟩
      · have HNN := hide (hm1.out.2 hxy)
        have hb : (x.toList == y.toList) = false := by
          rw [beq_eq_false_iff_ne]
          intro e
          rw [ByteArray.toList_eq, ByteArray.toList_eq] at e
          exact hxy (text_inj e)
        clear hm1 hm2
        go_wp2_with fail
        refine ⟨⟨i + 1, by omega, by go_num, HNN, HW⟩, ?_⟩
        simp [intOf]
        omega
    · obtain rfl : i = l.length := by omega
      have t1 : ¬ (l.length : Int) < (l.length : Int) := by omega
      have hn := HN.out
      rw [List.take_length] at hn
      have HN2 := hide hn
      clear hn HN
      go_wp2_with fail
      go_ret
      exact ⟨⟨_, rfl, ⟨fun e => by omega, fun e => absurd e HN2.out⟩⟩, HW.out⟩
set_option maxHeartbeats 1000000 in
theorem contains_any {w : World} {v : Value} {l : List ByteArray} (h : Sr w v l) (x : ByteArray) [Decidable (x ∈ l)] : Calls Tryz.prog 60 #[v, .string x] w fun e w' => e = .returned (.bool (decide (x ∈ l))) ∧ w' = w := by
  have J := hide (index_any h x)
  obtain ⟨ao, c, rfl, -⟩ := h
  by_cases h0 : x ∈ l
  · rw [decide_eq_true h0]
    have J2 : Hid (Calls Tryz.prog 84 #[.slice ao l.length c, .string x] w fun e w' => (∃ i : Int, e = .returned (.int .i64 i) ∧ i ≥ 0) ∧ w' = w) := J.out.mono (fun _e _w' ⟨⟨i, e1, e2⟩, e3⟩ => ⟨⟨i, e1, e2.2 h0⟩, e3⟩)
    clear J h0
    go_enter Tryz.func60, Tryz.ntmps60
    go_wp2_with fail
    refine J2.out.mono ?_
    rintro e w' ⟨⟨i, rfl, t1⟩, rfl⟩
    go_wp2_with fail
    go_ret
    exact ⟨rfl, rfl⟩
  · rw [decide_eq_false h0]
    have J2 : Hid (Calls Tryz.prog 84 #[.slice ao l.length c, .string x] w fun e w' => (∃ i : Int, e = .returned (.int .i64 i) ∧ ¬ 0 ≤ i) ∧ w' = w) := J.out.mono (fun _e _w' ⟨⟨i, e1, e2⟩, e3⟩ => ⟨⟨i, e1, fun e => h0 (e2.1 e)⟩, e3⟩)
    clear J h0
    go_enter Tryz.func60, Tryz.ntmps60
    go_wp2_with fail
    refine J2.out.mono ?_
    rintro e w' ⟨⟨i, rfl, t1⟩, rfl⟩
    have t2 : decide (0 ≤ i) = false := decide_eq_false (by omega)
    go_wp2_with fail
    go_ret
    refine ⟨?_, rfl⟩
    simp
end Go.Proofs.YtfbhoemfabgjpaaGreat

/-
  World: letters, digits.
-/
namespace Go.Proofs.YtfbhoemfabgjpaaGreat
open Go.RowKit
set_option maxRecDepth 100000
def isL (c : Int) : Bool := decide (65 ≤ c ∧ c ≤ 90 ∨ 97 ≤ c ∧ c ≤ 122)
def isD (c : Int) : Bool := decide (48 ≤ c ∧ c ≤ 57)
set_option maxHeartbeats 2000000 in
theorem letter_any (c : Int) (w : World) : Calls Tryz.prog 82 #[.int .u8 c] w fun e w' => e = .returned (.bool (isL c)) ∧ w' = w := by
  by_cases h1 : c ≥ 65
  · by_cases h2 : c ≤ 90
    · have e : isL c = true := decide_eq_true (.inl ⟨h1, h2⟩)
      rw [e]
      go_enter Tryz.func82, Tryz.ntmps82
      go_wp2_with fail
      go_ret
      exact ⟨rfl, rfl⟩
    · by_cases h3 : c ≥ 97
      · by_cases h4 : c ≤ 122
        · have e : isL c = true := decide_eq_true (.inr ⟨h3, h4⟩)
          rw [e]
          go_enter Tryz.func82, Tryz.ntmps82
          go_wp2_with fail
          go_ret
          exact ⟨rfl, rfl⟩
        · have e : isL c = false := decide_eq_false (by omega)
          rw [e]
          go_enter Tryz.func82, Tryz.ntmps82
          go_wp2_with fail
          go_ret
          exact ⟨rfl, rfl⟩
      · have e : isL c = false := decide_eq_false (by omega)
        rw [e]
        go_enter Tryz.func82, Tryz.ntmps82
        go_wp2_with fail
        go_ret
        exact ⟨rfl, rfl⟩
  · have e : isL c = false := decide_eq_false (by omega)
    have h3 : ¬ c ≥ 97 := by omega
    rw [e]
    go_enter Tryz.func82, Tryz.ntmps82
    go_wp2_with fail
    go_ret
    exact ⟨rfl, rfl⟩
set_option maxHeartbeats 2000000 in
theorem digit_any (c : Int) (w : World) : Calls Tryz.prog 83 #[.int .u8 c] w fun e w' => e = .returned (.bool (isD c)) ∧ w' = w := by
  by_cases h1 : c ≥ 48
  · by_cases h2 : c ≤ 57
    · have e : isD c = true := decide_eq_true ⟨h1, h2⟩
      rw [e]
      go_enter Tryz.func83, Tryz.ntmps83
      go_wp2_with fail
      go_ret
      exact ⟨rfl, rfl⟩
    · have e : isD c = false := decide_eq_false (by omega)
      rw [e]
      go_enter Tryz.func83, Tryz.ntmps83
      go_wp2_with fail
      go_ret
      exact ⟨rfl, rfl⟩
  · have e : isD c = false := decide_eq_false (by omega)
    rw [e]
    go_enter Tryz.func83, Tryz.ntmps83
    go_wp2_with fail
    go_ret
    exact ⟨rfl, rfl⟩
end Go.Proofs.YtfbhoemfabgjpaaGreat

/-
  World: words.
-/
namespace Go.Proofs.YtfbhoemfabgjpaaGreat
open Go.RowKit
set_option maxRecDepth 100000
def okB (c : Int) : Bool := isL c || isD c || decide (c = 95)
def isW (x : ByteArray) : Prop := ∃ h : 0 < x.size, x.size ≤ 16 ∧ isL (x[0].toNat : Int) = true ∧ ∀ i (hi : i < x.size), okB (x[i].toNat : Int) = true
theorem text_empty {x : ByteArray} (h : 0 < x.size) : x.toList.isEmpty = false := by
  rw [ByteArray.toList_eq]
  cases hl : x.data.toList with
  | nil =>
    have : x.data.toList.length = x.size := Array.length_toList
    rw [hl] at this
    simp at this
    omega
  | cons _ _ => rfl
set_option maxHeartbeats 4000000 in
theorem word_any (x : ByteArray) (w : World) : Calls Tryz.prog 59 #[.string x] w fun e w' => (∃ b : Bool, e = .returned (.bool b) ∧ (b = true ↔ isW x)) ∧ w' = w := by
  by_cases h1 : 0 < x.size
  · have he := text_empty h1
    by_cases h16 : x.size ≤ 16
    · have t16 : ¬ (x.size : Int) > 16 := by omega
      have J0 := hide (letter_any (x[0].toNat : Int) w)
      cases hL : isL (x[0].toNat : Int) with
      | false =>
        rw [hL] at J0
        have HN : Hid (¬ isW x) := fun ⟨_, _, h, _⟩ => by rw [hL] at h; cases h
        clear hL
        go_enter Tryz.func59, Tryz.ntmps59
        go_wp2_with fail
        refine J0.out.mono ?_
        rintro e w' ⟨rfl, rfl⟩
        go_wp2_with fail
        go_ret
        exact ⟨⟨_, rfl, ⟨fun e => (by cases e), fun e => absurd e HN.out⟩⟩, rfl⟩
      | true =>
        rw [hL] at J0
        have HL := hide hL
        clear hL
        go_enter Tryz.func59, Tryz.ntmps59
        go_wp2_with fail
        refine J0.out.mono ?_
        rintro e w' ⟨rfl, rfl⟩
        obtain ⟨w, rfl⟩ : ∃ X, X = w' := ⟨_, rfl⟩
        go_wp2_with fail
        go_loopw [20] (fun v20 W => ∃ i : Nat, i ≤ x.size ∧ v20 = .int .i64 (i : Int) ∧ Hid (∀ j (hj : j < x.size), j < i → okB (x[j].toNat : Int) = true) ∧ Hid (W = w)) (fun v20 _ => x.size - (intOf v20).toNat)
        case atStart => exact ⟨0, Nat.zero_le _, rfl, fun j hj h => absurd h (by omega), rfl⟩
        case round =>
          obtain ⟨i, hil, rfl, HA, HW⟩ := hrel
          by_cases hlt : i < x.size
          · have t1 : (i : Int) < (x.size : Int) := by omega
            have J1 : Hid (∀ W, Calls Tryz.prog 82 #[.int .u8 (x[i].toNat : Int)] W fun e w' => e = .returned (.bool (isL (x[i].toNat : Int))) ∧ w' = W) := fun W => letter_any _ W
            have J2 : Hid (∀ W, Calls Tryz.prog 83 #[.int .u8 (x[i].toNat : Int)] W fun e w' => e = .returned (.bool (isD (x[i].toNat : Int))) ∧ w' = W) := fun W => digit_any _ W
            have HOK : Hid (okB (x[i].toNat : Int) = true → Hid (∀ j (hj : j < x.size), j < i + 1 → okB (x[j].toNat : Int) = true)) := fun h j hj hji => by
              by_cases e : j = i
              · subst e; exact h
              · exact HA.out j hj (by omega)
            have HNO : Hid (okB (x[i].toNat : Int) = false → ¬ isW x) := fun h ⟨_, _, _, h4⟩ => by
              have := h4 i hlt
              rw [h] at this
              cases this
            go_upto_region 7 with fail
            generalize (x[i].toNat : Int) = c at *
            cases hl : isL c with
            | true =>
              have HA2 := hide (HOK.out (by unfold okB; rw [hl]; rfl))
              clear HOK HNO
              simp only [hl] at J1
              clear J2 hl
              go_wp2_with fail
              refine (J1.out _).mono ?_
              rintro e w' ⟨rfl, rfl⟩
              go_wp2_with fail
              go_roundw
              case rel => exact ⟨i + 1, by omega, by go_num, HA2.out, HW⟩
              case measure => simp [intOf]; omega
            | false =>
              simp only [hl] at J1
              cases hd : isD c with
              | true =>
                have HA2 := hide (HOK.out (by unfold okB; rw [hl, hd]; rfl))
                clear HOK HNO
                simp only [hd] at J2
                clear hl hd
                go_wp2_with fail
                refine (J1.out _).mono ?_
                rintro e w' ⟨rfl, rfl⟩
                go_wp2_with fail
                refine (J2.out _).mono ?_
                rintro e w' ⟨rfl, rfl⟩
                go_wp2_with fail
                go_roundw
                case rel => exact ⟨i + 1, by omega, by go_num, HA2.out, HW⟩
                case measure => simp [intOf]; omega
              | false =>
                simp only [hd] at J2
                by_cases h95 : c = 95
                · have HA2 := hide (HOK.out (by unfold okB; rw [hl, hd, h95]; rfl))
                  subst h95
                  clear HOK HNO hl hd
                  go_wp2_with fail
                  refine (J1.out _).mono ?_
                  rintro e w' ⟨rfl, rfl⟩
                  go_wp2_with fail
                  refine (J2.out _).mono ?_
                  rintro e w' ⟨rfl, rfl⟩
                  go_wp2_with fail
                  go_roundw
                  case rel => exact ⟨i + 1, by omega, by go_num, HA2.out, HW⟩
                  case measure => simp [intOf]; omega
                · have HN := hide (HNO.out (by unfold okB; rw [hl, hd, decide_eq_false h95]; rfl))
                  have hb : (c != 95) = true := by rw [bne_iff_ne]; exact h95
                  have hb2 : (c == 95) = false := by rw [beq_eq_false_iff_ne]; exact h95
                  clear HOK HNO hl hd
                  go_wp2_with fail
                  refine (J1.out _).mono ?_
                  rintro e w' ⟨rfl, rfl⟩
                  go_wp2_with fail
                  refine (J2.out _).mono ?_
                  rintro e w' ⟨rfl, rfl⟩
                  go_wp2_with fail
                  go_ret
                  exact ⟨⟨_, rfl, ⟨fun e => (by cases e), fun e => absurd e HN.out⟩⟩, HW.out⟩
          · obtain rfl : i = x.size := by omega
            have t1 : ¬ (x.size : Int) < (x.size : Int) := by omega
            have HY : Hid (isW x) := ⟨h1, h16, HL.out, fun j hj => HA.out j hj hj⟩
            clear HA HL
            go_wp2_with fail
            go_ret
            first | exact ⟨.inr ⟨rfl, HY.out⟩, HW.out⟩ | exact ⟨⟨_, rfl, ⟨fun _ => HY.out, fun _ => rfl⟩⟩, HW.out⟩
    · have t16 : (x.size : Int) > 16 := by omega
      have HN : Hid (¬ isW x) := fun ⟨_, h, _⟩ => h16 h
      clear h16
      go_enter Tryz.func59, Tryz.ntmps59
      go_wp2_with fail
      go_ret
      exact ⟨⟨_, rfl, ⟨fun e => (by cases e), fun e => absurd e HN.out⟩⟩, rfl⟩
  · have he : x.toList.isEmpty = true := by
      rw [ByteArray.toList_eq]
      have : x.data.toList.length = x.size := Array.length_toList
      cases hl : x.data.toList with
      | nil => rfl
      | cons _ _ => rw [hl] at this; simp at this; omega
    have HN : Hid (¬ isW x) := fun ⟨h, _⟩ => h1 h
    clear h1
    go_enter Tryz.func59, Tryz.ntmps59
    go_wp2_with fail
    go_ret
    exact ⟨⟨_, rfl, ⟨fun e => (by cases e), fun e => absurd e HN.out⟩⟩, rfl⟩
end Go.Proofs.YtfbhoemfabgjpaaGreat
