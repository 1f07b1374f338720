import Derived.Test.YtmfoehaeejhlpaaGreatDoorGaAA
import Derived.Test.YtmfoehaeejhlpaaGreatDoorGaAF
import Derived.Test.YtmfoehaeejhlpaaGreatDoorGaAD
/-
  How much a sign binds; which words are built in.
-/
namespace Go.Proofs.YtmfoehaeejhlpaaGreatDoor
open Go.RowKit Yn
set_option maxRecDepth 100000
set_option maxHeartbeats 2000000 in
theorem binding_any (t : ByteArray) (W : World) : Calls Tryz.prog 115 #[.string t] W fun e W' => e = .returned (.int .i64 (binding t : Int)) ∧ W' = W := by
  by_cases h0 : t = bs [124, 124]
  · subst h0
    unfold bs
    go_enter Tryz.func115, Tryz.ntmps115
    go_wp2_with fail
    go_ret
    exact ⟨by kernel_rfl, rfl⟩
  have e0 : (t.toList == [124, 124]) = false := by
    have h := beq_list t ⟨#[124, 124]⟩
    rw [ByteArray.toList_eq ⟨#[124, 124]⟩] at h
    exact h.trans (decide_eq_false h0)
  by_cases h1 : t = bs [38, 38]
  · subst h1
    unfold bs
    clear e0 h0
    go_enter Tryz.func115, Tryz.ntmps115
    go_wp2_with fail
    go_ret
    exact ⟨by kernel_rfl, rfl⟩
  have e1 : (t.toList == [38, 38]) = false := by
    have h := beq_list t ⟨#[38, 38]⟩
    rw [ByteArray.toList_eq ⟨#[38, 38]⟩] at h
    exact h.trans (decide_eq_false h1)
  by_cases h2 : t = bs [61, 61]
  · subst h2
    unfold bs
    clear e0 h0
    clear e1 h1
    go_enter Tryz.func115, Tryz.ntmps115
    go_wp2_with fail
    go_ret
    exact ⟨by kernel_rfl, rfl⟩
  have e2 : (t.toList == [61, 61]) = false := by
    have h := beq_list t ⟨#[61, 61]⟩
    rw [ByteArray.toList_eq ⟨#[61, 61]⟩] at h
    exact h.trans (decide_eq_false h2)
  by_cases h3 : t = bs [33, 61]
  · subst h3
    unfold bs
    clear e0 h0
    clear e1 h1
    clear e2 h2
    go_enter Tryz.func115, Tryz.ntmps115
    go_wp2_with fail
    go_ret
    exact ⟨by kernel_rfl, rfl⟩
  have e3 : (t.toList == [33, 61]) = false := by
    have h := beq_list t ⟨#[33, 61]⟩
    rw [ByteArray.toList_eq ⟨#[33, 61]⟩] at h
    exact h.trans (decide_eq_false h3)
  by_cases h4 : t = bs [60]
  · subst h4
    unfold bs
    clear e0 h0
    clear e1 h1
    clear e2 h2
    clear e3 h3
    go_enter Tryz.func115, Tryz.ntmps115
    go_wp2_with fail
    go_ret
    exact ⟨by kernel_rfl, rfl⟩
  have e4 : (t.toList == [60]) = false := by
    have h := beq_list t ⟨#[60]⟩
    rw [ByteArray.toList_eq ⟨#[60]⟩] at h
    exact h.trans (decide_eq_false h4)
  by_cases h5 : t = bs [60, 61]
  · subst h5
    unfold bs
    clear e0 h0
    clear e1 h1
    clear e2 h2
    clear e3 h3
    clear e4 h4
    go_enter Tryz.func115, Tryz.ntmps115
    go_wp2_with fail
    go_ret
    exact ⟨by kernel_rfl, rfl⟩
  have e5 : (t.toList == [60, 61]) = false := by
    have h := beq_list t ⟨#[60, 61]⟩
    rw [ByteArray.toList_eq ⟨#[60, 61]⟩] at h
    exact h.trans (decide_eq_false h5)
  by_cases h6 : t = bs [62]
  · subst h6
    unfold bs
    clear e0 h0
    clear e1 h1
    clear e2 h2
    clear e3 h3
    clear e4 h4
    clear e5 h5
    go_enter Tryz.func115, Tryz.ntmps115
    go_wp2_with fail
    go_ret
    exact ⟨by kernel_rfl, rfl⟩
  have e6 : (t.toList == [62]) = false := by
    have h := beq_list t ⟨#[62]⟩
    rw [ByteArray.toList_eq ⟨#[62]⟩] at h
    exact h.trans (decide_eq_false h6)
  by_cases h7 : t = bs [62, 61]
  · subst h7
    unfold bs
    clear e0 h0
    clear e1 h1
    clear e2 h2
    clear e3 h3
    clear e4 h4
    clear e5 h5
    clear e6 h6
    go_enter Tryz.func115, Tryz.ntmps115
    go_wp2_with fail
    go_ret
    exact ⟨by kernel_rfl, rfl⟩
  have e7 : (t.toList == [62, 61]) = false := by
    have h := beq_list t ⟨#[62, 61]⟩
    rw [ByteArray.toList_eq ⟨#[62, 61]⟩] at h
    exact h.trans (decide_eq_false h7)
  by_cases h8 : t = bs [43]
  · subst h8
    unfold bs
    clear e0 h0
    clear e1 h1
    clear e2 h2
    clear e3 h3
    clear e4 h4
    clear e5 h5
    clear e6 h6
    clear e7 h7
    go_enter Tryz.func115, Tryz.ntmps115
    go_wp2_with fail
    go_ret
    exact ⟨by kernel_rfl, rfl⟩
  have e8 : (t.toList == [43]) = false := by
    have h := beq_list t ⟨#[43]⟩
    rw [ByteArray.toList_eq ⟨#[43]⟩] at h
    exact h.trans (decide_eq_false h8)
  by_cases h9 : t = bs [45]
  · subst h9
    unfold bs
    clear e0 h0
    clear e1 h1
    clear e2 h2
    clear e3 h3
    clear e4 h4
    clear e5 h5
    clear e6 h6
    clear e7 h7
    clear e8 h8
    go_enter Tryz.func115, Tryz.ntmps115
    go_wp2_with fail
    go_ret
    exact ⟨by kernel_rfl, rfl⟩
  have e9 : (t.toList == [45]) = false := by
    have h := beq_list t ⟨#[45]⟩
    rw [ByteArray.toList_eq ⟨#[45]⟩] at h
    exact h.trans (decide_eq_false h9)
  by_cases h10 : t = bs [42]
  · subst h10
    unfold bs
    clear e0 h0
    clear e1 h1
    clear e2 h2
    clear e3 h3
    clear e4 h4
    clear e5 h5
    clear e6 h6
    clear e7 h7
    clear e8 h8
    clear e9 h9
    go_enter Tryz.func115, Tryz.ntmps115
    go_wp2_with fail
    go_ret
    exact ⟨by kernel_rfl, rfl⟩
  have e10 : (t.toList == [42]) = false := by
    have h := beq_list t ⟨#[42]⟩
    rw [ByteArray.toList_eq ⟨#[42]⟩] at h
    exact h.trans (decide_eq_false h10)
  by_cases h11 : t = bs [47]
  · subst h11
    unfold bs
    clear e0 h0
    clear e1 h1
    clear e2 h2
    clear e3 h3
    clear e4 h4
    clear e5 h5
    clear e6 h6
    clear e7 h7
    clear e8 h8
    clear e9 h9
    clear e10 h10
    go_enter Tryz.func115, Tryz.ntmps115
    go_wp2_with fail
    go_ret
    exact ⟨by kernel_rfl, rfl⟩
  have e11 : (t.toList == [47]) = false := by
    have h := beq_list t ⟨#[47]⟩
    rw [ByteArray.toList_eq ⟨#[47]⟩] at h
    exact h.trans (decide_eq_false h11)
  by_cases h12 : t = bs [37]
  · subst h12
    unfold bs
    clear e0 h0
    clear e1 h1
    clear e2 h2
    clear e3 h3
    clear e4 h4
    clear e5 h5
    clear e6 h6
    clear e7 h7
    clear e8 h8
    clear e9 h9
    clear e10 h10
    clear e11 h11
    go_enter Tryz.func115, Tryz.ntmps115
    go_wp2_with fail
    go_ret
    exact ⟨by kernel_rfl, rfl⟩
  have e12 : (t.toList == [37]) = false := by
    have h := beq_list t ⟨#[37]⟩
    rw [ByteArray.toList_eq ⟨#[37]⟩] at h
    exact h.trans (decide_eq_false h12)
  have E : binding t = 0 := by
    unfold binding
    simp [h0, h1, h2, h3, h4, h5, h6, h7, h8, h9, h10, h11, h12]
  rw [E]
  clear E h0 h1 h2 h3 h4 h5 h6 h7 h8 h9 h10 h11 h12
  go_enter Tryz.func115, Tryz.ntmps115
  go_wp2_with fail
  go_ret
  exact ⟨rfl, rfl⟩
set_option maxHeartbeats 2000000 in
theorem builtIn_any (t : ByteArray) (W : World) : Calls Tryz.prog 116 #[.string t] W fun e W' => e = .returned (.bool (isBuiltIn t)) ∧ W' = W := by
  by_cases h0 : t = bs [114, 97, 110, 100]
  · subst h0
    unfold bs
    go_enter Tryz.func116, Tryz.ntmps116
    go_wp2_with fail
    go_ret
    exact ⟨by kernel_rfl, rfl⟩
  have e0 : (t.toList == [114, 97, 110, 100]) = false := by
    have h := beq_list t ⟨#[114, 97, 110, 100]⟩
    rw [ByteArray.toList_eq ⟨#[114, 97, 110, 100]⟩] at h
    exact h.trans (decide_eq_false h0)
  by_cases h1 : t = bs [105, 110, 112, 117, 116]
  · subst h1
    unfold bs
    clear e0 h0
    go_enter Tryz.func116, Tryz.ntmps116
    go_wp2_with fail
    go_ret
    exact ⟨by kernel_rfl, rfl⟩
  have e1 : (t.toList == [105, 110, 112, 117, 116]) = false := by
    have h := beq_list t ⟨#[105, 110, 112, 117, 116]⟩
    rw [ByteArray.toList_eq ⟨#[105, 110, 112, 117, 116]⟩] at h
    exact h.trans (decide_eq_false h1)
  by_cases h2 : t = bs [109, 105, 110]
  · subst h2
    unfold bs
    clear e0 h0
    clear e1 h1
    go_enter Tryz.func116, Tryz.ntmps116
    go_wp2_with fail
    go_ret
    exact ⟨by kernel_rfl, rfl⟩
  have e2 : (t.toList == [109, 105, 110]) = false := by
    have h := beq_list t ⟨#[109, 105, 110]⟩
    rw [ByteArray.toList_eq ⟨#[109, 105, 110]⟩] at h
    exact h.trans (decide_eq_false h2)
  by_cases h3 : t = bs [109, 97, 120]
  · subst h3
    unfold bs
    clear e0 h0
    clear e1 h1
    clear e2 h2
    go_enter Tryz.func116, Tryz.ntmps116
    go_wp2_with fail
    go_ret
    exact ⟨by kernel_rfl, rfl⟩
  have e3 : (t.toList == [109, 97, 120]) = false := by
    have h := beq_list t ⟨#[109, 97, 120]⟩
    rw [ByteArray.toList_eq ⟨#[109, 97, 120]⟩] at h
    exact h.trans (decide_eq_false h3)
  by_cases h4 : t = bs [97, 98, 115]
  · subst h4
    unfold bs
    clear e0 h0
    clear e1 h1
    clear e2 h2
    clear e3 h3
    go_enter Tryz.func116, Tryz.ntmps116
    go_wp2_with fail
    go_ret
    exact ⟨by kernel_rfl, rfl⟩
  have e4 : (t.toList == [97, 98, 115]) = false := by
    have h := beq_list t ⟨#[97, 98, 115]⟩
    rw [ByteArray.toList_eq ⟨#[97, 98, 115]⟩] at h
    exact h.trans (decide_eq_false h4)
  have E : isBuiltIn t = false := by
    unfold isBuiltIn
    simp [h0, h1, h2, h3, h4]
  rw [E]
  clear E h0 h1 h2 h3 h4
  go_enter Tryz.func116, Tryz.ntmps116
  go_wp2_with fail
  go_ret
  exact ⟨rfl, rfl⟩
end Go.Proofs.YtmfoehaeejhlpaaGreatDoor

/-
  The reader: binary.
-/
namespace Go.Proofs.YtmfoehaeejhlpaaGreatDoor
open Go.RowKit Yn
set_option maxRecDepth 100000
theorem binding_le (t : ByteArray) : binding t ≤ 6 := by
  unfold binding
  repeat' split
  all_goals omega
theorem binding_text {t : ByteArray} (h : binding t ≠ 0) : t ≠ bs [] := by
  rintro rfl
  exact h (by decide)
set_option maxHeartbeats 8000000 in
theorem binary_step {n : Nat} (hu : Cu n) (hb : ∀ m, m ≤ n → Cb m) : Cb (n + 1) := by
  intro W B k ws s0 least hl1 hl hR hne
  obtain ⟨i0, hi0, hz0, hz1, hz2⟩ := info_parts infoN
  have HB := hide hb
  have hkW := hR.lt
  have J1 := hide (fun h => hu W B k ws s0 hR h)
  have f1 := fld1
  obtain ⟨r, hr⟩ : ∃ r, r = binary ws (n + 1) least s0 := ⟨_, rfl⟩
  rw [← hr] at hne ⊢
  have HNE := hide hne
  rw [binary] at hr
  have HE0 := hide hr
  clear hu hb hR hne hr
  cases h1 : unary ws n s0 with
  | out => exact absurd (by rw [HE0.out, h1]; rfl) HNE.out
  | no a er =>
    have J := J1.out (by rw [h1]; intro h; cases h)
    rw [h1] at J
    have JH := hide J
    have ER : r = .no a er := by rw [HE0.out, h1]; rfl
    clear J J1 h1
    go_enter Tryz.func209, Tryz.ntmps209
    go_wp2_with fail
    refine JH.out.mono ?_
    rintro e w1 hp
    have hp2 := hp
    obtain ⟨q, rfl, -⟩ := hp
    subst ER
    exact ⟨rfl, hp2⟩
  | ok left0 s1 =>
    have J := J1.out (by rw [h1]; intro h; cases h)
    rw [h1] at J
    have JH := hide J
    have HE : Hid (r = binL ws n least left0 s1) := by
      unfold Hid
      rw [HE0.out, h1]
      rfl
    clear J J1 h1 HE0
    go_enter Tryz.func209, Tryz.ntmps209
    go_wp2_with fail
    refine JH.out.mono ?_
    rintro e w1 ⟨v1, rfl, ht1, hr1, hm1⟩
    obtain ⟨g1, rfl⟩ := Nd.ptr ht1
    have R1 := hide hr1
    have M1 := hide hm1
    have T1 : Hid (Nd (fun q => W.heap.size ≤ q) w1 left0 (.pointer (some ⟨g1, 0, none⟩))) := ht1
    clear hr1 hm1 ht1 JH
    go_wp2_with fail
    go_loopg [5] n (fun G v5 Wr => ∃ (m : Nat) (left : Tree) (s : S) (gl : Nat), G = m ∧ m ≤ n ∧ v5 = .pointer (some ⟨gl, 0, none⟩) ∧ Hid (r = binL ws m least left s) ∧ Hid (Nd (fun q => W.heap.size ≤ q) Wr left (.pointer (some ⟨gl, 0, none⟩))) ∧ Hid (Rd Wr B k ws s) ∧ Hid (Mv W Wr (fun j => j = k)))
    case atStart => exact ⟨n, left0, s1, g1, rfl, Nat.le_refl _, rfl, HE, T1, R1, M1⟩
    case round =>
      clear HE T1 R1 M1
      obtain ⟨m0, left, s, gl, hG, hmn, rfl, HEm, HT, HR, HM⟩ := hrel
      obtain ⟨m, rfl⟩ : ∃ m', m0 = m' + 1 := by
        cases m0 with
        | zero => exact absurd (by rw [HEm.out, binL]) HNE.out
        | succ m' => exact ⟨m', rfl⟩
      have he := HEm.out
      rw [binL] at he
      have HE1 := hide he
      have JN := hide (now_any HR.out)
      unfold tokV at JN
      have JB := hide (binding_any (hd s).t)
      have hbl := binding_le (hd s).t
      have hbt := @binding_text (hd s).t
      clear he HEm
      obtain ⟨bt, hbt0⟩ : ∃ b, b = binding (hd s).t := ⟨_, rfl⟩
      rw [← hbt0] at hbl hbt HE1 JB
      have HBT := hide hbt
      clear hbt hbt0
      go_wp2_with fail
      refine JN.out.mono ?_
      rintro e w2 ⟨rfl, hb2⟩
      have R2 := hide (HR.out.later hb2)
      have M2 := hide (HM.out.later hb2)
      have T2 := hide (Nd.tight _ _ (Nd.mv (Mv.of_below hb2 (fun _ => False)) (fun _ _ e => e) _ _ HT.out))
      clear hb2 JN HR HM HT
      go_wp2_with fail
      refine (JB.out w2).mono ?_
      rintro e w2' ⟨rfl, rfl⟩
      by_cases hlt : bt < least
      · have t1 : (bt : Int) < (least : Int) := by omega
        have ER : r = .ok left s := by rw [HE1.out, if_pos hlt]
        have T3 : Hid (Nd (fun q => W.heap.size ≤ q) w2' left (.pointer (some ⟨gl, 0, none⟩))) := Nd.mono (fun q hq => hq.1) _ _ T2.out
        clear HE1 hlt
        go_wp2_with fail
        go_ret
        subst ER
        exact ⟨_, rfl, T3.out, R2.out, M2.out⟩
      · have t1 : ¬ (bt : Int) < (least : Int) := by omega
        have HE2 : Hid (r = (binary ws m (bt + 1) (nx s)).bind fun right s1 => binL ws m least (.mk 33 (hd s).t 0 [left, right] (hd s).a) s1) := by
          unfold Hid
          rw [HE1.out, if_neg hlt]
        have hne2 : (hd s).k ≠ 0 ∨ (hd s).t ≠ bs [] := by
          by_cases hb0 : bt = 0
          · exact absurd hlt (by omega)
          · exact .inr (HBT.out hb0)
        clear HE1 hlt
        go_wp2_with fail
        refine (node_any R2.out 33).mono ?_
        rintro e w3 ⟨g, rfl, hg, hg3, hb3⟩
        have R3 := hide (R2.out.later hb3)
        have M3 := hide (M2.out.later hb3)
        have T3 := hide (Nd.mv (Mv.of_below hb3 (fun _ => False)) (fun _ _ e => e) _ _ T2.out)
        have G3 := hide hg3
        have hz2' := M2.out.size
        have hgk : g ≠ k := by omega
        clear hb3 hg3 T2 R2 M2
        have JX := hide (next_any R3.out hne2)
        unfold tokV at JX
        go_wp2_with fail
        refine JX.out.mono ?_
        rintro e w4 ⟨rfl, hr4, hm4⟩
        have hg4 := hm4.at G3.out hgk
        have c1 : w4.cell? ⟨g, 1, none⟩ = some (.string (bs [])) := by rw [cell_of_row w4 g _ _ 51 (0, 0) hg4]; rfl
        have f1' : w4.frozen? ⟨g, 1, none⟩ = false := frozen_of_row w4 g 1 _ 51 hg4
        have hm5 : Mv w4 (w4.setCell ⟨g, 1, none⟩ (.string (hd s).t)) (fun j => j = g) := (Mv.refl w4 (fun j => j = g)).set (g := g) rfl _ _
        have hg5 := heap_setCell_same w4 g 1 _ 51 (.string (hd s).t) hg4
        have R5 := hide (hr4.mv hm5 (fun j e => by
          have := hr4.1
          have : j = g := e
          omega))
        have M5 : Hid (Mv W (w4.setCell ⟨g, 1, none⟩ (.string (hd s).t)) (fun j => j = k)) := (M3.out.trans hm4 (fun _ _ e => e)).trans hm5 (fun j hj e => by have : j = g := e; omega)
        have T5 := hide (Nd.mv hm5 (fun q hq (e : q = g) => by have := hq.2; omega) _ _ (Nd.mv hm4 (fun q hq (e : q = k) => by have : W.heap.size ≤ q := hq.1; omega) _ _ T3.out))
        obtain ⟨w5, hw5⟩ : ∃ X, X = w4.setCell ⟨g, 1, none⟩ (.string (hd s).t) := ⟨_, rfl⟩
        rw [← hw5] at R5 M5 hg5 T5
        have G5 : Hid (w5.heap[g]? = some (.cells #[.int .i64 33, .string (hd s).t, .int .i64 0, .slice none 0 0, .int .i64 ((hd s).a : Int)] 51 (0, 0))) := hg5
        have C7 : w5.drew.cell? ⟨g, 3, none⟩ = some (.slice none 0 0) := by rw [cell_of_row w5.drew g _ _ 51 (0, 0) G5.out]; rfl
        have HW5 := hide hw5
        have hgl5 : g < w5.heap.size := lt_of_block G5.out
        have hz5 := M5.out.size
        have tb : IntKind.i64.wrap ((bt : Int) + 1) = ((bt + 1 : Nat) : Int) := by rw [IntKind.wrap_i64]; omega
        clear hm5 hg5 hg4 hr4 hm4 JX G3 R3 M3 T3 hw5
        cases hq : binary ws m (bt + 1) (nx s) with
        | out => exact absurd (show r = .out by rw [HE2.out, hq]; rfl) HNE.out
        | no a er =>
          have ER : r = .no a er := by rw [HE2.out, hq]; rfl
          have HQ := hide hq
          clear hq
          go_upto_region 7 with fail
          rw [← HW5.out]
          clear c1 f1'
          refine wp_region_late (J := fun i => i != 14) (S := fun Wq => Wq.cell? ⟨g, 3, none⟩ = some (.slice none 0 0)) (by kernel_rfl) C7 (fun hHeld => ?_)
          refine' wpAnyJ_takeW (i := 0) (v := _) rfl (by kernel_rfl) (by kernel_rfl) (by kernel_rfl) (fun _ _ _ h => h) (Or.inl ⟨by rfl, ?hyDn1⟩) ?reDn1
          case hyDn1 => (intro W hSw; (try dsimp only at hSw); go_simp; try with_reducible rfl)
          try simp only [Act.put, List.setIfInBounds_toArray]
          refine' wpAnyJ_takeW (i := 1) (v := _) rfl (by kernel_rfl) (by kernel_rfl) (by kernel_rfl) (fun _ _ _ h => h) (Or.inl ⟨by rfl, ?hyDn2⟩) ?reDn2
          case hyDn2 => (intro W hSw; (try dsimp only at hSw); go_simp; try with_reducible rfl)
          try simp only [Act.put]
          refine' wpAnyJ_takeW (i := 2) (v := _) rfl (by kernel_rfl) (by kernel_rfl) (by kernel_rfl) (fun _ _ _ h => h) (Or.inl ⟨by rfl, ?hyDn3⟩) ?reDn3
          case hyDn3 => (intro W hSw; (try dsimp only at hSw); go_simp; try with_reducible rfl)
          try simp only [Act.put]
          refine' wpAnyJ_takeW (i := 3) (v := _) rfl (by kernel_rfl) (by kernel_rfl) (by kernel_rfl) (fun _ _ _ h => h) (Or.inl ⟨by rfl, ?hyDn4⟩) ?reDn4
          case hyDn4 => (intro W hSw; (try dsimp only at hSw); go_simp; try with_reducible rfl)
          try simp only [Act.put]
          refine' wpAnyJ_take (i := 4) (v := _) rfl (by kernel_rfl) (by kernel_rfl) (by kernel_rfl) (by kernel_rfl) (fun _ _ _ h => h) (Or.inl ⟨by rfl, ?hyDn5⟩) (by assumption) ?reDn5
          case hyDn5 => (intro W hSw; (try dsimp only at hSw); go_simp; try with_reducible rfl)
          try simp only [Act.put]
          refine' wpAnyJ_takeW (i := 5) (v := _) rfl (by kernel_rfl) (by kernel_rfl) (by kernel_rfl) (fun _ _ _ h => h) (Or.inl ⟨by rfl, ?hyDn6⟩) ?reDn6
          case hyDn6 => (intro W hSw; (try dsimp only at hSw); go_simp; try with_reducible rfl)
          try simp only [Act.put]
          refine' wpAnyJ_takeW (i := 6) (v := _) rfl (by kernel_rfl) (by kernel_rfl) (by kernel_rfl) (fun _ _ _ h => h) (Or.inl ⟨by rfl, ?hyDn7⟩) ?reDn7
          case hyDn7 => (intro W hSw; (try dsimp only at hSw); go_simp; try with_reducible rfl)
          try simp only [Act.put]
          refine' wpAnyJ_takeW (i := 7) (v := _) rfl (by kernel_rfl) (by kernel_rfl) (by kernel_rfl) (fun _ _ _ h => h) (Or.inl ⟨by rfl, ?hyDn8⟩) ?reDn8
          case hyDn8 => (intro W hSw; (try dsimp only at hSw); go_simp; try with_reducible rfl)
          try simp only [Act.put]
          refine' wpAnyJ_takeW (i := 8) (v := _) rfl (by kernel_rfl) (by kernel_rfl) (by kernel_rfl) (fun _ _ _ h => h) (Or.inl ⟨by rfl, ?hyDn9⟩) ?reDn9
          case hyDn9 => (intro W hSw; (try dsimp only at hSw); go_simp; try with_reducible rfl)
          try simp only [Act.put]
          refine wpAnyJ_ready (rs := [9]) (by kernel_rfl) (by simp) ?_
          refine AllReadyJ.cons (o := { dst := some 35, op := Op.call { callee := Callee.value (Operand.func 209), args := #[Operand.tmp 32, Operand.tmp 34], argTypes := #[56, 3] }, type := 23, pos := "expression.go:33", after := #[{ on := 6, ground := Ground.data }, { on := 8, ground := Ground.data }], guard := none }) rfl (fun K hK => ?_) AllReadyJ.nil
          go_simp
          go_at_call 209
          have J := HB.out m (by omega) w5.drew B k ws (nx s) (bt + 1) (by omega) (by omega) (R5.out.later (below_drew w5)) (by rw [HQ.out]; intro h; cases h)
          rw [HQ.out] at J
          rw [show ((bt + 1 : Nat) : Int) = (bt : Int) + 1 by omega] at J
          refine J.mono ?_
          rintro e w7 hp
          have hp2 := Pn.from hp (M5.out.later (below_drew w5))
          obtain ⟨q, rfl, -⟩ := hp
          subst ER
          exact ⟨rfl, hp2⟩
        | ok right s2 =>
          have HE3 : Hid (r = binL ws m least (.mk 33 (hd s).t 0 [left, right] (hd s).a) s2) := by
            unfold Hid
            rw [HE2.out, hq]
            rfl
          have HQ := hide hq
          clear hq HE2
          go_upto_region 7 with fail
          rw [← HW5.out]
          clear c1 f1'
          refine wp_region_late (J := fun i => i != 14) (S := fun Wq => Wq.cell? ⟨g, 3, none⟩ = some (.slice none 0 0)) (by kernel_rfl) C7 (fun hHeld => ?_)
          refine' wpAnyJ_takeW (i := 0) (v := _) rfl (by kernel_rfl) (by kernel_rfl) (by kernel_rfl) (fun _ _ _ h => h) (Or.inl ⟨by rfl, ?hyD1⟩) ?reD1
          case hyD1 => (intro W hSw; (try dsimp only at hSw); go_simp; try with_reducible rfl)
          try simp only [Act.put, List.setIfInBounds_toArray]
          refine' wpAnyJ_takeW (i := 1) (v := _) rfl (by kernel_rfl) (by kernel_rfl) (by kernel_rfl) (fun _ _ _ h => h) (Or.inl ⟨by rfl, ?hyD2⟩) ?reD2
          case hyD2 => (intro W hSw; (try dsimp only at hSw); go_simp; try with_reducible rfl)
          try simp only [Act.put]
          refine' wpAnyJ_takeW (i := 2) (v := _) rfl (by kernel_rfl) (by kernel_rfl) (by kernel_rfl) (fun _ _ _ h => h) (Or.inl ⟨by rfl, ?hyD3⟩) ?reD3
          case hyD3 => (intro W hSw; (try dsimp only at hSw); go_simp; try with_reducible rfl)
          try simp only [Act.put]
          refine' wpAnyJ_takeW (i := 3) (v := _) rfl (by kernel_rfl) (by kernel_rfl) (by kernel_rfl) (fun _ _ _ h => h) (Or.inl ⟨by rfl, ?hyD4⟩) ?reD4
          case hyD4 => (intro W hSw; (try dsimp only at hSw); go_simp; try with_reducible rfl)
          try simp only [Act.put]
          refine' wpAnyJ_take (i := 4) (v := _) rfl (by kernel_rfl) (by kernel_rfl) (by kernel_rfl) (by kernel_rfl) (fun _ _ _ h => h) (Or.inl ⟨by rfl, ?hyD5⟩) (by assumption) ?reD5
          case hyD5 => (intro W hSw; (try dsimp only at hSw); go_simp; try with_reducible rfl)
          try simp only [Act.put]
          refine' wpAnyJ_takeW (i := 5) (v := _) rfl (by kernel_rfl) (by kernel_rfl) (by kernel_rfl) (fun _ _ _ h => h) (Or.inl ⟨by rfl, ?hyD6⟩) ?reD6
          case hyD6 => (intro W hSw; (try dsimp only at hSw); go_simp; try with_reducible rfl)
          try simp only [Act.put]
          refine' wpAnyJ_takeW (i := 6) (v := _) rfl (by kernel_rfl) (by kernel_rfl) (by kernel_rfl) (fun _ _ _ h => h) (Or.inl ⟨by rfl, ?hyD7⟩) ?reD7
          case hyD7 => (intro W hSw; (try dsimp only at hSw); go_simp; try with_reducible rfl)
          try simp only [Act.put]
          refine' wpAnyJ_takeW (i := 7) (v := _) rfl (by kernel_rfl) (by kernel_rfl) (by kernel_rfl) (fun _ _ _ h => h) (Or.inl ⟨by rfl, ?hyD8⟩) ?reD8
          case hyD8 => (intro W hSw; (try dsimp only at hSw); go_simp; try with_reducible rfl)
          try simp only [Act.put]
          refine' wpAnyJ_takeW (i := 8) (v := _) rfl (by kernel_rfl) (by kernel_rfl) (by kernel_rfl) (fun _ _ _ h => h) (Or.inl ⟨by rfl, ?hyD9⟩) ?reD9
          case hyD9 => (intro W hSw; (try dsimp only at hSw); go_simp; try with_reducible rfl)
          try simp only [Act.put]
          refine wpAnyJ_ready (rs := [9]) (by kernel_rfl) (by simp) ?_
          refine AllReadyJ.cons (o := { dst := some 35, op := Op.call { callee := Callee.value (Operand.func 209), args := #[Operand.tmp 32, Operand.tmp 34], argTypes := #[56, 3] }, type := 23, pos := "expression.go:33", after := #[{ on := 6, ground := Ground.data }, { on := 8, ground := Ground.data }], guard := none }) rfl (fun K hK => ?_) AllReadyJ.nil
          go_simp
          go_at_call 209
          have J := HB.out m (by omega) w5.drew B k ws (nx s) (bt + 1) (by omega) (by omega) (R5.out.later (below_drew w5)) (by rw [HQ.out]; intro h; cases h)
          rw [HQ.out] at J
          rw [show ((bt + 1 : Nat) : Int) = (bt : Int) + 1 by omega] at J
          refine J.mono ?_
          rintro e w7 ⟨v7, rfl, ht7, hr7, hm7⟩
          obtain ⟨g3, rfl⟩ := Nd.ptr ht7
          have G7 := hide (hm7.at (show w5.drew.heap[g]? = _ from G5.out) hgk)
          have V7 := hide (Nd.tight _ _ ht7)
          have T7 := hide (Nd.mv hm7 (fun q hq (e : q = k) => by have : W.heap.size ≤ q := hq.1; omega) _ _ (Nd.mv (Mv.of_below (below_drew w5) (fun _ => False)) (fun _ _ e => e) _ _ T5.out))
          have R7 := hide hr7
          have M7 := hide ((M5.out.later (below_drew w5)).trans hm7 (fun _ _ e => e))
          have hz7 : w5.heap.size ≤ w7.heap.size := hm7.size
          have C8 : w7.cell? ⟨g, 3, none⟩ = some (.slice none 0 0) := by rw [cell_of_row w7 g _ _ 51 (0, 0) G7.out]; rfl
          obtain ⟨w8, hw8⟩ : ∃ X, X = w7.alloc (.cells #[.pointer (some ⟨gl, 0, none⟩), .pointer (some ⟨g3, 0, none⟩)] 23) := ⟨_, rfl⟩
          have b8 : Below w7.heap.size w7 w8 := hw8 ▸ below_alloc w7 _
          have G8 := hide ((b8.block g (lt_of_block G7.out)).trans G7.out)
          have C9 : w8.cell? ⟨g, 3, none⟩ = some (.slice none 0 0) := by rw [cell_of_row w8 g _ _ 51 (0, 0) G8.out]; rfl
          rw [hw8] at C9
          have HB8 := hide b8
          have HW8 := hide hw8
          clear hr7 hm7 ht7 J hw8 b8 hHeld
          go_simp
          refine hK.out _ _ (fun _ _ => C8) ?_
          clear hK K
          try simp only [Act.put, List.setIfInBounds_toArray, List.set_cons_zero, List.set_cons_succ]
          refine wpAnyJ_ready (rs := [10]) (by kernel_rfl) (by simp) ?_
          refine AllReadyJ.cons (o := { dst := some 36, op := Op.buildSlice 49 2 #[(0, Operand.tmp 31), (1, Operand.tmp 35)], type := 49, pos := "expression.go:33", after := #[{ on := 5, ground := Ground.data }, { on := 9, ground := Ground.data }], guard := none }) rfl (fun K hK => ?_) AllReadyJ.nil
          go_simp
          refine hK.out _ _ (fun _ _ => C9) ?_
          clear hK K
          try simp only [Act.put, List.setIfInBounds_toArray, List.set_cons_zero, List.set_cons_succ]
          refine wpAnyJ_ready (rs := [11]) (by kernel_rfl) (by simp) ?_
          refine AllReadyJ.cons (o := { dst := some 37, op := Op.call { callee := Callee.builtin Builtin.append, args := #[Operand.tmp 30, Operand.tmp 36], argTypes := #[49, 49] }, type := 49, pos := "expression.go:33", after := #[{ on := 4, ground := Ground.data }, { on := 10, ground := Ground.data }, { on := 9, ground := Ground.chain }], guard := none }) rfl (fun K hK => ?_) AllReadyJ.nil
          refine step_append_lies _ rfl (.tmp 30) (.tmp 36) 49 rfl 0 23 i0 (.pointer none) 1 8 und49 hi0 hz0 hz1 hz2 rfl (by decide) (.slice none 0 0) 0 ([]) (by simp [Act.eval]) (World.ownsRow_nil _ _ _ _) ⟨w7.heap.size, 0, none⟩ 2 2 [.pointer (some ⟨gl, 0, none⟩), .pointer (some ⟨g3, 0, none⟩)] (by simp [Act.eval]) rfl (by intro j u hj; match j, hj with | 0, hj => simp at hj; subst hj; simp [Addr.add] | 1, hj => simp at hj; subst hj; simp [Addr.add]) (by intro u hu; simp at hu; rcases hu with rfl | rfl <;> rfl) (by omega) (by unfold maxLen; omega) (by omega) (Nat.zero_le _) _ rfl ?_
          intro g9 c9 w9 ho9 hg9 ha9 _
          rw [← HW8.out] at hg9
          have b9 : Below w8.heap.size w8 w9 := (Below.refl _ w8).grown hg9 (Nat.le_refl _) (fun q e => by simp [Value.ownBlock] at e)
          have G9 := hide ((b9.block g (lt_of_block G8.out)).trans G8.out)
          have Ca : w9.cell? ⟨g, 3, none⟩ = some (.slice none 0 0) := by rw [cell_of_row w9 g _ _ 51 (0, 0) G9.out]; rfl
          have F9 : w9.frozen? ⟨g, 3, none⟩ = false := frozen_of_row w9 g 3 _ 51 G9.out
          have hz8 := HB8.out.size
          have hg9' : g9 = w8.heap.size := by
            rcases ha9 with e | e
            · simp [Value.ownBlock] at e
            · rw [e, ← HW8.out]
          have O9' : w9.ownsRow 0 23 1 (.slice (some ⟨g9, 0, none⟩) 2 c9) 2 [.pointer (some ⟨gl, 0, none⟩), .pointer (some ⟨g3, 0, none⟩)] := by simpa using ho9
          have HB9 := hide (below_on HB8.out b9)
          have NM := hide (nd_made (w5 := w7) (w6 := w9) (lo := W.heap.size) (l := [left, right]) (ps := [.pointer (some ⟨gl, 0, none⟩), .pointer (some ⟨g3, 0, none⟩)]) (v' := .slice (some ⟨g9, 0, none⟩) 2 c9) G7.out (by omega) (by
            rw [Nds]
            refine ⟨_, _, rfl, Nd.mono (fun q hq => ⟨hq.1, by have := hq.2; omega, by have := hq.2; omega⟩) _ _ T7.out, ?_⟩
            rw [Nds]
            exact ⟨_, _, rfl, Nd.mono (fun q hq => ⟨by have : w5.heap.size ≤ q := hq.1; omega, hq.2, by have : w5.heap.size ≤ q := hq.1; omega⟩) _ _ V7.out, Nds.none⟩) O9' HB9.out (fun q e => by have e' : g9 = q := Option.some.inj e; omega) (by omega))
          clear ho9 hg9 ha9 b9 O9' hg9' hz8
          refine hK.out _ _ (fun _ _ => Ca) ?_
          clear hK K
          try simp only [Act.put, List.setIfInBounds_toArray, List.set_cons_zero, List.set_cons_succ]
          refine' wpAnyJ_takeW (i := 12) (v := _) rfl (by kernel_rfl) (by kernel_rfl) (by kernel_rfl) (fun _ _ _ h => h) (Or.inl ⟨by rfl, ?hyD10⟩) ?reD10
          case hyD10 => (intro W hSw; (try dsimp only at hSw); go_simp; try with_reducible rfl)
          try simp only [Act.put, List.setIfInBounds_toArray]
          refine' wpAnyJ_takeW (i := 13) (v := _) rfl (by kernel_rfl) (by kernel_rfl) (by kernel_rfl) (fun _ _ _ h => h) (Or.inl ⟨by rfl, ?hyD11⟩) ?reD11
          case hyD11 => (intro W hSw; (try dsimp only at hSw); go_simp; try with_reducible rfl)
          try simp only [Act.put]
          refine wpAnyJ_ready (rs := [14]) (by kernel_rfl) (by simp) ?_
          refine AllReadyJ.cons (o := { dst := none, op := Op.store 49 (Operand.tmp 39) (Operand.tmp 37), type := 0, pos := "expression.go:33", after := #[{ on := 13, ground := Ground.data }, { on := 11, ground := Ground.data }, { on := 11, ground := Ground.chain }, { on := 0, ground := Ground.phase }, { on := 1, ground := Ground.phase }, { on := 2, ground := Ground.phase }, { on := 3, ground := Ground.phase }, { on := 4, ground := Ground.phase }, { on := 5, ground := Ground.phase }, { on := 6, ground := Ground.phase }, { on := 7, ground := Ground.phase }, { on := 8, ground := Ground.phase }, { on := 9, ground := Ground.phase }, { on := 10, ground := Ground.phase }, { on := 11, ground := Ground.phase }], guard := none }) rfl (fun K hK => ?_) AllReadyJ.nil
          go_simp
          refine hK.out _ _ (fun h => absurd h (by decide)) ?_
          clear hK K
          try simp only [Act.put, List.setIfInBounds_toArray, List.set_cons_zero, List.set_cons_succ]
          refine wpAnyJ_done (by kernel_rfl) ?_ _
          have R10 := hide ((R7.out.mv NM.out.2 (fun j e => by
            have := R7.out.1
            have : j = g := e
            omega)))
          have M10 : Hid (Mv W (w9.setCell ⟨g, 3, none⟩ (.slice (some ⟨g9, 0, none⟩) 2 c9)) (fun j => j = k)) := M7.out.trans NM.out.2 (fun j hj e => by have : j = g := e; omega)
          obtain ⟨w10, hw10⟩ : ∃ X, X = w9.setCell ⟨g, 3, none⟩ (.slice (some ⟨g9, 0, none⟩) 2 c9) := ⟨_, rfl⟩
          have T10 := hide NM.out.1
          rw [← hw10] at R10 M10 T10 ⊢
          clear hw10 NM Ca F9 G9
          go_wp2_with fail
          go_roundg m
          case measure => omega
          case rel => exact ⟨m, _, s2, g, rfl, by omega, rfl, HE3, T10, R10, M10⟩
end Go.Proofs.YtmfoehaeejhlpaaGreatDoor

/-
  The grammar: lists with commas, one way for all.
-/
namespace Go.Proofs.YtmfoehaeejhlpaaGreatDoor.Yn
set_option maxRecDepth 100000
def items (p : Nat → S → R Tree) : Nat → List Tree → S → R (List Tree)
  | 0, _, _ => .out
  | n + 1, l, s => if isAt s cCom then (p n (nx s)).bind fun x s => items p n (l ++ [x]) s else .ok l s
def listS (p : Nat → S → R Tree) (n : Nat) (x : ByteArray) (s : S) : R (List Tree) := if isAt s x then .ok [] s else (p n s).bind fun y s => items p n [y] s
theorem conds_items (ws : List ByteArray) : ∀ (n : Nat) (l : List Tree) (s : S), conds ws n l s = items (Yn.cond ws) n l s
  | 0, l, s => by rw [conds, items]
  | n + 1, l, s => by
    rw [conds, items]
    split
    · congr 1
      funext x s
      exact conds_items ws n (l ++ [x]) s
    · rfl
theorem fields_items (ws : List ByteArray) : ∀ (n : Nat) (l : List Tree) (s : S), fields ws n l s = items (field ws) n l s
  | 0, l, s => by rw [fields, items]
  | n + 1, l, s => by
    rw [fields, items]
    split
    · congr 1
      funext x s
      exact fields_items ws n (l ++ [x]) s
    · rfl
theorem parts_items (ws : List ByteArray) : ∀ (n : Nat) (l : List Tree) (s : S), parts ws n l s = items (part ws) n l s
  | 0, l, s => by rw [parts, items]
  | n + 1, l, s => by
    rw [parts, items]
    split
    · congr 1
      funext x s
      exact parts_items ws n (l ++ [x]) s
    · rfl
theorem args_list (ws : List ByteArray) (n : Nat) (s : S) : args ws (n + 1) s = (openS cOpen s).bind fun _ s => (listS (Yn.cond ws) n cClose s).bind fun l s => (take cClose s).bind fun _ s => .ok l (leave s) := by
  rw [args]
  congr 1
  funext _ s
  congr 1
  unfold listS
  split
  · rfl
  · congr 1
    funext x s
    exact conds_items ws n [x] s
end Go.Proofs.YtmfoehaeejhlpaaGreatDoor.Yn
