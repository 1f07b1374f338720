/-
  Verify: isKind, fields, has.
-/
import Derived.Test.YtklamaibinjcmaaDoorVfS
namespace Go.Proofs.YtklamaibinjcmaaDoor
open Go.RowKit
set_option maxRecDepth 100000
theorem iskind2_any {Q : Nat → Prop} {W : World} {B gv : Nat} {vs vf vk vr : Value} {p : Pg} {ks : List Kind} {L : List Rv} (h : Pm Q W B gv vs vf vk vr p ks L) (x : Int) : Calls Tryd.prog 93 #[.pointer (some ⟨gv, 0, none⟩), .int .i64 x] W fun e w' => e = .returned (.bool (decide (1 ≤ x ∧ x ≤ (ks.length : Int)))) ∧ w' = W := by
  obtain ⟨-, -, c2, -⟩ := h.cells
  obtain ⟨ka, kc, rfl, k1, k2, -⟩ := h.kin
  have k3 : kc ≤ 9223372036854775807 := by unfold maxLen at k2; omega
  generalize ks.length = nk at *
  clear h k2
  by_cases g1 : 1 ≤ x
  · by_cases g2 : x ≤ (nk : Int)
    · rw [decide_eq_true (show 1 ≤ x ∧ x ≤ (nk : Int) from ⟨g1, g2⟩)]
      go_enter Tryd.func93, Tryd.ntmps93
      go_wp2_with fail
      go_ret
      exact ⟨rfl, rfl⟩
    · rw [decide_eq_false (show ¬ (1 ≤ x ∧ x ≤ (nk : Int)) from fun c => g2 c.2)]
      go_enter Tryd.func93, Tryd.ntmps93
      go_wp2_with fail
      go_ret
      exact ⟨rfl, rfl⟩
  · rw [decide_eq_false (show ¬ (1 ≤ x ∧ x ≤ (nk : Int)) from fun c => g1 c.1)]
    go_enter Tryd.func93, Tryd.ntmps93
    go_wp2_with fail
    go_ret
    exact ⟨rfl, rfl⟩
/-- How many fields a kind has. -/
def fdN (ks : List Kind) (k : Nat) : Nat := (ks.getD (k - 1) (⟨#[]⟩, [])).2.length
theorem fields2_any {Q : Nat → Prop} {W : World} {B gv : Nat} {vs vf vk vr : Value} {p : Pg} {ks : List Kind} {L : List Rv} (h : Pm Q W B gv vs vf vk vr p ks L) (k : Nat) (hk1 : 1 ≤ k) (hk2 : k ≤ ks.length) : Calls Tryd.prog 91 #[.pointer (some ⟨gv, 0, none⟩), .int .i64 (k : Int)] W fun e w' => e = .returned (.int .i64 (fdN ks k : Int)) ∧ w' = W := by
  obtain ⟨-, -, c2, -⟩ := h.cells
  obtain ⟨ka, kc, rfl, k1, k2, k3⟩ := h.kin
  have k4 : kc ≤ 9223372036854775807 := by unfold maxLen at k2; omega
  obtain ⟨g, o, vf', rfl, y1, y2, y3⟩ := k3 (k - 1) (by omega)
  obtain ⟨af, cf, rfl, f1, f2, -⟩ := y3
  have HF : Hid (fdN ks k = (ks[k - 1]'(by omega)).2.length) := by
    unfold Hid fdN
    rw [List.getD_eq_getElem?_getD, List.getElem?_eq_getElem (by omega)]
    rfl
  generalize (ks[k - 1]'(by omega)).2.length = nf at *
  obtain ⟨j, rfl⟩ : ∃ j, k = j + 1 := ⟨k - 1, by omega⟩
  clear k3 h y1
  have t1 : (j : Int) < (ks.length : Int) := by omega
  have t2 : IntKind.i64.wrap (((j + 1 : Nat) : Int) - 1) = (j : Int) := by rw [IntKind.wrap_i64]; omega
  rw [Nat.add_sub_cancel] at y2
  rw [HF.out]
  have f3 : cf ≤ 9223372036854775807 := by unfold maxLen at f2; omega
  clear k2 HF f2
  go_enter Tryd.func91, Tryd.ntmps91
  go_wp2_with fail
  go_ret
  exact ⟨rfl, rfl⟩
theorem clos_any (x k : Int) (g : Nat) (W : World) (hg : W.cell? ⟨g, 0, none⟩ = some (.int .i64 k)) : Calls Tryd.prog 99 #[.int .i64 x, .pointer (some ⟨g, 0, none⟩)] W fun e w' => e = .returned (.bool (decide (x = k))) ∧ w' = W := by
  by_cases e : x = k
  · rw [decide_eq_true e]
    subst e
    go_enter Tryd.func99, Tryd.ntmps99
    go_wp2_with fail
    go_ret
    exact ⟨rfl, rfl⟩
  · rw [decide_eq_false e]
    have f1 : (x == k) = false := beq_eq_false_iff_ne.2 e
    clear e
    go_enter Tryd.func99, Tryd.ntmps99
    go_wp2_with fail
    go_ret
    exact ⟨rfl, rfl⟩
set_option maxHeartbeats 4000000 in
theorem indexfunc_any {Q : Nat → Prop} {W : World} {vs : Value} {l : List Int} (h : Nl Q W vs l) (k : Int) (g : Nat) (hg : W.cell? ⟨g, 0, none⟩ = some (.int .i64 k)) : Calls Tryd.prog 100 #[vs, .func (Fn.func 99) #[] #[.pointer (some ⟨g, 0, none⟩)]] W fun e w' => (∃ i : Int, e = .returned (.int .i64 i) ∧ (0 ≤ i ↔ k ∈ l)) ∧ w' = W := by
  have H := hide h
  obtain ⟨ao, c, rfl, h1, h2⟩ := h.at
  obtain ⟨n, hn⟩ : ∃ n, n = l.length := ⟨_, rfl⟩
  have HN := hide hn
  rw [← hn] at h1 H ⊢
  clear h hn
  go_enter Tryd.func100, Tryd.ntmps100
  go_wp2_with fail
  go_loopw [8] (fun v8 V => ∃ i : Nat, i ≤ n ∧ v8 = .int .i64 (i : Int) ∧ V = W ∧ Hid (∀ j (hj : j < l.length), j < i → l[j] ≠ k)) (fun v8 _ => n - (intOf v8).toNat)
  case atStart => exact ⟨0, Nat.zero_le _, rfl, rfl, fun j hj h => absurd h (by omega)⟩
  case round =>
    obtain ⟨i, hi, rfl, rfl, HNO⟩ := hrel
    by_cases hlt : i < n
    · have t1 : (i : Int) < (n : Int) := by omega
      have hil : i < l.length := by have := HN.out; omega
      obtain ⟨ga, oa, rfl, -, d1, -⟩ := H.out.nth hil
      obtain ⟨x, hx⟩ : ∃ x, x = l[i] := ⟨_, rfl⟩
      have HX := hide hx
      rw [← hx] at d1
      clear hx
      have J := hide (clos_any x k g wr hg)
      by_cases cx : x = k
      · rw [decide_eq_true cx] at J
        have HM : Hid (k ∈ l) := by unfold Hid; rw [← cx, HX.out]; exact List.getElem_mem hil
        clear cx
        go_wp2_with fail
        refine J.out.mono ?_
        rintro e w2 ⟨rfl, rfl⟩
        clear J d1
        go_wp2_with fail
        go_ret
        exact ⟨⟨_, rfl, ⟨fun _ => HM.out, fun _ => by omega⟩⟩, rfl⟩
      · rw [decide_eq_false cx] at J
        have HN2 : Hid (∀ j (hj : j < l.length), j < i + 1 → l[j] ≠ k) := fun j hj h => by
          by_cases e : j = i
          · subst e
            rw [← HX.out]
            exact cx
          · exact HNO.out j hj (by omega)
        clear cx HNO
        go_wp2_with fail
        refine J.out.mono ?_
        rintro e w2 ⟨rfl, rfl⟩
        clear J d1
        go_wp2_with fail
        go_roundw
        case rel => exact ⟨i + 1, by omega, rfl, trivial, HN2⟩
        case measure => simp only [intOf]; omega
    · have t1 : ¬ (i : Int) < (n : Int) := by omega
      have HM : Hid (k ∉ l) := fun hk => by
        obtain ⟨m, hm, e⟩ := List.getElem_of_mem hk
        exact HNO.out m hm (by have := HN.out; omega) e
      clear HNO
      go_wp2_with fail
      go_ret
      exact ⟨⟨_, rfl, ⟨fun h => absurd h (by omega), fun h => absurd h HM.out⟩⟩, rfl⟩
set_option maxHeartbeats 4000000 in
theorem containsfunc_any {Q : Nat → Prop} {W : World} {vs : Value} {l : List Int} (h : Nl Q W vs l) (k : Int) (g : Nat) (hg : W.cell? ⟨g, 0, none⟩ = some (.int .i64 k)) : Calls Tryd.prog 98 #[vs, .func (Fn.func 99) #[] #[.pointer (some ⟨g, 0, none⟩)]] W fun e w' => e = .returned (.bool (decide (k ∈ l))) ∧ w' = W := by
  have J := hide (indexfunc_any h k g hg)
  obtain ⟨ao, c, rfl, h1, h2⟩ := h.at
  clear h
  go_enter Tryd.func98, Tryd.ntmps98
  go_wp2_with fail
  refine J.out.mono ?_
  rintro e w2 ⟨⟨i, rfl, hi⟩, rfl⟩
  clear J
  by_cases c0 : 0 ≤ i
  · have HD := hide (decide_eq_true (hi.1 c0))
    clear hi
    go_wp2_with fail
    go_ret
    first | exact ⟨ret_bool HD.out.symm, rfl⟩ | exact ⟨ret_bool (HD.out.symm ▸ decide_eq_false (by have := C0.out; omega)), rfl⟩
  · have HD := hide (decide_eq_false (fun e => c0 (hi.2 e)))
    have C0 := hide c0
    clear hi
    go_wp2_with fail
    go_ret
    first | exact ⟨ret_bool HD.out.symm, rfl⟩ | exact ⟨ret_bool (HD.out.symm ▸ decide_eq_false (by have := C0.out; omega)), rfl⟩
set_option maxHeartbeats 4000000 in
theorem has_any {Q : Nat → Prop} {W : World} {vs : Value} {l : List Int} (h : Nl Q W vs l) (k : Int) : Calls Tryd.prog 90 #[vs, .int .i64 k] W fun e w' => e = .returned (.bool (decide (k ∈ l))) ∧ Below W.heap.size W w' := by
  obtain ⟨ao, c, rfl, h1, h2⟩ := h.at
  have J := hide (containsfunc_any (h.later (below_alloc W (.cells #[.int .i64 k] 2))) k W.heap.size (by rw [cell_of_row _ _ _ _ 2 (0, 0) (heap_alloc_new W _)]; rfl))
  clear h
  go_enter Tryd.func90, Tryd.ntmps90
  go_wp2_with fail
  refine J.out.mono ?_
  rintro e w2 ⟨rfl, rfl⟩
  clear J
  go_wp2_with fail
  go_ret
  exact ⟨rfl, below_alloc W _⟩
end Go.Proofs.YtklamaibinjcmaaDoor
