/-
  The document's store: its power fails; Append, Cut, Crash.
-/
import Derived.Test.YtmceoelafmlpjaaDoc
namespace Go.Proofs.Ytmceoelafmlpjaa
open Go.RowKit
theorem nil_part {ao : Option Addr} {m c k : Nat} (h : NilOr (.slice ao m c)) (hk : k ≤ m) : NilOr (.slice ao k c) := by
  rcases h with e | ⟨ad, m', c', e⟩
  · simp only [Value.slice.injEq] at e
    obtain ⟨rfl, rfl, rfl⟩ := e
    obtain rfl : k = 0 := by omega
    exact .inl rfl
  · simp only [Value.slice.injEq] at e
    exact .inr ⟨ad, k, c, by rw [e.1]⟩
theorem drew_on (w : World) : Below w.heap.size w w.drew := (Below.refl _ w).drew
set_option maxHeartbeats 4000000 in
set_option maxRecDepth 100000 in
theorem fails_any {B g : Nat} {u1 u2 : Value} {L O : List UInt8} {off : Bool} {f : Int} (k : Nat) (vj : Value) (j : List UInt8) (w : World) (h : Ds w B g u1 u2 L O off f) (hj : Bs w vj j) (hnj : NilOr vj) (hl : L.length + O.length + j.length ≤ 1000000000) :
    Calls Try.prog 37 #[.pointer (some ⟨g, 0, none⟩), .int .i64 k, vj] w fun e w' => e = .returned (.tuple #[]) ∧ ∃ v1 v2, Ds w' B g v1 v2 (L ++ O.take (min k O.length) ++ j) [] true (-1) ∧ Dn w w' g u1 u2 v1 v2 := by
  obtain ⟨c0, c1, c2, c3⟩ := h.cell
  have H := hide h
  have HJ := hide hj
  have z0 := h.frozen 0
  obtain ⟨-, ⟨⟨ao1, cc1, rfl, -, -, -⟩, -⟩, ⟨⟨ao2, cc2, rfl, hcc2, hcm2, -⟩, -⟩, -⟩ := h
  obtain ⟨aoj, ccj, rfl, -, -, -⟩ := hj
  unfold maxLen at hcm2
  obtain ⟨m, hm⟩ : ∃ m, m = min k O.length := ⟨_, rfl⟩
  rw [← hm]
  have hmO : m ≤ O.length := by omega
  have hmc : m ≤ cc2 := by omega
  have hmi : (0 : Int) ≤ (m : Int) := by omega
  have hmi2 : (m : Int) ≤ (cc2 : Int) := by omega
  obtain ⟨T, hT⟩ : ∃ T, T = O.take m := ⟨_, rfl⟩
  have hTl : T.length = m := by rw [hT, List.length_take]; omega
  have HT : Hid (Bs w (.slice ao2 m cc2) T ∧ NilOr (.slice ao2 m cc2)) := ⟨by rw [hT]; exact bs_take H.out.2.2.1.1 hmO, nil_part H.out.2.2.1.2 hmO⟩
  rw [← hT]
  have J1 : Hid (∀ W, Below w.heap.size w W → Calls Try.prog 35 #[.slice ao1 L.length cc1, .slice ao2 m cc2] W fun e w' => ∃ ao c, e = .returned (.slice ao (L.length + m) c) ∧ Hid (Ds w' B g (.slice ao1 L.length cc1) (.slice ao2 O.length cc2) L O off f ∧ Below w.heap.size w w' ∧ w'.ownsRow w.heap.size 5 1 (.slice ao (L.length + m) c) (L.length + m) (Lib.byteCells (L ++ T)))) := fun W hW =>
    (joined_ds H.out W hW _ _ L T (H.out.2.1.1.on hW) H.out.2.1.2 (HT.out.1.on hW) HT.out.2 (by omega)).mono (by
      rintro e w' ⟨ao, c, rfl, hh, _⟩
      rw [hTl] at hh
      exact ⟨ao, c, by rw [hTl], hh⟩)
  have J2 : Hid (∀ W ao c, Below w.heap.size w W → W.ownsRow w.heap.size 5 1 (.slice ao (L.length + m) c) (L.length + m) (Lib.byteCells (L ++ T)) → Calls Try.prog 35 #[.slice ao (L.length + m) c, .slice aoj j.length ccj] W fun e w' => ∃ ao c, e = .returned (.slice ao (L.length + m + j.length) c) ∧ Hid (Ds w' B g (.slice ao1 L.length cc1) (.slice ao2 O.length cc2) L O off f ∧ Below w.heap.size w w' ∧ w'.ownsRow w.heap.size 5 1 (.slice ao (L.length + m + j.length) c) (L.length + m + j.length) (Lib.byteCells (L ++ T ++ j))) ∧ w'.cell? ⟨g, 0, none⟩ = some (.slice ao1 L.length cc1) ∧ w'.frozen? ⟨g, 0, none⟩ = false) := fun W ao c hW ho =>
    (joined_ds H.out W hW _ _ (L ++ T) j (own_bs ho) (own_nilOr ho) (HJ.out.on hW) hnj (by rw [List.length_append]; omega)).mono (by
      have e0 : (L ++ T).length = L.length + m := by rw [List.length_append, hTl]
      rintro e w' ⟨ao, c, rfl, hh, h1, h2, h3, h4⟩
      rw [e0] at hh
      exact ⟨ao, c, by rw [e0], hh, h1, h3⟩)
  have HM := hide hm
  clear hm hT hTl HT HJ
  go_enter Try.func37, Try.ntmps37
  go_upto_if 12 with fail
  go_cut [1] (fun v1 wx => v1 = .int .i64 m ∧ wx = w)
  case first =>
    by_cases hk : (k : Int) > (O.length : Int)
    · obtain rfl : m = O.length := by have := HM.out; omega
      clear HM
      go_wp2_with fail
      go_meet
      exact ⟨rfl, rfl⟩
    · obtain rfl : m = k := by have := HM.out; omega
      clear HM
      go_wp2_with fail
      go_meet
      exact ⟨rfl, rfl⟩
  obtain ⟨rfl, rfl⟩ := hcut
  go_wp2_with fail
  go_region_with (first
    | (go_at_call_of 35 (Value.slice ao1 L.length cc1); refine (J1.out _ ?_).mono ?_; exact ⟨rfl, rfl, rfl, Nat.le_refl _, fun _ _ => rfl⟩; rintro e w1 ⟨aox, cx, rfl, HX⟩)
    | (go_at_call_of 35 (Value.slice aoj j.length ccj); refine (J2.out _ _ _ HX.out.2.1 HX.out.2.2).mono ?_; rintro e w2 ⟨aoy, cy, rfl, HH, d0, y0⟩))
  all_goals
    have hS := HH.out.1.put1 (own_bs HH.out.2.2) (own_nilOr HH.out.2.2) (new_block H.out HH.out.2.2)
    have e1 := hS.cell.2.1
    have e2 := hS.nil2.cell.2.2.1
    have e3 := (hS.nil2.set_off true).cell.2.2.2
    have f1 := hS.frozen 1
    have f2 := hS.nil2.frozen 2
    have f3 := (hS.nil2.set_off true).frozen 3
    have HS := hide ((hS.nil2.set_off true).set_f (-1) (by omega) (by omega))
    have HD := hide (Dn.set (Dn.set (Dn.set (Dn.set (Dn.new2 (Dn.new1 ((Dn.refl _ g (.slice ao1 L.length cc1) (.slice ao2 O.length cc2)).later HH.out.2.1) (fun k hk => (HH.out.2.2.lt k hk).1)) (fun k hk => by simp [Value.ownBlock] at hk : ∀ k, (Value.slice none 0 0).ownBlock = some k → _)) 0 (.slice aoy (L.length + m + j.length) cy)) 1 (.slice none 0 0)) 2 (.bool true)) 3 (.int .i64 (-1)))
    clear hS d0 y0 c0 c1 c2 c3 z0 J1 J2 HH HX
    go_wp2_with fail
    go_end0
    exact ⟨rfl, _, _, HS.out, HD.out⟩
theorem part_own {w w1 : World} {B g n : Nat} {v u1 u2 : Value} {L O l : List UInt8} {off : Bool} {f : Int} (h : Ds w B g u1 u2 L O off f) (hb : Below w.heap.size w w1) (hd : Ds w1 B g u1 u2 L O off f) (ho : w1.ownsRow w.heap.size 5 1 v n (Lib.byteCells l)) :
    Ds (w1.setCell ⟨g, 1, none⟩ v) B g u1 v L l off f ∧ Dn w (w1.setCell ⟨g, 1, none⟩ v) g u1 u2 u1 v :=
  ⟨hd.put2 (own_bs ho) (own_nilOr ho) (new_block h ho), Dn.set (Dn.new2 ((Dn.refl w g u1 u2).later hb) (fun k hk => (ho.lt k hk).1)) 1 v⟩
section
variable {B g : Nat} {u1 u2 : Value} {L O : List UInt8} {f : Int}
set_option maxHeartbeats 1000000 in
theorem dappend_off (vb : Value) (w : World) (h : Ds w B g u1 u2 L O true f) :
    Calls Try.prog 22 #[.pointer (some ⟨g, 0, none⟩), vb] w fun e w' => e = .returned (.int .i64 30) ∧ w' = w := by
  obtain ⟨c0, c1, c2, c3⟩ := h.cell
  clear h
  go_enter Try.func22, Try.ntmps22
  go_wp2_with fail
  go_ret
  exact ⟨rfl, rfl⟩
set_option maxHeartbeats 1000000 in
theorem dappend_full (vb : Value) (b : List UInt8) (w : World) (h : Ds w B g u1 u2 L O false f) (hb : Bs w vb b) (hl : L.length + O.length ≤ 16777216) (hs : b.length ≤ 1000000000) (hm : 16777216 < L.length + O.length + b.length) :
    Calls Try.prog 22 #[.pointer (some ⟨g, 0, none⟩), vb] w fun e w' => e = .returned (.int .i64 40) ∧ Below w.heap.size w w' := by
  have J := hide (size_any (w0 := w) w h (by omega) (Below.refl _ _))
  obtain ⟨c0, c1, c2, c3⟩ := h.cell
  obtain ⟨ao, cb, rfl, -, -, -⟩ := hb
  clear h
  go_enter Try.func22, Try.ntmps22
  go_wp2_with fail
  refine J.out.mono ?_
  rintro e w1 ⟨rfl, hb1, -⟩
  have HB := hide hb1
  obtain ⟨n, hn⟩ : ∃ n, n = L.length + O.length := ⟨_, rfl⟩
  rw [← hn] at hm hl ⊢
  have e1 : IntKind.i64.wrap ((n : Int) + (b.length : Int)) = (n : Int) + (b.length : Int) := by rw [IntKind.wrap_i64]; omega
  have e2 : (n : Int) + (b.length : Int) > 16777216 := by omega
  clear J hb1 hn
  go_wp2_with fail
  go_ret
  exact ⟨rfl, HB.out⟩
/-- What is ahead of all ways that add. -/
theorem dappend_J (w : World) (h : Ds w B g u1 u2 L O false f) (vb : Value) (b : List UInt8) (hb : Bs w vb b) (hnb : NilOr vb) (hm : L.length + O.length + b.length ≤ 16777216) :
    (∀ W, Below w.heap.size w W → Calls Try.prog 36 #[.pointer (some ⟨g, 0, none⟩)] W fun e w' => e = .returned (.int .i64 ((L.length + O.length : Nat) : Int)) ∧ Hid (Below w.heap.size w w') ∧ (w'.cell? ⟨g, 0, none⟩ = some u1 ∧ w'.cell? ⟨g, 1, none⟩ = some u2 ∧ w'.cell? ⟨g, 2, none⟩ = some (.bool false) ∧ w'.cell? ⟨g, 3, none⟩ = some (.int .i64 f)) ∧ w'.frozen? ⟨g, 1, none⟩ = false) ∧
    (∀ W, Below w.heap.size w W → Calls Try.prog 35 #[u2, vb] W fun e w' => ∃ ao c, e = .returned (.slice ao (O.length + b.length) c) ∧ Hid (Ds (w'.setCell ⟨g, 1, none⟩ (.slice ao (O.length + b.length) c)) B g u1 (.slice ao (O.length + b.length) c) L (O ++ b) false f ∧ Dn w (w'.setCell ⟨g, 1, none⟩ (.slice ao (O.length + b.length) c)) g u1 u2 u1 (.slice ao (O.length + b.length) c)) ∧ w'.cell? ⟨g, 1, none⟩ = some u2 ∧ w'.frozen? ⟨g, 1, none⟩ = false) := by
  refine ⟨fun W hW => (size_any (w0 := w) W (h.later hW) (by omega) hW).mono ?_, fun W hW => (joined_ds h W hW _ _ O b (h.2.2.1.1.on hW) h.2.2.1.2 (hb.on hW) hnb (by omega)).mono ?_⟩
  · rintro e w' ⟨rfl, -, hb2⟩
    exact ⟨rfl, hb2, (h.later hb2).cell, (h.later hb2).frozen 1⟩
  · rintro e w' ⟨ao, c, rfl, hh, -, d1, -, y1⟩
    exact ⟨ao, c, rfl, part_own h hh.out.2.1 hh.out.1 hh.out.2.2, d1, y1⟩
set_option maxHeartbeats 2000000 in
theorem dappend_free (vb : Value) (b : List UInt8) (w : World) (h : Ds w B g u1 u2 L O false (-1)) (hb : Bs w vb b) (hnb : NilOr vb) (hm : L.length + O.length + b.length ≤ 16777216) :
    Calls Try.prog 22 #[.pointer (some ⟨g, 0, none⟩), vb] w fun e w' => e = .returned (.int .i64 0) ∧ ∃ v1 v2, Ds w' B g v1 v2 L (O ++ b) false (-1) ∧ Dn w w' g u1 u2 v1 v2 := by
  have J := hide (dappend_J w h vb b hb hnb hm)
  obtain ⟨c0, c1, c2, c3⟩ := h.cell
  obtain ⟨ao, cb, rfl, -, -, -⟩ := hb
  obtain ⟨-, ⟨⟨ao1, cc1, rfl, -, -, -⟩, -⟩, ⟨⟨ao2, cc2, rfl, -, -, -⟩, -⟩, -⟩ := h
  go_enter Try.func22, Try.ntmps22
  go_wp2_with fail
  refine (J.out.1 _ (Below.refl _ _)).mono ?_
  rintro e w1 ⟨rfl, HB, ⟨d0, d1, d2, d3⟩, -⟩
  obtain ⟨n, hn⟩ : ∃ n, n = L.length + O.length := ⟨_, rfl⟩
  rw [← hn] at hm ⊢
  have e1 : IntKind.i64.wrap ((n : Int) + (b.length : Int)) = (n : Int) + (b.length : Int) := by rw [IntKind.wrap_i64]; omega
  have e2 : ¬ (n : Int) + (b.length : Int) > 16777216 := by omega
  clear hn c0 c1 c2 c3
  go_wp2_with fail
  refine (J.out.2 _ HB.out).mono ?_
  rintro e w2 ⟨ao3, c3, rfl, HH, d1', y1⟩
  clear d0 d1 d2 d3
  go_wp2_with fail
  go_ret
  exact ⟨rfl, _, _, HH.out⟩
set_option maxHeartbeats 2000000 in
theorem dappend_fuse (vb : Value) (b : List UInt8) (f : Nat) (w : World) (h : Ds w B g u1 u2 L O false f) (hb : Bs w vb b) (hnb : NilOr vb) (hm : L.length + O.length + b.length ≤ 16777216) (hf : b.length ≤ f) :
    Calls Try.prog 22 #[.pointer (some ⟨g, 0, none⟩), vb] w fun e w' => e = .returned (.int .i64 0) ∧ ∃ v1 v2, Ds w' B g v1 v2 L (O ++ b) false ((f - b.length : Nat) : Int) ∧ Dn w w' g u1 u2 v1 v2 := by
  have J := hide (dappend_J w h vb b hb hnb hm)
  have hfm := h.2.2.2.2.2.2
  obtain ⟨c0, c1, c2, c3⟩ := h.cell
  obtain ⟨ao, cb, rfl, -, -, -⟩ := hb
  obtain ⟨-, ⟨⟨ao1, cc1, rfl, -, -, -⟩, -⟩, ⟨⟨ao2, cc2, rfl, -, -, -⟩, -⟩, -⟩ := h
  have e3 : ¬ (f : Int) < 0 := by omega
  have e4 : (b.length : Int) ≤ (f : Int) := by omega
  go_enter Try.func22, Try.ntmps22
  go_wp2_with fail
  refine (J.out.1 _ (Below.refl _ _)).mono ?_
  rintro e w1 ⟨rfl, HB, ⟨d0, d1, d2, d3⟩, -⟩
  obtain ⟨n, hn⟩ : ∃ n, n = L.length + O.length := ⟨_, rfl⟩
  rw [← hn] at hm ⊢
  have e1 : IntKind.i64.wrap ((n : Int) + (b.length : Int)) = (n : Int) + (b.length : Int) := by rw [IntKind.wrap_i64]; omega
  have e2 : ¬ (n : Int) + (b.length : Int) > 16777216 := by omega
  clear hn c0 c1 c2 c3
  go_wp2_with fail
  refine (J.out.2 _ HB.out).mono ?_
  rintro e w2 ⟨ao3, c3, rfl, HH, d1', y1⟩
  have d3' := HH.out.1.cell.2.2.2
  have y3' := HH.out.1.frozen 3
  clear d0 d1 d2 d3
  go_wp2_with fail
  go_ret
  have e : (f : Int) - (b.length : Int) = ((f - b.length : Nat) : Int) := by omega
  rw [e]
  exact ⟨rfl, _, _, HH.out.1.set_f _ (by omega) (by omega), HH.out.2.set _ _⟩
set_option maxHeartbeats 4000000 in
set_option maxRecDepth 100000 in
theorem dappend_burst (vb : Value) (b : List UInt8) (f : Nat) (w : World) (h : Ds w B g u1 u2 L O false f) (hb : Bs w vb b) (hnb : NilOr vb) (hm : L.length + O.length + b.length ≤ 16777216) (hf : f < b.length) :
    Calls Try.prog 22 #[.pointer (some ⟨g, 0, none⟩), vb] w fun e w' => e = .returned (.int .i64 30) ∧ ∃ v1 v2, Ds w' B g v1 v2 (L ++ (O ++ b.take f)) [] true (-1) ∧ Dn w w' g u1 u2 v1 v2 := by
  have J := hide (dappend_J w h vb b hb hnb hm).1
  obtain ⟨c0, c1, c2, c3⟩ := h.cell
  obtain ⟨ao, cb, rfl, hcb, -, -⟩ := id hb
  have hbt : (b.take f).length = f := by rw [List.length_take]; omega
  have hJ2 := (dappend_J w h (.slice ao f cb) (b.take f) (bs_take hb (by omega)) (nil_part hnb (by omega)) (by rw [hbt]; omega)).2
  rw [hbt] at hJ2
  obtain ⟨T, hT⟩ : ∃ T, T = b.take f := ⟨_, rfl⟩
  rw [← hT] at hJ2 hbt ⊢
  obtain ⟨q, hq⟩ : ∃ q, q = O.length + f := ⟨_, rfl⟩
  rw [← hq] at hJ2
  have J2 := hide hJ2
  have HBT : Hid ((O ++ T).length = q ∧ q ≤ O.length + f ∧ L.length + O.length + f ≤ 16777216) := ⟨by rw [List.length_append, hbt, hq], by omega, by omega⟩
  obtain ⟨-, ⟨⟨ao1, cc1, rfl, -, -, -⟩, -⟩, ⟨⟨ao2, cc2, rfl, -, -, -⟩, -⟩, -⟩ := h
  have e3 : ¬ (f : Int) < 0 := by omega
  have e4 : ¬ (b.length : Int) ≤ (f : Int) := by omega
  have e5 : f ≤ cb := by omega
  have e6 : (0 : Int) ≤ (f : Int) := by omega
  have e7 : (f : Int) ≤ (cb : Int) := by omega
  clear hb hT hbt hJ2 hq
  go_enter Try.func22, Try.ntmps22
  go_wp2_with fail
  refine (J.out _ (Below.refl _ _)).mono ?_
  rintro e w1 ⟨rfl, HB, ⟨d0, d1, d2, d3⟩, z1⟩
  obtain ⟨n, hn⟩ : ∃ n, n = L.length + O.length := ⟨_, rfl⟩
  rw [← hn] at hm ⊢
  have e1 : IntKind.i64.wrap ((n : Int) + (b.length : Int)) = (n : Int) + (b.length : Int) := by rw [IntKind.wrap_i64]; omega
  have e2 : ¬ (n : Int) + (b.length : Int) > 16777216 := by omega
  clear hn c0 c1 c2 c3
  go_wp2_with fail
  go_region_with (go_at_call 35; refine (J2.out _ (HB.out.trans ((drew_on _).mono HB.out.size))).mono ?_; rintro e w2 ⟨aoy, cy, rfl, HH, d1', y1⟩)
  all_goals
    have hS := HH.out.1
    have x1 := hS.cell.2.1
    have HF := hide (fails_any q (.slice none 0 0) [] _ hS (Bs.nil _) (.inl rfl) (by rw [HBT.out.1]; have := HBT.out.2; simp; omega))
    clear hS d0 d1 d2 d3 z1
    go_wp2_with fail
    refine HF.out.mono ?_
    rintro e w4 ⟨rfl, v1, v2, hs4, hd4⟩
    rw [HBT.out.1, Nat.min_self, List.take_of_length_le (by rw [HBT.out.1]; exact Nat.le_refl _), List.append_nil] at hs4
    have HS4 := hide hs4
    have HD4 := hide (HH.out.2.trans hd4)
    clear hs4 hd4
    go_wp2_with fail
    go_ret
    exact ⟨rfl, _, _, HS4.out, HD4.out⟩
end
end Go.Proofs.Ytmceoelafmlpjaa
