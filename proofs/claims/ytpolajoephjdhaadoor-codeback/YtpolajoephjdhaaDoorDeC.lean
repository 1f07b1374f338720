/-
  signed, name.
-/
import Derived.Test.YtpolajoephjdhaaDoorDeB
namespace Go.Proofs.YtpolajoephjdhaaDoor
open Go.RowKit
set_option maxRecDepth 100000
section
variable {W W' : World} {B k : Nat} {b : List UInt8} {s : Rs}
set_option maxHeartbeats 2000000 in
theorem signed_at (h : Rdr W B k b s) : Calls Tryd.prog 71 #[.pointer (some ⟨k, 0, none⟩)] W fun e w' => e = .returned (.int .i64 (sgnV b s)) ∧ Rdr w' B k b (sgnR b s) ∧ Mv W w' (fun j => j = k) := by
  have H := hide h
  obtain ⟨h1, h2, h3, h4, vb, h5, h6, h7⟩ := h
  have c0 : W.cell? ⟨k, 0, none⟩ = some vb := by rw [cell_of_row W _ _ _ 76 (0, 0) h5]; rfl
  have c1 : W.cell? ⟨k, 1, none⟩ = some (.int .i64 (s.at' : Int)) := by rw [cell_of_row W _ _ _ 76 (0, 0) h5]; rfl
  obtain ⟨ao, c, rfl, hc1, hc2, hsh⟩ := slice_from h6
  obtain ⟨x, hx⟩ : ∃ x, x = sgnR b s := ⟨_, rfl⟩
  obtain ⟨v, hv⟩ : ∃ v, v = sgnV b s := ⟨_, rfl⟩
  rw [← hx, ← hv]
  have gn := Dec.getN_le (b.drop s.at')
  rw [List.length_drop] at gn
  unfold sgnV at hv
  rw [← hx] at hv
  unfold sgnR at hx
  have JG : Hid (∀ sv, Bs W sv (b.drop s.at') → ∀ n, Calls Tryd.prog 82 #[sv] (W.drewN n) fun e w' => e = .returned (.tuple #[(Value.int .i64 (Dec.unzig (Dec.getN (b.drop s.at')).1)), .int .i64 ((Dec.getN (b.drop s.at')).2 : Int)]) ∧ w' = W.drewN n) := fun sv hs n => getInt_any sv _ _ (hs.below (below_drawn W n) (Nat.le_refl _))
  have JP : Hid (∀ n r, Calls Tryd.prog 60 #[.pointer (some ⟨k, 0, none⟩), .int .i64 ((Dec.getN (b.drop s.at')).2 : Int), .bool r] (W.drewN n) fun e w' => e = .returned (.bool (!(passR s (Dec.getN (b.drop s.at')).2 r).bad)) ∧ Rdr w' B k b (passR s (Dec.getN (b.drop s.at')).2 r) ∧ Mv (W.drewN n) w' (fun j => j = k)) := fun n r => pass_any (H.out.later (below_drawn W n)) _ r gn
  have BF : Hid (∀ sv, sv = (Value.slice ao b.length c) → Bs W sv b) := fun sv e => e ▸ h6
  generalize Dec.unzig (Dec.getN (b.drop s.at')).1 = gv at *
  generalize (Dec.getN (b.drop s.at')).2 = gs at *
  have HX := hide hx
  have HV := hide hv
  obtain ⟨a, ha⟩ : ∃ a, a = s.at' := ⟨_, rfl⟩
  rw [← ha] at c1 h2 JG gn
  have HA := hide ha
  have DN : Hid (∀ n, Below W.heap.size W (W.drewN n)) := fun n => below_drawn W n
  clear hx hv h5 h6 h7 H ha h3 h1
  go_enter Tryd.func71, Tryd.ntmps71
  go_upto_region 1 with fail
  go_cut [3, 4] (fun v7 v8 wx => v7 = .int .i64 gv ∧ v8 = .int .i64 (gs : Int) ∧ Hid (∃ n, wx = W.drewN n))
  case first =>
    rcases hsh with ⟨rfl, rfl⟩ | ⟨y, rfl, rfl⟩ | ⟨g, o, rfl, hp⟩
    · have J := hide (JG.out (.slice none 0 c) (by simpa using Bs.empty W none c (by unfold maxLen; omega)))
      obtain rfl : a = 0 := by simpa using h2
      have c0' : W.cell? ⟨k, 0, none⟩ = some (.slice none 0 c) := c0
      clear JG c0 h2 hc1 gn h4
      go_quiet (exact Calls.quiet_of_same (J.out _))
      go_wp2_with fail
      all_goals go_meet
      all_goals exact ⟨rfl, rfl, nq, rfl⟩
    · obtain rfl : a = 0 := by simpa using h2
      have J := hide (JG.out (.slice (some y) 0 c) (by simpa using Bs.empty W _ c (by unfold maxLen; omega)))
      have c0' : W.cell? ⟨k, 0, none⟩ = some (.slice (some y) 0 c) := c0
      clear JG c0 h2 hc1 gn h4
      go_quiet (exact Calls.quiet_of_same (J.out _))
      go_wp2_with fail
      all_goals go_meet
      all_goals exact ⟨rfl, rfl, nq, rfl⟩
    · have J := hide (JG.out _ (Bs.from (BF.out _ rfl) h2))
      have i1 : (0 : Int) ≤ (a : Int) := by omega
      have i2 : (a : Int) ≤ (b.length : Int) := by omega
      clear JG
      go_quiet (exact Calls.quiet_of_same (J.out _))
      go_wp2_with fail
      all_goals go_meet
      all_goals exact ⟨rfl, rfl, nq, rfl⟩
  obtain ⟨rfl, rfl, hd⟩ := hcut
  obtain ⟨n, hn⟩ := hd.out
  subst hn
  have FIN : Calls Tryd.prog 60 #[.pointer (some ⟨k, 0, none⟩), .int .i64 (gs : Int), .bool true] (W.drewN n) fun e w' => e = .returned (.bool (!x.bad)) ∧ Rdr w' B k b x ∧ Mv W w' (fun j => j = k) := by
    rw [HX.out]
    refine (JP.out n true).mono ?_
    rintro e w' ⟨e1, e2, e3⟩
    exact ⟨e1, e2, (Mv.of_below (DN.out n) _).trans e3 (fun _ _ e => e)⟩
  have J := hide FIN
  clear FIN JP JG BF hd hsh c0 c1 hc1 hc2 h2 gn h4
  go_wp2_with fail
  refine J.out.mono ?_
  rintro e w1 ⟨rfl, hr, hm1⟩
  have RR := hide hr
  have MM := hide hm1
  clear hr hm1 J
  cases hxb : x.bad with
  | true =>
    rw [hxb] at HV
    obtain rfl : v = 0 := HV.out
    go_wp2_with fail
    go_ret
    exact ⟨rfl, RR.out, MM.out⟩
  | false =>
    rw [hxb] at HV
    obtain rfl : v = gv := HV.out
    go_wp2_with fail
    go_ret
    exact ⟨rfl, RR.out, MM.out⟩
theorem Bs.sub {g o c a e : Nat} {l : List UInt8} (h : Bs W (.slice (some ⟨g, o, none⟩) l.length c) l) (ha : a ≤ e) (he : e ≤ l.length) : Bs W (.slice (if c = a then some ⟨g, o, none⟩ else some ⟨g, o + a, none⟩) (e - a) (c - a)) ((l.take e).drop a) := by
  obtain ⟨ao, c', e', h1, h2, h3⟩ := h
  injection e' with e1 e2 e3
  subst e1 e3
  have el : ((l.take e).drop a).length = e - a := by rw [List.length_drop, List.length_take]; omega
  by_cases hc : c = a
  · rw [if_pos hc]
    have : (l.take e).drop a = [] := List.eq_nil_of_length_eq_zero (by omega)
    rw [this, show e - a = 0 by omega]
    exact Bs.empty W _ _ (by omega)
  · rw [if_neg hc]
    refine ⟨some ⟨g, o + a, none⟩, c - a, by rw [el], by omega, by omega, fun j hj => ⟨g, o + a, rfl, ?_⟩⟩
    obtain ⟨g', o', e, hcell⟩ := h3 (a + j) (by omega)
    injection e with e
    injection e with e1 e2
    subst e1 e2
    rw [List.getElem_drop, List.getElem_take, ← hcell]
    congr 2
    omega
theorem text_ne (l : List UInt8) : (ByteArray.toList ⟨l.toArray⟩).isEmpty = decide (l = []) := by
  rw [show (ByteArray.toList ⟨l.toArray⟩) = l by rw [ByteArray.toList_eq]]
  cases l <;> simp
set_option maxHeartbeats 2000000 in
theorem rname_at (h : Rdr W B k b s) : Calls Tryd.prog 62 #[.pointer (some ⟨k, 0, none⟩)] W fun e w' => e = .returned (.string (bs (nmV b s))) ∧ Rdr w' B k b (nmR b s) ∧ Mv W w' (fun j => j = k) := by
  have H := hide h
  obtain ⟨h1, h2, h3, h4, vb, h5, h6, h7⟩ := h
  have c0 : W.cell? ⟨k, 0, none⟩ = some vb := by rw [cell_of_row W _ _ _ 76 (0, 0) h5]; rfl
  have c1 : W.cell? ⟨k, 1, none⟩ = some (.int .i64 (s.at' : Int)) := by rw [cell_of_row W _ _ _ 76 (0, 0) h5]; rfl
  obtain ⟨ao, c, rfl, hc1, hc2, hsh⟩ := slice_from h6
  obtain ⟨x, hx⟩ : ∃ x, x = nmR b s := ⟨_, rfl⟩
  obtain ⟨v, hv⟩ : ∃ v, v = nmV b s := ⟨_, rfl⟩
  rw [← hx, ← hv]
  have gn : (nmT b s).2 ≤ b.length - s.at' := by
    have := textN_le ((b.take (s.at' + 17)).drop s.at')
    rw [List.length_drop, List.length_take] at this
    unfold nmT
    omega
  unfold nmV at hv
  rw [← hx] at hv
  unfold nmR at hx
  obtain ⟨en, hen⟩ : ∃ e, e = min (s.at' + 17) b.length := ⟨_, rfl⟩
  have et : b.take (s.at' + 17) = b.take en := by
    rw [hen]
    by_cases hh : s.at' + 17 ≤ b.length
    · rw [Nat.min_eq_left hh]
    · rw [Nat.min_eq_right (by omega), List.take_of_length_le (by omega), List.take_length]
  have JG : Hid (∀ sv, Bs W sv ((b.take en).drop s.at') → ∀ w, (∃ n, w = W.drewN n) → Calls Tryd.prog 70 #[sv] w fun e w' => e = .returned (.tuple #[.string (bs (nmT b s).1), .int .i64 ((nmT b s).2 : Int)]) ∧ w' = w) := fun sv hs w hw => by
    obtain ⟨n, rfl⟩ := hw
    unfold nmT
    rw [et]
    exact getText_any sv _ _ (hs.below (below_drawn W n) (Nat.le_refl _))
  have JP : Hid (∀ n r, Calls Tryd.prog 60 #[.pointer (some ⟨k, 0, none⟩), .int .i64 ((nmT b s).2 : Int), .bool r] (W.drewN n) fun e w' => e = .returned (.bool (!(passR s (nmT b s).2 r).bad)) ∧ Rdr w' B k b (passR s (nmT b s).2 r) ∧ Mv (W.drewN n) w' (fun j => j = k)) := fun n r => pass_any (H.out.later (below_drawn W n)) _ r gn
  have BF : Hid (∀ sv, sv = (Value.slice ao b.length c) → Bs W sv b) := fun sv e => e ▸ h6
  generalize (nmT b s).1 = gv at *
  generalize (nmT b s).2 = gs at *
  have HX := hide hx
  have HV := hide hv
  obtain ⟨a, ha⟩ : ∃ a, a = s.at' := ⟨_, rfl⟩
  rw [← ha] at c1 h2 JG gn hen
  have HA := hide ha
  have HE := hide hen
  have DN : Hid (∀ n, Below W.heap.size W (W.drewN n)) := fun n => below_drawn W n
  have DD : Hid (∀ n m, (W.drewN n).drewN m = W.drewN (n + m)) := fun n m => World.drewN_drewN W n m
  have ge1 : a ≤ en := by omega
  have ge2 : en ≤ b.length := by omega
  have emin : min ((a : Int) + 17) (b.length : Int) = (en : Int) := by omega
  clear hx hv h5 h6 h7 H ha h3 h1 hen et
  go_enter Tryd.func62, Tryd.ntmps62
  go_upto_region 1 with fail
  go_cut [3] (fun v3 wx => v3 = .int .i64 (en : Int) ∧ Hid (∃ n, wx = W.drewN n))
  case first =>
    have i1 : IntKind.i64.wrap ((a : Int) + 1) = (a : Int) + 1 := by rw [IntKind.wrap_i64]; omega
    have i2 : IntKind.i64.wrap ((a : Int) + 1 + 16) = (a : Int) + 1 + 16 := by rw [IntKind.wrap_i64]; omega
    have HM := hide emin
    clear emin
    go_quiet (fail)
    go_wp2_with fail
    go_meet
    exact ⟨val_int (by have := HM.out; omega), nq, rfl⟩
  obtain ⟨rfl, hd0⟩ := hcut
  obtain ⟨n0, hn0⟩ := hd0.out
  obtain ⟨w1, hw1⟩ : ∃ X, X = W.drewN n0 := ⟨_, rfl⟩
  rw [← hw1] at hn0
  have hn0' := hn0.symm
  subst hn0'
  have c0' : w1.cell? ⟨k, 0, none⟩ = some (Value.slice ao b.length c) := by rw [hw1]; exact (Mv.of_below (DN.out n0) (fun _ => False)).cell c0 (fun e => e)
  have c1' : w1.cell? ⟨k, 1, none⟩ = some (.int .i64 (a : Int)) := by rw [hw1]; exact (Mv.of_below (DN.out n0) (fun _ => False)).cell c1 (fun e => e)
  have JG2 : Hid (∀ sv, Bs W sv ((b.take en).drop a) → ∀ n, Calls Tryd.prog 70 #[sv] (w1.drewN n) fun e w' => e = .returned (.tuple #[.string (bs gv), .int .i64 (gs : Int)]) ∧ w' = w1.drewN n) := fun sv hs n => JG.out sv hs _ ⟨n0 + n, by rw [hw1]; exact DD.out n0 n⟩
  have HW1 := hide hw1
  have d1 : (a : Int) ≤ (en : Int) := by omega
  have d2 : (en : Int) ≤ (b.length : Int) := by omega
  have d0 : (0 : Int) ≤ (a : Int) := by omega
  clear c0 c1 JG hw1 hd0 emin
  go_upto_region 2 with fail
  go_cut [4, 5] (fun v4 v5 wx => v4 = .string (bs gv) ∧ v5 = .int .i64 (gs : Int) ∧ Hid (∃ n, wx = w1.drewN n))
  case first =>
    rcases hsh with ⟨rfl, rfl⟩ | ⟨y, rfl, rfl⟩ | ⟨g, o, rfl, hp⟩
    · obtain rfl : en = 0 := by simpa using ge2
      obtain rfl : a = 0 := by omega
      have J := hide (JG2.out (.slice none 0 c) (by simpa using Bs.empty W none c (by unfold maxLen; omega)))
      have c0 : w1.cell? ⟨k, 0, none⟩ = some (.slice none 0 c) := c0'
      clear JG2 c0' h2 hc1 gn h4 d1 d2 d0 ge1 ge2
      go_quiet (exact Calls.quiet_of_same (J.out _))
      go_wp2_with fail
      all_goals go_meet
      all_goals exact ⟨rfl, rfl, nq, rfl⟩
    · obtain rfl : en = 0 := by simpa using ge2
      obtain rfl : a = 0 := by omega
      have J := hide (JG2.out (.slice (some y) 0 c) (by simpa using Bs.empty W (some y) c (by unfold maxLen; omega)))
      have c0 : w1.cell? ⟨k, 0, none⟩ = some (.slice (some y) 0 c) := c0'
      clear JG2 c0' h2 hc1 gn h4 d1 d2 d0 ge1 ge2
      go_quiet (exact Calls.quiet_of_same (J.out _))
      go_wp2_with fail
      all_goals go_meet
      all_goals exact ⟨rfl, rfl, nq, rfl⟩
    · have J := hide (JG2.out _ (Bs.sub (BF.out _ rfl) ge1 ge2))
      have d3 : (en : Int) ≤ (c : Int) := by omega
      clear JG2
      go_quiet (exact Calls.quiet_of_same (J.out _))
      go_wp2_with fail
      all_goals go_meet
      all_goals exact ⟨rfl, rfl, nq, rfl⟩
  obtain ⟨rfl, rfl, hd⟩ := hcut
  obtain ⟨n1, hn1⟩ := hd.out
  have hn2 : wc = W.drewN (n0 + n1) := by rw [hn1, HW1.out, DD.out]
  subst hn2
  have FIN : ∀ r, r = decide (gv ≠ []) → Calls Tryd.prog 60 #[.pointer (some ⟨k, 0, none⟩), .int .i64 (gs : Int), .bool r] (W.drewN (n0 + n1)) fun e w' => e = .returned (.bool (!x.bad)) ∧ Rdr w' B k b x ∧ Mv W w' (fun j => j = k) := fun r hr => by
    rw [HX.out, ← hr]
    refine (JP.out (n0 + n1) r).mono ?_
    rintro e w' ⟨e1, e2, e3⟩
    exact ⟨e1, e2, (Mv.of_below (DN.out (n0 + n1)) _).trans e3 (fun _ _ e => e)⟩
  have FF := hide FIN
  have tn := text_ne gv
  clear FIN JP JG2 BF hd hsh c0' c1' hc1 hc2 h2 gn h4 hn1
  by_cases hg : gv = []
  · subst hg
    have J := hide (FF.out false (by simp))
    have hxb : x.bad = true := by rw [HX.out]; exact passR_no _ _
    rw [hxb] at HV
    obtain rfl : v = [] := HV.out
    have zz : ByteArray.toList (bs []) = [] := toList_nil rfl
    go_wp2_with fail
    refine J.out.mono ?_
    rintro e w2 ⟨rfl, hr, hm1⟩
    have RR := hide hr
    have MM := hide hm1
    clear hr hm1 J
    go_wp2_with fail
    go_ret
    exact ⟨rfl, RR.out, MM.out⟩
  · have J := hide (FF.out true (by simp [hg]))
    have zz : ¬ ByteArray.toList (bs gv) = [] := by
      intro e
      rw [show ByteArray.toList (bs gv) = gv by rw [ByteArray.toList_eq]; rfl] at e
      exact hg e
    have nn : (ByteArray.toList (bs gv)).isEmpty = false := by
      cases hl : ByteArray.toList (bs gv) with
      | nil => exact absurd hl zz
      | cons y l => rfl
    clear tn
    go_wp2_with fail
    refine J.out.mono ?_
    rintro e w2 ⟨rfl, hr, hm1⟩
    have RR := hide hr
    have MM := hide hm1
    clear hr hm1 J
    cases hxb : x.bad with
    | true =>
      rw [hxb] at HV
      obtain rfl : v = [] := HV.out
      go_wp2_with fail
      go_ret
      exact ⟨rfl, RR.out, MM.out⟩
    | false =>
      rw [hxb] at HV
      obtain rfl : v = gv := HV.out
      go_wp2_with fail
      go_ret
      exact ⟨rfl, RR.out, MM.out⟩
end
end Go.Proofs.YtpolajoephjdhaaDoor
