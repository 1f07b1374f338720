/-
  number, signed, name.
-/
import Derived.Test.YtpolajoephjdhaaDoorDeA
namespace Go.Proofs.YtpolajoephjdhaaDoor
open Go.RowKit
set_option maxRecDepth 100000
section
variable {W W' : World} {B k : Nat} {b : List UInt8} {s : Rs}
theorem passR_no (s : Rs) (n : Nat) : (passR s n false).bad = true := by unfold passR; simp
theorem Bs.empty (W : World) (ao : Option Addr) (c : Nat) (hc : c ≤ maxLen) : Bs W (.slice ao 0 c) [] := ⟨ao, c, rfl, Nat.zero_le _, hc, fun j hj => absurd hj (by simp)⟩
theorem Bs.from {g o c a : Nat} {l : List UInt8} (h : Bs W (.slice (some ⟨g, o, none⟩) l.length c) l) (ha : a ≤ l.length) : Bs W (.slice (if c = a then some ⟨g, o, none⟩ else some ⟨g, o + a, none⟩) (l.length - a) (c - a)) (l.drop a) := by
  obtain ⟨ao, c', e, h1, h2, h3⟩ := h
  injection e with e1 e2 e3
  subst e1 e3
  have el : (l.drop a).length = l.length - a := List.length_drop ..
  by_cases hc : c = a
  · rw [if_pos hc]
    have : l.drop a = [] := List.drop_eq_nil_of_le (by omega)
    rw [this, show l.length - a = 0 by omega]
    exact Bs.empty W _ _ (by omega)
  · rw [if_neg hc]
    refine ⟨some ⟨g, o + a, none⟩, c - a, by rw [el], by omega, by omega, fun j hj => ⟨g, o + a, rfl, ?_⟩⟩
    obtain ⟨g', o', e, hcell⟩ := h3 (a + j) (by omega)
    injection e with e
    injection e with e1 e2
    subst e1 e2
    rw [List.getElem_drop, ← hcell]
    congr 2
    omega
theorem slice_from {v : Value} (h : Bs W v b) : ∃ ao c, v = .slice ao b.length c ∧ b.length ≤ c ∧ c ≤ 9223372036854775807 ∧ ((ao = none ∧ b = []) ∨ (∃ x, ao = some x ∧ b = []) ∨ ∃ g o, ao = some ⟨g, o, none⟩ ∧ 0 < b.length) := by
  obtain ⟨ao, c, rfl, h1, h2, h3⟩ := h
  refine ⟨ao, c, rfl, h1, by unfold maxLen at h2; omega, ?_⟩
  by_cases h0 : 0 < b.length
  · obtain ⟨g, o, rfl, -⟩ := h3 0 h0
    exact .inr (.inr ⟨g, o, rfl, h0⟩)
  · have hb : b = [] := List.eq_nil_of_length_eq_zero (by omega)
    cases ao with
    | none => exact .inl ⟨rfl, hb⟩
    | some x => exact .inr (.inl ⟨x, rfl, hb⟩)
set_option maxHeartbeats 2000000 in
theorem number_at (h : Rdr W B k b s) (l m : Nat) (hl : l ≤ 100000) (hm : m ≤ 100000) : Calls Tryd.prog 48 #[.pointer (some ⟨k, 0, none⟩), .int .i64 (l : Int), .int .i64 (m : Int)] W fun e w' => e = .returned (.int .i64 (numV b l m s : Int)) ∧ Rdr w' B k b (numR b l m s) ∧ Mv W w' (fun j => j = k) := by
  have H := hide h
  obtain ⟨h1, h2, h3, h4, vb, h5, h6, h7⟩ := h
  have c0 : W.cell? ⟨k, 0, none⟩ = some vb := by rw [cell_of_row W _ _ _ 76 (0, 0) h5]; rfl
  have c1 : W.cell? ⟨k, 1, none⟩ = some (.int .i64 (s.at' : Int)) := by rw [cell_of_row W _ _ _ 76 (0, 0) h5]; rfl
  obtain ⟨ao, c, rfl, hc1, hc2, hsh⟩ := slice_from h6
  obtain ⟨x, hx⟩ : ∃ x, x = numR b l m s := ⟨_, rfl⟩
  obtain ⟨v, hv⟩ : ∃ v, v = numV b l m s := ⟨_, rfl⟩
  rw [← hx, ← hv]
  have gl := Dec.getN_lt (b.drop s.at')
  have gn := Dec.getN_le (b.drop s.at')
  rw [List.length_drop] at gn
  unfold numV at hv
  rw [← hx] at hv
  unfold numR at hx
  have JG : Hid (∀ sv, Bs W sv (b.drop s.at') → ∀ n, Calls Tryd.prog 59 #[sv] (W.drewN n) fun e w' => e = .returned (.tuple #[.int .u64 ((Dec.getN (b.drop s.at')).1 : Int), .int .i64 ((Dec.getN (b.drop s.at')).2 : Int)]) ∧ w' = W.drewN n) := fun sv hs n => get_any sv _ _ (hs.below (below_drawn W n) (Nat.le_refl _))
  have JP : Hid (∀ n r, Calls Tryd.prog 60 #[.pointer (some ⟨k, 0, none⟩), .int .i64 ((Dec.getN (b.drop s.at')).2 : Int), .bool r] (W.drewN n) fun e w' => e = .returned (.bool (!(passR s (Dec.getN (b.drop s.at')).2 r).bad)) ∧ Rdr w' B k b (passR s (Dec.getN (b.drop s.at')).2 r) ∧ Mv (W.drewN n) w' (fun j => j = k)) := fun n r => pass_any (H.out.later (below_drawn W n)) _ r gn
  have BF : Hid (∀ sv, sv = (Value.slice ao b.length c) → Bs W sv b) := fun sv e => e ▸ h6
  generalize (Dec.getN (b.drop s.at')).1 = gv at *
  generalize (Dec.getN (b.drop s.at')).2 = gs at *
  have HX := hide hx
  have HV := hide hv
  obtain ⟨a, ha⟩ : ∃ a, a = s.at' := ⟨_, rfl⟩
  rw [← ha] at c1 h2 JG gn
  have HA := hide ha
  have DN : Hid (∀ n, Below W.heap.size W (W.drewN n)) := fun n => below_drawn W n
  clear hx hv h5 h6 h7 H ha h3 h1
  go_enter Tryd.func48, Tryd.ntmps48
  go_upto_region 1 with fail
  go_cut [7, 8] (fun v7 v8 wx => v7 = .int .u64 (gv : Int) ∧ v8 = .int .i64 (gs : Int) ∧ Hid (∃ n, wx = W.drewN n))
  case first =>
    rcases hsh with ⟨rfl, rfl⟩ | ⟨y, rfl, rfl⟩ | ⟨g, o, rfl, hp⟩
    · have J := hide (JG.out (.slice none 0 c) (by simpa using Bs.empty W none c (by unfold maxLen; omega)))
      obtain rfl : a = 0 := by simpa using h2
      have c0' : W.cell? ⟨k, 0, none⟩ = some (.slice none 0 c) := c0
      clear JG c0 h2 hc1 gn h4
      go_quiet (exact Calls.quiet_of_same (J.out _))
      go_wp2_with fail
      all_goals go_meet
      all_goals exact ⟨rfl, rfl, nq, rfl⟩
    · obtain rfl : a = 0 := by simpa using h2
      have J := hide (JG.out (.slice (some y) 0 c) (by simpa using Bs.empty W _ c (by unfold maxLen; omega)))
      have c0' : W.cell? ⟨k, 0, none⟩ = some (.slice (some y) 0 c) := c0
      clear JG c0 h2 hc1 gn h4
      go_quiet (exact Calls.quiet_of_same (J.out _))
      go_wp2_with fail
      all_goals go_meet
      all_goals exact ⟨rfl, rfl, nq, rfl⟩
    · have J := hide (JG.out _ (Bs.from (BF.out _ rfl) h2))
      have i1 : (0 : Int) ≤ (a : Int) := by omega
      have i2 : (a : Int) ≤ (b.length : Int) := by omega
      clear JG
      go_quiet (exact Calls.quiet_of_same (J.out _))
      go_wp2_with fail
      all_goals go_meet
      all_goals exact ⟨rfl, rfl, nq, rfl⟩
  obtain ⟨rfl, rfl, hd⟩ := hcut
  obtain ⟨n, hn⟩ := hd.out
  subst hn
  have FIN : ∀ r, r = decide (l ≤ gv ∧ gv ≤ m) → Calls Tryd.prog 60 #[.pointer (some ⟨k, 0, none⟩), .int .i64 (gs : Int), .bool r] (W.drewN n) fun e w' => e = .returned (.bool (!x.bad)) ∧ Rdr w' B k b x ∧ Mv W w' (fun j => j = k) := fun r hr => by
    rw [HX.out, ← hr]
    refine (JP.out n r).mono ?_
    rintro e w' ⟨e1, e2, e3⟩
    exact ⟨e1, e2, (Mv.of_below (DN.out n) _).trans e3 (fun _ _ e => e)⟩
  have FF := hide FIN
  clear FIN JP JG BF hd hsh c0 c1 hc1 hc2 h2 gn h4
  by_cases hlo : gv < l
  · have J := hide (FF.out false (by simp; omega))
    have t1 : ¬ ((l : Int) ≤ (gv : Int)) := by omega
    go_wp2_with fail
    refine J.out.mono ?_
    rintro e w1 ⟨rfl, hr, hm1⟩
    have RR := hide hr
    have MM := hide hm1
    clear hr hm1 J
    have hxb : x.bad = true := by rw [HX.out, decide_eq_false (by omega)]; exact passR_no _ _
    rw [hxb] at HV
    obtain rfl : v = 0 := HV.out
    go_wp2_with fail
    go_ret
    exact ⟨rfl, RR.out, MM.out⟩
  · have t1 : (l : Int) ≤ (gv : Int) := by omega
    by_cases hhi : gv ≤ m
    · have J := hide (FF.out true (by simp; omega))
      have t2 : (gv : Int) ≤ (m : Int) := by omega
      go_wp2_with fail
      refine J.out.mono ?_
      rintro e w1 ⟨rfl, hr, hm1⟩
      have RR := hide hr
      have MM := hide hm1
      clear hr hm1 J
      cases hxb : x.bad with
      | true =>
        rw [hxb] at HV
        obtain rfl : v = 0 := HV.out
        go_wp2_with fail
        go_ret
        exact ⟨rfl, RR.out, MM.out⟩
      | false =>
        rw [hxb] at HV
        obtain rfl : v = gv := HV.out
        go_wp2_with fail
        go_ret
        exact ⟨ret_int (by simp), RR.out, MM.out⟩
    · have J := hide (FF.out false (by simp; omega))
      have t2 : ¬ ((gv : Int) ≤ (m : Int)) := by omega
      go_wp2_with fail
      refine J.out.mono ?_
      rintro e w1 ⟨rfl, hr, hm1⟩
      have RR := hide hr
      have MM := hide hm1
      clear hr hm1 J
      have hxb : x.bad = true := by rw [HX.out, decide_eq_false (by omega)]; exact passR_no _ _
      rw [hxb] at HV
      obtain rfl : v = 0 := HV.out
      go_wp2_with fail
      go_ret
      exact ⟨rfl, RR.out, MM.out⟩
end
end Go.Proofs.YtpolajoephjdhaaDoor
