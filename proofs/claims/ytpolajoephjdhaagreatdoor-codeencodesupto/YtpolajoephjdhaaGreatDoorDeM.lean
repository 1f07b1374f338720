import Derived.Test.YtpolajoephjdhaaGreatDoorEnE
/-
  The reader of bytes, as plain functions.
-/
namespace Go.Proofs.YtpolajoephjdhaaGreatDoor
open Go.RowKit
set_option maxRecDepth 100000
/-- Where a reader stands; how many instructions there may still be; is something wrong. -/
structure Rs where
  at' : Nat
  left : Nat
  bad : Bool
def passR (s : Rs) (size : Nat) (right : Bool) : Rs := if s.bad || size == 0 || !right then ⟨s.at', s.left, true⟩ else ⟨s.at' + size, s.left, false⟩
def numR (b : List UInt8) (least most : Nat) (s : Rs) : Rs := passR s (Dec.getN (b.drop s.at')).2 (decide (least ≤ (Dec.getN (b.drop s.at')).1 ∧ (Dec.getN (b.drop s.at')).1 ≤ most))
def numV (b : List UInt8) (least most : Nat) (s : Rs) : Nat := if (numR b least most s).bad then 0 else (Dec.getN (b.drop s.at')).1
def sgnR (b : List UInt8) (s : Rs) : Rs := passR s (Dec.getN (b.drop s.at')).2 true
def sgnV (b : List UInt8) (s : Rs) : Int := if (sgnR b s).bad then 0 else Dec.unzig (Dec.getN (b.drop s.at')).1
def nmT (b : List UInt8) (s : Rs) : List UInt8 × Nat := textN ((b.take (s.at' + 17)).drop s.at')
def nmR (b : List UInt8) (s : Rs) : Rs := passR s (nmT b s).2 (decide ((nmT b s).1 ≠ []))
def nmV (b : List UInt8) (s : Rs) : List UInt8 := if (nmR b s).bad then [] else (nmT b s).1
theorem passR_left (s : Rs) (n : Nat) (r : Bool) : (passR s n r).left = s.left := by unfold passR; split <;> rfl
theorem passR_at {s : Rs} {n m : Nat} {r : Bool} (h : n ≤ m - s.at') (h2 : s.at' ≤ m) : (passR s n r).at' ≤ m ∧ s.at' ≤ (passR s n r).at' := by
  unfold passR
  split
  · exact ⟨h2, Nat.le_refl _⟩
  · dsimp only; omega
theorem numR_at {b : List UInt8} {l m : Nat} {s : Rs} (h : s.at' ≤ b.length) : (numR b l m s).at' ≤ b.length ∧ s.at' ≤ (numR b l m s).at' := by
  refine passR_at ?_ h
  have := Dec.getN_le (b.drop s.at')
  rw [List.length_drop] at this
  exact this
theorem sgnR_at {b : List UInt8} {s : Rs} (h : s.at' ≤ b.length) : (sgnR b s).at' ≤ b.length ∧ s.at' ≤ (sgnR b s).at' := by
  refine passR_at ?_ h
  have := Dec.getN_le (b.drop s.at')
  rw [List.length_drop] at this
  exact this
theorem textN_le (l : List UInt8) : (textN l).2 ≤ l.length := by
  unfold textN
  split
  · simp
  · have := Dec.getN_le l
    simp only
    omega
theorem nmR_at {b : List UInt8} {s : Rs} (h : s.at' ≤ b.length) : (nmR b s).at' ≤ b.length ∧ s.at' ≤ (nmR b s).at' := by
  refine passR_at ?_ h
  have := textN_le ((b.take (s.at' + 17)).drop s.at')
  rw [List.length_drop, List.length_take] at this
  unfold nmT
  omega
theorem numV_le (b : List UInt8) (l m : Nat) (s : Rs) : numV b l m s ≤ m := by
  unfold numV
  split
  · omega
  · rename_i h
    unfold numR passR at h
    split at h
    · exact absurd rfl h
    · rename_i h2
      simp at h2
      omega
/-- The reader in memory. -/
def Rdr (W : World) (B k : Nat) (b : List UInt8) (s : Rs) : Prop :=
  B ≤ k ∧ s.at' ≤ b.length ∧ s.left ≤ 2000 ∧ b.length ≤ 281474976710656 ∧ ∃ vb, W.heap[k]? = some (.cells #[vb, .int .i64 (s.at' : Int), .int .i64 (s.left : Int), .bool s.bad] 72 (0, 0)) ∧ Bs W vb b ∧ ∀ j, 0 < b.length → vb.ownBlock = some j → j < B
section
variable {W W' : World} {B k : Nat} {b : List UInt8} {s : Rs}
theorem Bs.mv {v : Value} {l : List UInt8} {S : Nat → Prop} (h : Bs W v l) (hm : Mv W W' S) (hs : ∀ j, 0 < l.length → v.ownBlock = some j → ¬ S j) : Bs W' v l := by
  obtain ⟨ao, c, rfl, h1, h2, h3⟩ := h
  refine ⟨ao, c, rfl, h1, h2, fun j hj => ?_⟩
  obtain ⟨g, o, rfl, hc⟩ := h3 j hj
  exact ⟨g, o, rfl, hm.cell hc (hs g (by omega) rfl)⟩
theorem Rdr.mv {S : Nat → Prop} (h : Rdr W B k b s) (hm : Mv W W' S) (hs : ∀ j, S j → B ≤ j ∧ j ≠ k) : Rdr W' B k b s := by
  obtain ⟨h1, h2, h3, h4, vb, h5, h6, h7⟩ := h
  exact ⟨h1, h2, h3, h4, vb, hm.at h5 (fun e => (hs k e).2 rfl), h6.mv hm (fun j hp e e2 => by have := (hs j e2).1; have := h7 j hp e; omega), h7⟩
theorem Rdr.later (h : Rdr W B k b s) (hb : Below W.heap.size W W') : Rdr W' B k b s := h.mv (Mv.of_below hb (fun _ => False)) (fun _ e => e.elim)
theorem Rdr.lt (h : Rdr W B k b s) : k < W.heap.size := by
  obtain ⟨-, -, -, -, vb, h5, -⟩ := h
  exact lt_of_block h5
set_option maxHeartbeats 1000000 in
theorem pass_any (h : Rdr W B k b s) (n : Nat) (r : Bool) (hn : n ≤ b.length - s.at') : Calls Tryz.prog 89 #[.pointer (some ⟨k, 0, none⟩), .int .i64 (n : Int), .bool r] W fun e w' => e = .returned (.bool (!(passR s n r).bad)) ∧ Rdr w' B k b (passR s n r) ∧ Mv W w' (fun j => j = k) := by
  obtain ⟨h1, h2, h3, h4, vb, h5, h6, h7⟩ := h
  have c1 : W.cell? ⟨k, 1, none⟩ = some (.int .i64 (s.at' : Int)) := by rw [cell_of_row W _ _ _ 72 (0, 0) h5]; rfl
  have c3 : W.cell? ⟨k, 3, none⟩ = some (.bool s.bad) := by rw [cell_of_row W _ _ _ 72 (0, 0) h5]; rfl
  have z : ∀ q, W.frozen? ⟨k, q, none⟩ = false := fun q => frozen_of_row W k q _ 72 h5
  have fin1 : ∀ w', w' = W.setCell ⟨k, 3, none⟩ (.bool true) → Rdr w' B k b ⟨s.at', s.left, true⟩ ∧ Mv W w' (fun j => j = k) := fun w' e => by
    subst e
    have m := (Mv.refl W (fun j => j = k)).set (g := k) rfl 3 (.bool true)
    exact ⟨⟨h1, h2, h3, h4, vb, heap_setCell_same W k 3 _ 72 _ h5, h6.mv m (fun j hp e e2 => by have := h7 j hp e; omega), h7⟩, m⟩
  have F1 := hide fin1
  have fin2 : ∀ w', w' = (W.setCell ⟨k, 3, none⟩ (.bool false)).setCell ⟨k, 1, none⟩ (.int .i64 ((s.at' + n : Nat) : Int)) → Rdr w' B k b ⟨s.at' + n, s.left, false⟩ ∧ Mv W w' (fun j => j = k) := fun w' e => by
    subst e
    have m := ((Mv.refl W (fun j => j = k)).set (g := k) rfl 3 (.bool false)).set (g := k) rfl 1 (.int .i64 ((s.at' + n : Nat) : Int))
    exact ⟨⟨h1, by show s.at' + n ≤ _; omega, h3, h4, vb, heap_setCell_same _ k 1 _ 72 _ (heap_setCell_same W k 3 _ 72 _ h5), h6.mv m (fun j hp e e2 => by have := h7 j hp e; omega), h7⟩, m⟩
  have F2 := hide fin2
  obtain ⟨x, hx⟩ : ∃ x, x = passR s n r := ⟨_, rfl⟩
  rw [← hx]
  have HX := hide hx
  unfold passR at HX
  obtain ⟨a, le, bad⟩ := s
  dsimp only at *
  clear fin1 fin2 h5 h6 h7 hx
  cases bad with
  | true =>
    obtain rfl : x = ⟨a, le, true⟩ := by rw [HX.out]; rfl
    go_enter Tryz.func89, Tryz.ntmps89
    go_wp2_with fail
    go_ret
    exact ⟨rfl, F1.out _ rfl⟩
  | false =>
    by_cases hn0 : n = 0
    · subst hn0
      obtain rfl : x = ⟨a, le, true⟩ := by rw [HX.out]; rfl
      go_enter Tryz.func89, Tryz.ntmps89
      go_wp2_with fail
      go_ret
      exact ⟨rfl, F1.out _ rfl⟩
    · have tn : ((n : Int) == 0) = false := by rw [beq_eq_false_iff_ne]; omega
      cases r with
      | false =>
        obtain rfl : x = ⟨a, le, true⟩ := by rw [HX.out]; simp
        go_enter Tryz.func89, Tryz.ntmps89
        go_wp2_with fail
        go_ret
        exact ⟨rfl, F1.out _ rfl⟩
      | true =>
        obtain rfl : x = ⟨a + n, le, false⟩ := by rw [HX.out]; simp [hn0]
        clear hn0
        go_enter Tryz.func89, Tryz.ntmps89
        go_wp2_with fail
        go_ret
        exact ⟨rfl, F2.out _ (by simp)⟩
end
end Go.Proofs.YtpolajoephjdhaaGreatDoor

/-
  number, signed, name.
-/
namespace Go.Proofs.YtpolajoephjdhaaGreatDoor
open Go.RowKit
set_option maxRecDepth 100000
section
variable {W W' : World} {B k : Nat} {b : List UInt8} {s : Rs}
theorem passR_no (s : Rs) (n : Nat) : (passR s n false).bad = true := by unfold passR; simp
theorem Bs.empty (W : World) (ao : Option Addr) (c : Nat) (hc : c ≤ maxLen) : Bs W (.slice ao 0 c) [] := ⟨ao, c, rfl, Nat.zero_le _, hc, fun j hj => absurd hj (by simp)⟩
theorem Bs.from {g o c a : Nat} {l : List UInt8} (h : Bs W (.slice (some ⟨g, o, none⟩) l.length c) l) (ha : a ≤ l.length) : Bs W (.slice (if c = a then some ⟨g, o, none⟩ else some ⟨g, o + a, none⟩) (l.length - a) (c - a)) (l.drop a) := by
  obtain ⟨ao, c', e, h1, h2, h3⟩ := h
  injection e with e1 e2 e3
  subst e1 e3
  have el : (l.drop a).length = l.length - a := List.length_drop ..
  by_cases hc : c = a
  · rw [if_pos hc]
    have : l.drop a = [] := List.drop_eq_nil_of_le (by omega)
    rw [this, show l.length - a = 0 by omega]
    exact Bs.empty W _ _ (by omega)
  · rw [if_neg hc]
    refine ⟨some ⟨g, o + a, none⟩, c - a, by rw [el], by omega, by omega, fun j hj => ⟨g, o + a, rfl, ?_⟩⟩
    obtain ⟨g', o', e, hcell⟩ := h3 (a + j) (by omega)
    injection e with e
    injection e with e1 e2
    subst e1 e2
    rw [List.getElem_drop, ← hcell]
    congr 2
    omega
theorem slice_from {v : Value} (h : Bs W v b) : ∃ ao c, v = .slice ao b.length c ∧ b.length ≤ c ∧ c ≤ 9223372036854775807 ∧ ((ao = none ∧ b = []) ∨ (∃ x, ao = some x ∧ b = []) ∨ ∃ g o, ao = some ⟨g, o, none⟩ ∧ 0 < b.length) := by
  obtain ⟨ao, c, rfl, h1, h2, h3⟩ := h
  refine ⟨ao, c, rfl, h1, by unfold maxLen at h2; omega, ?_⟩
  by_cases h0 : 0 < b.length
  · obtain ⟨g, o, rfl, -⟩ := h3 0 h0
    exact .inr (.inr ⟨g, o, rfl, h0⟩)
  · have hb : b = [] := List.eq_nil_of_length_eq_zero (by omega)
    cases ao with
    | none => exact .inl ⟨rfl, hb⟩
    | some x => exact .inr (.inl ⟨x, rfl, hb⟩)
set_option maxHeartbeats 2000000 in
theorem number_at (h : Rdr W B k b s) (l m : Nat) (hl : l ≤ 100000) (hm : m ≤ 100000) : Calls Tryz.prog 59 #[.pointer (some ⟨k, 0, none⟩), .int .i64 (l : Int), .int .i64 (m : Int)] W fun e w' => e = .returned (.int .i64 (numV b l m s : Int)) ∧ Rdr w' B k b (numR b l m s) ∧ Mv W w' (fun j => j = k) := by
  have H := hide h
  obtain ⟨h1, h2, h3, h4, vb, h5, h6, h7⟩ := h
  have c0 : W.cell? ⟨k, 0, none⟩ = some vb := by rw [cell_of_row W _ _ _ 72 (0, 0) h5]; rfl
  have c1 : W.cell? ⟨k, 1, none⟩ = some (.int .i64 (s.at' : Int)) := by rw [cell_of_row W _ _ _ 72 (0, 0) h5]; rfl
  obtain ⟨ao, c, rfl, hc1, hc2, hsh⟩ := slice_from h6
  obtain ⟨x, hx⟩ : ∃ x, x = numR b l m s := ⟨_, rfl⟩
  obtain ⟨v, hv⟩ : ∃ v, v = numV b l m s := ⟨_, rfl⟩
  rw [← hx, ← hv]
  have gl := Dec.getN_lt (b.drop s.at')
  have gn := Dec.getN_le (b.drop s.at')
  rw [List.length_drop] at gn
  unfold numV at hv
  rw [← hx] at hv
  unfold numR at hx
  have JG : Hid (∀ sv, Bs W sv (b.drop s.at') → ∀ n, Calls Tryz.prog 88 #[sv] (W.drewN n) fun e w' => e = .returned (.tuple #[.int .u64 ((Dec.getN (b.drop s.at')).1 : Int), .int .i64 ((Dec.getN (b.drop s.at')).2 : Int)]) ∧ w' = W.drewN n) := fun sv hs n => get_any sv _ _ (hs.below (below_drawn W n) (Nat.le_refl _))
  have JP : Hid (∀ n r, Calls Tryz.prog 89 #[.pointer (some ⟨k, 0, none⟩), .int .i64 ((Dec.getN (b.drop s.at')).2 : Int), .bool r] (W.drewN n) fun e w' => e = .returned (.bool (!(passR s (Dec.getN (b.drop s.at')).2 r).bad)) ∧ Rdr w' B k b (passR s (Dec.getN (b.drop s.at')).2 r) ∧ Mv (W.drewN n) w' (fun j => j = k)) := fun n r => pass_any (H.out.later (below_drawn W n)) _ r gn
  have BF : Hid (∀ sv, sv = (Value.slice ao b.length c) → Bs W sv b) := fun sv e => e ▸ h6
  generalize (Dec.getN (b.drop s.at')).1 = gv at *
  generalize (Dec.getN (b.drop s.at')).2 = gs at *
  have HX := hide hx
  have HV := hide hv
  obtain ⟨a, ha⟩ : ∃ a, a = s.at' := ⟨_, rfl⟩
  rw [← ha] at c1 h2 JG gn
  have HA := hide ha
  have DN : Hid (∀ n, Below W.heap.size W (W.drewN n)) := fun n => below_drawn W n
  clear hx hv h5 h6 h7 H ha h3 h1
  go_enter Tryz.func59, Tryz.ntmps59
  go_upto_region 1 with fail
  go_cut [7, 8] (fun v7 v8 wx => v7 = .int .u64 (gv : Int) ∧ v8 = .int .i64 (gs : Int) ∧ Hid (∃ n, wx = W.drewN n))
  case first =>
    rcases hsh with ⟨rfl, rfl⟩ | ⟨y, rfl, rfl⟩ | ⟨g, o, rfl, hp⟩
    · have J := hide (JG.out (.slice none 0 c) (by simpa using Bs.empty W none c (by unfold maxLen; omega)))
      obtain rfl : a = 0 := by simpa using h2
      have c0' : W.cell? ⟨k, 0, none⟩ = some (.slice none 0 c) := c0
      clear JG c0 h2 hc1 gn h4
      go_quiet (exact Calls.quiet_of_same (J.out _))
      go_wp2_with fail
      all_goals go_meet
      all_goals exact ⟨rfl, rfl, nq, rfl⟩
    · obtain rfl : a = 0 := by simpa using h2
      have J := hide (JG.out (.slice (some y) 0 c) (by simpa using Bs.empty W _ c (by unfold maxLen; omega)))
      have c0' : W.cell? ⟨k, 0, none⟩ = some (.slice (some y) 0 c) := c0
      clear JG c0 h2 hc1 gn h4
      go_quiet (exact Calls.quiet_of_same (J.out _))
      go_wp2_with fail
      all_goals go_meet
      all_goals exact ⟨rfl, rfl, nq, rfl⟩
    · have J := hide (JG.out _ (Bs.from (BF.out _ rfl) h2))
      have i1 : (0 : Int) ≤ (a : Int) := by omega
      have i2 : (a : Int) ≤ (b.length : Int) := by omega
      clear JG
      go_quiet (exact Calls.quiet_of_same (J.out _))
      go_wp2_with fail
      all_goals go_meet
      all_goals exact ⟨rfl, rfl, nq, rfl⟩
  obtain ⟨rfl, rfl, hd⟩ := hcut
  obtain ⟨n, hn⟩ := hd.out
  subst hn
  have FIN : ∀ r, r = decide (l ≤ gv ∧ gv ≤ m) → Calls Tryz.prog 89 #[.pointer (some ⟨k, 0, none⟩), .int .i64 (gs : Int), .bool r] (W.drewN n) fun e w' => e = .returned (.bool (!x.bad)) ∧ Rdr w' B k b x ∧ Mv W w' (fun j => j = k) := fun r hr => by
    rw [HX.out, ← hr]
    refine (JP.out n r).mono ?_
    rintro e w' ⟨e1, e2, e3⟩
    exact ⟨e1, e2, (Mv.of_below (DN.out n) _).trans e3 (fun _ _ e => e)⟩
  have FF := hide FIN
  clear FIN JP JG BF hd hsh c0 c1 hc1 hc2 h2 gn h4
  by_cases hlo : gv < l
  · have J := hide (FF.out false (by simp; omega))
    have t1 : ¬ ((l : Int) ≤ (gv : Int)) := by omega
    go_wp2_with fail
    refine J.out.mono ?_
    rintro e w1 ⟨rfl, hr, hm1⟩
    have RR := hide hr
    have MM := hide hm1
    clear hr hm1 J
    have hxb : x.bad = true := by rw [HX.out, decide_eq_false (by omega)]; exact passR_no _ _
    rw [hxb] at HV
    obtain rfl : v = 0 := HV.out
    go_wp2_with fail
    go_ret
    exact ⟨rfl, RR.out, MM.out⟩
  · have t1 : (l : Int) ≤ (gv : Int) := by omega
    by_cases hhi : gv ≤ m
    · have J := hide (FF.out true (by simp; omega))
      have t2 : (gv : Int) ≤ (m : Int) := by omega
      go_wp2_with fail
      refine J.out.mono ?_
      rintro e w1 ⟨rfl, hr, hm1⟩
      have RR := hide hr
      have MM := hide hm1
      clear hr hm1 J
      cases hxb : x.bad with
      | true =>
        rw [hxb] at HV
        obtain rfl : v = 0 := HV.out
        go_wp2_with fail
        go_ret
        exact ⟨rfl, RR.out, MM.out⟩
      | false =>
        rw [hxb] at HV
        obtain rfl : v = gv := HV.out
        go_wp2_with fail
        go_ret
        exact ⟨ret_int (by simp), RR.out, MM.out⟩
    · have J := hide (FF.out false (by simp; omega))
      have t2 : ¬ ((gv : Int) ≤ (m : Int)) := by omega
      go_wp2_with fail
      refine J.out.mono ?_
      rintro e w1 ⟨rfl, hr, hm1⟩
      have RR := hide hr
      have MM := hide hm1
      clear hr hm1 J
      have hxb : x.bad = true := by rw [HX.out, decide_eq_false (by omega)]; exact passR_no _ _
      rw [hxb] at HV
      obtain rfl : v = 0 := HV.out
      go_wp2_with fail
      go_ret
      exact ⟨rfl, RR.out, MM.out⟩
end
end Go.Proofs.YtpolajoephjdhaaGreatDoor

/-
  signed, name.
-/
namespace Go.Proofs.YtpolajoephjdhaaGreatDoor
open Go.RowKit
set_option maxRecDepth 100000
section
variable {W W' : World} {B k : Nat} {b : List UInt8} {s : Rs}
set_option maxHeartbeats 2000000 in
theorem signed_at (h : Rdr W B k b s) : Calls Tryz.prog 104 #[.pointer (some ⟨k, 0, none⟩)] W fun e w' => e = .returned (.int .i64 (sgnV b s)) ∧ Rdr w' B k b (sgnR b s) ∧ Mv W w' (fun j => j = k) := by
  have H := hide h
  obtain ⟨h1, h2, h3, h4, vb, h5, h6, h7⟩ := h
  have c0 : W.cell? ⟨k, 0, none⟩ = some vb := by rw [cell_of_row W _ _ _ 72 (0, 0) h5]; rfl
  have c1 : W.cell? ⟨k, 1, none⟩ = some (.int .i64 (s.at' : Int)) := by rw [cell_of_row W _ _ _ 72 (0, 0) h5]; rfl
  obtain ⟨ao, c, rfl, hc1, hc2, hsh⟩ := slice_from h6
  obtain ⟨x, hx⟩ : ∃ x, x = sgnR b s := ⟨_, rfl⟩
  obtain ⟨v, hv⟩ : ∃ v, v = sgnV b s := ⟨_, rfl⟩
  rw [← hx, ← hv]
  have gn := Dec.getN_le (b.drop s.at')
  rw [List.length_drop] at gn
  unfold sgnV at hv
  rw [← hx] at hv
  unfold sgnR at hx
  have JG : Hid (∀ sv, Bs W sv (b.drop s.at') → ∀ n, Calls Tryz.prog 116 #[sv] (W.drewN n) fun e w' => e = .returned (.tuple #[(Value.int .i64 (Dec.unzig (Dec.getN (b.drop s.at')).1)), .int .i64 ((Dec.getN (b.drop s.at')).2 : Int)]) ∧ w' = W.drewN n) := fun sv hs n => getInt_any sv _ _ (hs.below (below_drawn W n) (Nat.le_refl _))
  have JP : Hid (∀ n r, Calls Tryz.prog 89 #[.pointer (some ⟨k, 0, none⟩), .int .i64 ((Dec.getN (b.drop s.at')).2 : Int), .bool r] (W.drewN n) fun e w' => e = .returned (.bool (!(passR s (Dec.getN (b.drop s.at')).2 r).bad)) ∧ Rdr w' B k b (passR s (Dec.getN (b.drop s.at')).2 r) ∧ Mv (W.drewN n) w' (fun j => j = k)) := fun n r => pass_any (H.out.later (below_drawn W n)) _ r gn
  have BF : Hid (∀ sv, sv = (Value.slice ao b.length c) → Bs W sv b) := fun sv e => e ▸ h6
  generalize Dec.unzig (Dec.getN (b.drop s.at')).1 = gv at *
  generalize (Dec.getN (b.drop s.at')).2 = gs at *
  have HX := hide hx
  have HV := hide hv
  obtain ⟨a, ha⟩ : ∃ a, a = s.at' := ⟨_, rfl⟩
  rw [← ha] at c1 h2 JG gn
  have HA := hide ha
  have DN : Hid (∀ n, Below W.heap.size W (W.drewN n)) := fun n => below_drawn W n
  clear hx hv h5 h6 h7 H ha h3 h1
  go_enter Tryz.func104, Tryz.ntmps104
  go_upto_region 1 with fail
  go_cut [3, 4] (fun v7 v8 wx => v7 = .int .i64 gv ∧ v8 = .int .i64 (gs : Int) ∧ Hid (∃ n, wx = W.drewN n))
  case first =>
    rcases hsh with ⟨rfl, rfl⟩ | ⟨y, rfl, rfl⟩ | ⟨g, o, rfl, hp⟩
    · have J := hide (JG.out (.slice none 0 c) (by simpa using Bs.empty W none c (by unfold maxLen; omega)))
      obtain rfl : a = 0 := by simpa using h2
      have c0' : W.cell? ⟨k, 0, none⟩ = some (.slice none 0 c) := c0
      clear JG c0 h2 hc1 gn h4
      go_quiet (exact Calls.quiet_of_same (J.out _))
      go_wp2_with fail
      all_goals go_meet
      all_goals exact ⟨rfl, rfl, nq, rfl⟩
    · obtain rfl : a = 0 := by simpa using h2
      have J := hide (JG.out (.slice (some y) 0 c) (by simpa using Bs.empty W _ c (by unfold maxLen; omega)))
      have c0' : W.cell? ⟨k, 0, none⟩ = some (.slice (some y) 0 c) := c0
      clear JG c0 h2 hc1 gn h4
      go_quiet (exact Calls.quiet_of_same (J.out _))
      go_wp2_with fail
      all_goals go_meet
      all_goals exact ⟨rfl, rfl, nq, rfl⟩
    · have J := hide (JG.out _ (Bs.from (BF.out _ rfl) h2))
      have i1 : (0 : Int) ≤ (a : Int) := by omega
      have i2 : (a : Int) ≤ (b.length : Int) := by omega
      clear JG
      go_quiet (exact Calls.quiet_of_same (J.out _))
      go_wp2_with fail
      all_goals go_meet
      all_goals exact ⟨rfl, rfl, nq, rfl⟩
  obtain ⟨rfl, rfl, hd⟩ := hcut
  obtain ⟨n, hn⟩ := hd.out
  subst hn
  have FIN : Calls Tryz.prog 89 #[.pointer (some ⟨k, 0, none⟩), .int .i64 (gs : Int), .bool true] (W.drewN n) fun e w' => e = .returned (.bool (!x.bad)) ∧ Rdr w' B k b x ∧ Mv W w' (fun j => j = k) := by
    rw [HX.out]
    refine (JP.out n true).mono ?_
    rintro e w' ⟨e1, e2, e3⟩
    exact ⟨e1, e2, (Mv.of_below (DN.out n) _).trans e3 (fun _ _ e => e)⟩
  have J := hide FIN
  clear FIN JP JG BF hd hsh c0 c1 hc1 hc2 h2 gn h4
  go_wp2_with fail
  refine J.out.mono ?_
  rintro e w1 ⟨rfl, hr, hm1⟩
  have RR := hide hr
  have MM := hide hm1
  clear hr hm1 J
  cases hxb : x.bad with
  | true =>
    rw [hxb] at HV
    obtain rfl : v = 0 := HV.out
    go_wp2_with fail
    go_ret
    exact ⟨rfl, RR.out, MM.out⟩
  | false =>
    rw [hxb] at HV
    obtain rfl : v = gv := HV.out
    go_wp2_with fail
    go_ret
    exact ⟨rfl, RR.out, MM.out⟩
theorem Bs.sub {g o c a e : Nat} {l : List UInt8} (h : Bs W (.slice (some ⟨g, o, none⟩) l.length c) l) (ha : a ≤ e) (he : e ≤ l.length) : Bs W (.slice (if c = a then some ⟨g, o, none⟩ else some ⟨g, o + a, none⟩) (e - a) (c - a)) ((l.take e).drop a) := by
  obtain ⟨ao, c', e', h1, h2, h3⟩ := h
  injection e' with e1 e2 e3
  subst e1 e3
  have el : ((l.take e).drop a).length = e - a := by rw [List.length_drop, List.length_take]; omega
  by_cases hc : c = a
  · rw [if_pos hc]
    have : (l.take e).drop a = [] := List.eq_nil_of_length_eq_zero (by omega)
    rw [this, show e - a = 0 by omega]
    exact Bs.empty W _ _ (by omega)
  · rw [if_neg hc]
    refine ⟨some ⟨g, o + a, none⟩, c - a, by rw [el], by omega, by omega, fun j hj => ⟨g, o + a, rfl, ?_⟩⟩
    obtain ⟨g', o', e, hcell⟩ := h3 (a + j) (by omega)
    injection e with e
    injection e with e1 e2
    subst e1 e2
    rw [List.getElem_drop, List.getElem_take, ← hcell]
    congr 2
    omega
theorem text_ne (l : List UInt8) : (ByteArray.toList ⟨l.toArray⟩).isEmpty = decide (l = []) := by
  rw [show (ByteArray.toList ⟨l.toArray⟩) = l by rw [ByteArray.toList_eq]]
  cases l <;> simp
set_option maxHeartbeats 2000000 in
theorem rname_at (h : Rdr W B k b s) : Calls Tryz.prog 91 #[.pointer (some ⟨k, 0, none⟩)] W fun e w' => e = .returned (.string (bs (nmV b s))) ∧ Rdr w' B k b (nmR b s) ∧ Mv W w' (fun j => j = k) := by
  have H := hide h
  obtain ⟨h1, h2, h3, h4, vb, h5, h6, h7⟩ := h
  have c0 : W.cell? ⟨k, 0, none⟩ = some vb := by rw [cell_of_row W _ _ _ 72 (0, 0) h5]; rfl
  have c1 : W.cell? ⟨k, 1, none⟩ = some (.int .i64 (s.at' : Int)) := by rw [cell_of_row W _ _ _ 72 (0, 0) h5]; rfl
  obtain ⟨ao, c, rfl, hc1, hc2, hsh⟩ := slice_from h6
  obtain ⟨x, hx⟩ : ∃ x, x = nmR b s := ⟨_, rfl⟩
  obtain ⟨v, hv⟩ : ∃ v, v = nmV b s := ⟨_, rfl⟩
  rw [← hx, ← hv]
  have gn : (nmT b s).2 ≤ b.length - s.at' := by
    have := textN_le ((b.take (s.at' + 17)).drop s.at')
    rw [List.length_drop, List.length_take] at this
    unfold nmT
    omega
  unfold nmV at hv
  rw [← hx] at hv
  unfold nmR at hx
  obtain ⟨en, hen⟩ : ∃ e, e = min (s.at' + 17) b.length := ⟨_, rfl⟩
  have et : b.take (s.at' + 17) = b.take en := by
    rw [hen]
    by_cases hh : s.at' + 17 ≤ b.length
    · rw [Nat.min_eq_left hh]
    · rw [Nat.min_eq_right (by omega), List.take_of_length_le (by omega), List.take_length]
  have JG : Hid (∀ sv, Bs W sv ((b.take en).drop s.at') → ∀ w, (∃ n, w = W.drewN n) → Calls Tryz.prog 103 #[sv] w fun e w' => e = .returned (.tuple #[.string (bs (nmT b s).1), .int .i64 ((nmT b s).2 : Int)]) ∧ w' = w) := fun sv hs w hw => by
    obtain ⟨n, rfl⟩ := hw
    unfold nmT
    rw [et]
    exact getText_any sv _ _ (hs.below (below_drawn W n) (Nat.le_refl _))
  have JP : Hid (∀ n r, Calls Tryz.prog 89 #[.pointer (some ⟨k, 0, none⟩), .int .i64 ((nmT b s).2 : Int), .bool r] (W.drewN n) fun e w' => e = .returned (.bool (!(passR s (nmT b s).2 r).bad)) ∧ Rdr w' B k b (passR s (nmT b s).2 r) ∧ Mv (W.drewN n) w' (fun j => j = k)) := fun n r => pass_any (H.out.later (below_drawn W n)) _ r gn
  have BF : Hid (∀ sv, sv = (Value.slice ao b.length c) → Bs W sv b) := fun sv e => e ▸ h6
  generalize (nmT b s).1 = gv at *
  generalize (nmT b s).2 = gs at *
  have HX := hide hx
  have HV := hide hv
  obtain ⟨a, ha⟩ : ∃ a, a = s.at' := ⟨_, rfl⟩
  rw [← ha] at c1 h2 JG gn hen
  have HA := hide ha
  have HE := hide hen
  have DN : Hid (∀ n, Below W.heap.size W (W.drewN n)) := fun n => below_drawn W n
  have DD : Hid (∀ n m, (W.drewN n).drewN m = W.drewN (n + m)) := fun n m => World.drewN_drewN W n m
  have ge1 : a ≤ en := by omega
  have ge2 : en ≤ b.length := by omega
  have emin : min ((a : Int) + 17) (b.length : Int) = (en : Int) := by omega
  clear hx hv h5 h6 h7 H ha h3 h1 hen et
  go_enter Tryz.func91, Tryz.ntmps91
  go_upto_region 1 with fail
  go_cut [3] (fun v3 wx => v3 = .int .i64 (en : Int) ∧ Hid (∃ n, wx = W.drewN n))
  case first =>
    have i1 : IntKind.i64.wrap ((a : Int) + 1) = (a : Int) + 1 := by rw [IntKind.wrap_i64]; omega
    have i2 : IntKind.i64.wrap ((a : Int) + 1 + 16) = (a : Int) + 1 + 16 := by rw [IntKind.wrap_i64]; omega
    have HM := hide emin
    clear emin
    go_quiet (fail)
    go_wp2_with fail
    go_meet
    exact ⟨val_int (by have := HM.out; omega), nq, rfl⟩
  obtain ⟨rfl, hd0⟩ := hcut
  obtain ⟨n0, hn0⟩ := hd0.out
  obtain ⟨w1, hw1⟩ : ∃ X, X = W.drewN n0 := ⟨_, rfl⟩
  rw [← hw1] at hn0
  have hn0' := hn0.symm
  subst hn0'
  have c0' : w1.cell? ⟨k, 0, none⟩ = some (Value.slice ao b.length c) := by rw [hw1]; exact (Mv.of_below (DN.out n0) (fun _ => False)).cell c0 (fun e => e)
  have c1' : w1.cell? ⟨k, 1, none⟩ = some (.int .i64 (a : Int)) := by rw [hw1]; exact (Mv.of_below (DN.out n0) (fun _ => False)).cell c1 (fun e => e)
  have JG2 : Hid (∀ sv, Bs W sv ((b.take en).drop a) → ∀ n, Calls Tryz.prog 103 #[sv] (w1.drewN n) fun e w' => e = .returned (.tuple #[.string (bs gv), .int .i64 (gs : Int)]) ∧ w' = w1.drewN n) := fun sv hs n => JG.out sv hs _ ⟨n0 + n, by rw [hw1]; exact DD.out n0 n⟩
  have HW1 := hide hw1
  have d1 : (a : Int) ≤ (en : Int) := by omega
  have d2 : (en : Int) ≤ (b.length : Int) := by omega
  have d0 : (0 : Int) ≤ (a : Int) := by omega
  clear c0 c1 JG hw1 hd0 emin
  go_upto_region 2 with fail
  go_cut [4, 5] (fun v4 v5 wx => v4 = .string (bs gv) ∧ v5 = .int .i64 (gs : Int) ∧ Hid (∃ n, wx = w1.drewN n))
  case first =>
    rcases hsh with ⟨rfl, rfl⟩ | ⟨y, rfl, rfl⟩ | ⟨g, o, rfl, hp⟩
    · obtain rfl : en = 0 := by simpa using ge2
      obtain rfl : a = 0 := by omega
      have J := hide (JG2.out (.slice none 0 c) (by simpa using Bs.empty W none c (by unfold maxLen; omega)))
      have c0 : w1.cell? ⟨k, 0, none⟩ = some (.slice none 0 c) := c0'
      clear JG2 c0' h2 hc1 gn h4 d1 d2 d0 ge1 ge2
      go_quiet (exact Calls.quiet_of_same (J.out _))
      go_wp2_with fail
      all_goals go_meet
      all_goals exact ⟨rfl, rfl, nq, rfl⟩
    · obtain rfl : en = 0 := by simpa using ge2
      obtain rfl : a = 0 := by omega
      have J := hide (JG2.out (.slice (some y) 0 c) (by simpa using Bs.empty W (some y) c (by unfold maxLen; omega)))
      have c0 : w1.cell? ⟨k, 0, none⟩ = some (.slice (some y) 0 c) := c0'
      clear JG2 c0' h2 hc1 gn h4 d1 d2 d0 ge1 ge2
      go_quiet (exact Calls.quiet_of_same (J.out _))
      go_wp2_with fail
      all_goals go_meet
      all_goals exact ⟨rfl, rfl, nq, rfl⟩
    · have J := hide (JG2.out _ (Bs.sub (BF.out _ rfl) ge1 ge2))
      have d3 : (en : Int) ≤ (c : Int) := by omega
      clear JG2
      go_quiet (exact Calls.quiet_of_same (J.out _))
      go_wp2_with fail
      all_goals go_meet
      all_goals exact ⟨rfl, rfl, nq, rfl⟩
  obtain ⟨rfl, rfl, hd⟩ := hcut
  obtain ⟨n1, hn1⟩ := hd.out
  have hn2 : wc = W.drewN (n0 + n1) := by rw [hn1, HW1.out, DD.out]
  subst hn2
  have FIN : ∀ r, r = decide (gv ≠ []) → Calls Tryz.prog 89 #[.pointer (some ⟨k, 0, none⟩), .int .i64 (gs : Int), .bool r] (W.drewN (n0 + n1)) fun e w' => e = .returned (.bool (!x.bad)) ∧ Rdr w' B k b x ∧ Mv W w' (fun j => j = k) := fun r hr => by
    rw [HX.out, ← hr]
    refine (JP.out (n0 + n1) r).mono ?_
    rintro e w' ⟨e1, e2, e3⟩
    exact ⟨e1, e2, (Mv.of_below (DN.out (n0 + n1)) _).trans e3 (fun _ _ e => e)⟩
  have FF := hide FIN
  have tn := text_ne gv
  clear FIN JP JG2 BF hd hsh c0' c1' hc1 hc2 h2 gn h4 hn1
  by_cases hg : gv = []
  · subst hg
    have J := hide (FF.out false (by simp))
    have hxb : x.bad = true := by rw [HX.out]; exact passR_no _ _
    rw [hxb] at HV
    obtain rfl : v = [] := HV.out
    have zz : ByteArray.toList (bs []) = [] := toList_nil rfl
    go_wp2_with fail
    refine J.out.mono ?_
    rintro e w2 ⟨rfl, hr, hm1⟩
    have RR := hide hr
    have MM := hide hm1
    clear hr hm1 J
    go_wp2_with fail
    go_ret
    exact ⟨rfl, RR.out, MM.out⟩
  · have J := hide (FF.out true (by simp [hg]))
    have zz : ¬ ByteArray.toList (bs gv) = [] := by
      intro e
      rw [show ByteArray.toList (bs gv) = gv by rw [ByteArray.toList_eq]; rfl] at e
      exact hg e
    have nn : (ByteArray.toList (bs gv)).isEmpty = false := by
      cases hl : ByteArray.toList (bs gv) with
      | nil => exact absurd hl zz
      | cons y l => rfl
    clear tn
    go_wp2_with fail
    refine J.out.mono ?_
    rintro e w2 ⟨rfl, hr, hm1⟩
    have RR := hide hr
    have MM := hide hm1
    clear hr hm1 J
    cases hxb : x.bad with
    | true =>
      rw [hxb] at HV
      obtain rfl : v = [] := HV.out
      go_wp2_with fail
      go_ret
      exact ⟨rfl, RR.out, MM.out⟩
    | false =>
      rw [hxb] at HV
      obtain rfl : v = gv := HV.out
      go_wp2_with fail
      go_ret
      exact ⟨rfl, RR.out, MM.out⟩
end
end Go.Proofs.YtpolajoephjdhaaGreatDoor

/-
  The reader: instr, set.
-/
namespace Go.Proofs.YtpolajoephjdhaaGreatDoor
open Go.RowKit
set_option maxRecDepth 100000
def insNm (b : List UInt8) (s : Rs) : Bool := numb (opk (numV b 1 39 s : Int))
def insR (b : List UInt8) (s : Rs) : Rs := if insNm b s then sgnR b (numR b 1 39 s) else numR b 1 39 s
def insVv (b : List UInt8) (s : Rs) : Ins := ⟨(numV b 1 39 s : Int), if insNm b s then sgnV b (numR b 1 39 s) else 0⟩
section
variable {W W' : World} {B k : Nat} {b : List UInt8} {s : Rs}
theorem undIns1 : (Tryz.prog.underlying 56).map (fun d => match d with | .struct _ | .array _ _ => true | _ => false) = some true := by kernel_rfl
theorem res_ins1 {fn : Func} {p : Tmp} (hr : fn.results = #[.cell p 56]) {tmps : Array Value} {W : World} {g : Nat} {x y : Value} (hp : tmps.getD p undef = .pointer (some ⟨g, 0, none⟩)) (hg : W.heap[g]? = some (.cells #[x, y] 56 (0, 0))) : (results fn tmps).run Tryz.prog W = .ok (.agg #[x, y]) W := by
  obtain ⟨d, hu, hd⟩ := Option.map_eq_some_iff.1 undIns1
  exact results_cell_row hr tmps W g 56 _ (0, 0) d hp hg hu (by cases d <;> first | rfl | cases hd) (by kernel_rfl)
set_option maxHeartbeats 2000000 in
theorem instr_at (h : Rdr W B k b s) (hB : 0 < B) (ht : Tb W) : Calls Tryz.prog 92 #[.pointer (some ⟨k, 0, none⟩)] W fun e w' => e = .returned (insV (insVv b s)) ∧ Rdr w' B k b (insR b s) ∧ Mv W w' (fun j => j = k) := by
  obtain ⟨w0, hw0⟩ : ∃ X, X = W.alloc (.cells #[.int .i64 0, .int .i64 0] 56) := ⟨_, rfl⟩
  have B0 : Below W.heap.size W w0 := hw0 ▸ below_alloc W _
  have n1 : w0.heap[W.heap.size]? = some (.cells #[.int .i64 0, .int .i64 0] 56 (0, 0)) := by rw [hw0]; exact heap_alloc_new W _
  obtain ⟨t, htt⟩ : ∃ B, B = W.heap.size := ⟨_, rfl⟩
  rw [← htt] at n1
  have hkt : k < t := htt ▸ h.lt
  have hBk := h.1
  have J1 := hide (number_at (h.later B0) 1 39 (by omega) (by omega))
  have HT := hide (ht.later B0)
  have HB := hide B0
  have N1 := hide n1
  have ET := hide htt
  have f1 := fldR1 (opk (numV b 1 39 s : Int))
  obtain ⟨nm, hnm⟩ : ∃ q, q = insNm b s := ⟨_, rfl⟩
  have e1 : numb (opk (numV b 1 39 s : Int)) = nm := hnm.symm
  obtain ⟨x, hx⟩ : ∃ x, x = insR b s := ⟨_, rfl⟩
  obtain ⟨v, hv⟩ : ∃ v, v = insVv b s := ⟨_, rfl⟩
  rw [← hx, ← hv]
  unfold insR at hx
  unfold insVv at hv
  rw [← hnm] at hx hv
  have HX := hide hx
  have HV := hide hv
  have JR : Hid (∀ w, Tb w → Calls Tryz.prog 56 #[.int .i64 (numV b 1 39 s : Int)] w fun e w' => e = .returned (rowV (opk (numV b 1 39 s : Int))) ∧ Below w.heap.size w w') := fun w hw => row_any _ w hw
  have JS : Hid (∀ w, Rdr w B k b (numR b 1 39 s) → Calls Tryz.prog 104 #[.pointer (some ⟨k, 0, none⟩)] w fun e w' => e = .returned (.int .i64 (sgnV b (numR b 1 39 s))) ∧ Rdr w' B k b (sgnR b (numR b 1 39 s)) ∧ Mv w w' (fun j => j = k)) := fun w hw => signed_at hw
  generalize numV b 1 39 s = op at *
  generalize numR b 1 39 s = s1 at *
  generalize sgnV b s1 = a at *
  generalize sgnR b s1 = s2 at *
  have E1 := hide e1
  clear h ht hx hv hnm B0 n1 e1
  unfold insV
  go_enter Tryz.func92, Tryz.ntmps92
  go_upto_region 1 with fail
  rw [← hw0, ← htt]
  clear hw0 htt
  go_wp2_with fail
  refine J1.out.mono ?_
  rintro e w1 ⟨rfl, hr1, hm1⟩
  have n2 := hm1.at N1.out (by omega)
  have T1 := hide (HT.out.mv hm1 (by omega))
  have R1 := hide hr1
  have N2 := hide n2
  have M1 := hide ((Mv.of_below HB.out (fun j => j = k)).trans hm1 (fun _ _ e => e))
  clear hr1 hm1 n2 J1
  go_wp2_with fail
  refine (JR.out _ T1.out).mono ?_
  rintro e w2 ⟨rfl, hb2⟩
  have n3 := (hb2.block t (lt_of_block N2.out)).trans N2.out
  have R2 := hide (R1.out.later hb2)
  have M2 := hide (M1.out.later hb2)
  have N3 := hide n3
  obtain ⟨ql, hql⟩ : ∃ q, q = opk (op : Int) := ⟨_, rfl⟩
  rw [← hql] at f1 E1 ⊢
  have e1 := E1.out
  rw [e1] at f1
  unfold rowV
  cases nm with
  | false =>
    obtain rfl : x = s1 := HX.out
    obtain rfl : v = ⟨(op : Int), 0⟩ := HV.out
    have z : ∀ q, w2.frozen? ⟨t, q, none⟩ = false := fun q => frozen_of_row w2 t q _ 56 n3
    have y0 : w2.cell? ⟨t, 0, none⟩ = some (.int .i64 0) := by rw [cell_of_row w2 _ _ _ 56 (0, 0) n3]; rfl
    have y1 : w2.cell? ⟨t, 1, none⟩ = some (.int .i64 0) := by rw [cell_of_row w2 _ _ _ 56 (0, 0) n3]; rfl
    clear hb2 n3 hql
    go_wp2_with fail
    have m := ((Mv.refl w2 (fun j => j = t)).set (g := t) rfl 0 (.int .i64 (op : Int))).set (g := t) rfl 1 (.int .i64 0)
    have hn : ((w2.setCell ⟨t, 0, none⟩ (.int .i64 (op : Int))).setCell ⟨t, 1, none⟩ (.int .i64 0)).heap[t]? = some (.cells #[.int .i64 (op : Int), .int .i64 0] 56 (0, 0)) := heap_setCell_same _ t 1 _ 56 _ (heap_setCell_same w2 t 0 _ 56 _ N3.out)
    refine bodyPost_ret (res_ins1 rfl rfl hn) rfl ⟨rfl, R2.out.mv m (fun j e => ?_), M2.out.trans m (fun j hj e => ?_)⟩
    · omega
    · have := ET.out; omega
  | true =>
    obtain rfl : x = s2 := HX.out
    obtain rfl : v = ⟨(op : Int), a⟩ := HV.out
    clear hb2 n3 hql
    go_wp2_with fail
    refine (JS.out _ R2.out).mono ?_
    rintro e w3 ⟨rfl, hr3, hm3⟩
    have n4 := hm3.at N3.out (by omega)
    have R3 := hide hr3
    have M3 := hide (M2.out.trans hm3 (fun _ _ e => e))
    have z : ∀ q, w3.frozen? ⟨t, q, none⟩ = false := fun q => frozen_of_row w3 t q _ 56 n4
    have y0 : w3.cell? ⟨t, 0, none⟩ = some (.int .i64 0) := by rw [cell_of_row w3 _ _ _ 56 (0, 0) n4]; rfl
    have y1 : w3.cell? ⟨t, 1, none⟩ = some (.int .i64 0) := by rw [cell_of_row w3 _ _ _ 56 (0, 0) n4]; rfl
    have N4 := hide n4
    clear hr3 hm3 n4
    go_wp2_with fail
    have m := ((Mv.refl w3 (fun j => j = t)).set (g := t) rfl 0 (.int .i64 (op : Int))).set (g := t) rfl 1 (.int .i64 a)
    have hn : ((w3.setCell ⟨t, 0, none⟩ (.int .i64 (op : Int))).setCell ⟨t, 1, none⟩ (.int .i64 a)).heap[t]? = some (.cells #[.int .i64 (op : Int), .int .i64 a] 56 (0, 0)) := heap_setCell_same _ t 1 _ 56 _ (heap_setCell_same w3 t 0 _ 56 _ N4.out)
    refine bodyPost_ret (res_ins1 rfl rfl hn) rfl ⟨rfl, R3.out.mv m (fun j e => ?_), M3.out.trans m (fun j hj e => ?_)⟩
    · omega
    · have := ET.out; omega
end
def setG (b : List UInt8) : Nat → Nat → Rs → Rs
  | 0, _, s => s
  | n + 1, last, s => setG b n (numV b (last + 1) 12 s) (numR b (last + 1) 12 s)
def setL (b : List UInt8) : Nat → Nat → Rs → List Int
  | 0, _, _ => []
  | n + 1, last, s => (numV b (last + 1) 12 s : Int) :: setL b n (numV b (last + 1) 12 s) (numR b (last + 1) 12 s)
def setR (b : List UInt8) (s : Rs) : Rs := setG b (numV b 0 12 s) 0 (numR b 0 12 s)
def setV (b : List UInt8) (s : Rs) : List Int := setL b (numV b 0 12 s) 0 (numR b 0 12 s)
def intC (l : List Int) : List Value := l.map fun n => Value.int .i64 n
theorem intC_snoc (l : List Int) (n : Int) : intC (l ++ [n]) = intC l ++ [.int .i64 n] := by simp [intC]
theorem infoN : (Tryz.prog.info? 3).map (fun i => (i.zero, i.size, i.bytes)) = some (some (.int .i64 0), 1, 8) := by kernel_rfl
section
variable {W W' : World} {B k : Nat} {b : List UInt8} {s : Rs}
set_option maxHeartbeats 2000000 in
theorem set_at (h : Rdr W B k b s) : Calls Tryz.prog 90 #[.pointer (some ⟨k, 0, none⟩)] W fun e w' => ∃ v, e = .returned v ∧ w'.ownsRow W.heap.size 3 1 v (setV b s).length (intC (setV b s)) ∧ Rdr w' B k b (setR b s) ∧ Mv W w' (fun j => j = k) := by
  have hk := h.lt
  have hBk := h.1
  have J1 := hide (number_at h 0 12 (by omega) (by omega))
  obtain ⟨x, hx⟩ : ∃ x, x = setR b s := ⟨_, rfl⟩
  obtain ⟨v, hv⟩ : ∃ v, v = setV b s := ⟨_, rfl⟩
  rw [← hx, ← hv]
  unfold setR at hx
  unfold setV at hv
  have HX := hide hx
  have HV := hide hv
  have hn := numV_le b 0 12 s
  generalize numV b 0 12 s = n at *
  generalize numR b 0 12 s = s1 at *
  clear h hx hv
  go_enter Tryz.func90, Tryz.ntmps90
  go_wp2_with fail
  refine J1.out.mono ?_
  rintro e w1 ⟨rfl, hr1, hm1⟩
  have R1 := hide hr1
  have M1 := hide hm1
  clear hr1 hm1 J1
  go_wp2_with fail
  go_loopw [7, 4, 3] (fun va vl vs wr => ∃ (j last : Nat) (st : Rs) (dn : List Int), va = .int .i64 (j : Int) ∧ vl = .int .i64 (last : Int) ∧ j ≤ n ∧ last ≤ 12 ∧ dn.length = j ∧ Hid (x = setG b (n - j) last st) ∧ Hid (v = dn ++ setL b (n - j) last st) ∧ Hid (wr.ownsRow W.heap.size 3 1 vs dn.length (intC dn)) ∧ Hid (Rdr wr B k b st) ∧ Hid (Mv W wr (fun j => j = k))) (fun va _ _ _ => n - (intOf va).toNat)
  case atStart => exact ⟨0, 0, s1, [], rfl, rfl, by omega, by omega, rfl, HX.out, HV.out, ⟨rfl, .inl ⟨rfl, rfl⟩⟩, R1.out, M1.out⟩
  case round =>
    obtain ⟨j, last, st, dn, rfl, rfl, hj, hl, hdn, hx, hv, hown, hrd, hmv⟩ := hrel
    by_cases hlt : j < n
    · have J2 := hide (number_at hrd.out (last + 1) 12 (by omega) (by omega))
      obtain ⟨q, hq⟩ : ∃ q, n - j = q + 1 := ⟨n - j - 1, by omega⟩
      have hq' : n - (j + 1) = q := by omega
      have HX2 : Hid (x = setG b (n - (j + 1)) (numV b (last + 1) 12 st) (numR b (last + 1) 12 st)) := by unfold Hid; rw [hx.out, hq, hq']; rfl
      have HV2 : Hid (v = (dn ++ [(numV b (last + 1) 12 st : Int)]) ++ setL b (n - (j + 1)) (numV b (last + 1) 12 st) (numR b (last + 1) 12 st)) := by unfold Hid; rw [hv.out, hq, hq', setL]; simp
      have hl2 := numV_le b (last + 1) 12 st
      generalize numV b (last + 1) 12 st = nl at *
      generalize numR b (last + 1) 12 st = st2 at *
      clear hx hv hq hq'
      go_wp2_with fail
      refine J2.out.mono ?_
      rintro e w2 ⟨rfl, hr2, hm2⟩
      obtain ⟨ic, hi, hz0, hz1, hz2⟩ := info_parts infoN
      have O2 := hm2.own hown.out (fun g e1 e2 => by have := (hown.out.lt g e1).1; omega)
      have R2 := hide hr2
      have M2 := hide (hmv.out.trans hm2 (fun _ _ e => e))
      have hsz := M2.out.size
      clear hr2 hm2 J2
      go_wp2_with (at_builtin; refine wpList_append_own _ rfl _ _ 42 rfl W.heap.size 3 ic (.int .i64 0) 1 8 Tryz.underlying42 hi hz0 hz1 hz2 rfl (by decide) _ _ _ rfl (O2.alloc _) ⟨w2.heap.size, 0, none⟩ 1 1 [.int .i64 (nl : Int)] rfl rfl ?c1 ?c2 ?c3 ?c4 ?c5 ?_)
      case c1 =>
        intro j u hj
        match j, hj with
        | 0, hj => simp at hj; subst hj; simp [Addr.add]
      case c2 => intro u hu; simp at hu; subst hu; rfl
      case c3 => unfold maxLen; omega
      case c4 => omega
      case c5 => simp; omega
      intro v3 w3 ho3 hg3 _
      have m3 : Mv w2 w3 (fun j => W.heap.size ≤ j) := ((Mv.refl w2 (fun j => W.heap.size ≤ j)).alloc _).grown hg3 (fun g _ e => (O2.lt g e).1)
      rw [← intC_snoc] at ho3
      have O3 : Hid (w3.ownsRow W.heap.size 3 1 v3 (dn ++ [(nl : Int)]).length (intC (dn ++ [(nl : Int)]))) := by unfold Hid; rw [List.length_append, hdn]; exact ho3
      have R3 := hide (R2.out.mv m3 (fun j e => ⟨by omega, by omega⟩))
      have M3 := hide (M2.out.trans m3 (fun j hj e => by omega))
      clear ho3 hg3 m3 O2
      go_wp2_with fail
      go_roundw
      case rel => exact ⟨j + 1, nl, st2, dn ++ [(nl : Int)], by go_num, rfl, by omega, hl2, by simp [hdn], HX2.out, HV2.out, O3.out, R3.out, M3.out⟩
      case measure => simp [intOf]; omega
    · obtain rfl : j = n := by omega
      obtain rfl : x = st := by rw [hx.out, Nat.sub_self]; rfl
      obtain rfl : v = dn := by rw [hv.out, Nat.sub_self, setL]; simp
      go_wp2_with fail
      go_ret
      exact ⟨_, rfl, hown.out, hrd.out, hmv.out⟩
end
end Go.Proofs.YtpolajoephjdhaaGreatDoor
