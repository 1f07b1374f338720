/-
  The law's asked, what it goes on with; Get; and what does nothing.
-/
import Derived.Test.YtlnjphfkinajdaaBoth
namespace Go.Proofs.Ytlnjphfkinajdaa
open Go.RowKit
/-- What the law goes on with. -/
def Ga (w : World) (own : Nat → Nat) (gw i n M : Nat) (G : Nat → Nat × Nat) (C : Nat → Ts) (m : Nat) (w' : World) : Prop := ∃ own' L' st, Bw w' gw M own' G n (upd C i st) (upd C i st) L' ∧ L'.length ≤ m ∧ K0 own w own' w'
theorem ap_later {u v : Value} {B e s n m e' s' B' : Nat} {xs ys : List Value} {w0 w1 : World} (h : w0.ownsRow B e s u n xs) (k : w1.ownsRow B' e' s' v m ys) (hB : w0.heap.size ≤ B') : Ap u v := fun q e1 e2 => by
  have := (h.lt q e1).2
  have := (k.lt q e2).1
  omega
theorem K2.k0 {u v : Value} {own o8 own' : Nat → Nat} {w w8 w' : World} (h : K2 u v o8 w8 own' w') (hk : K0 own w o8 w8) (hu : ∀ q, u.ownBlock = some q → w.heap.size ≤ q) (hv : ∀ q, v.ownBlock = some q → w.heap.size ≤ q) : K0 own w own' w' := by
  refine ⟨hk.1.trans h.1 (fun q hq e => ?_), fun q hq e => h.2 q (Nat.lt_of_lt_of_le hq hk.1.size) (hk.2 q hq e) (fun e' => by have := hu q e'; omega) (fun e' => by have := hv q e'; omega)⟩
  rcases e with e | e | e
  · exact fun e' => e (hk.2 q hq e')
  · have := hu q e; omega
  · have := hv q e; omega
section
variable {w : World} {own : Nat → Nat} {gw i n M : Nat} {G : Nat → Nat × Nat} {C : Nat → Ts} {L : List Held}
set_option maxHeartbeats 40000000 in
set_option maxRecDepth 1000000 in
theorem asked_4 (h : Bw w gw M own G n C C L) (hi : i < n) (on row col e1 e2 x : Int) (av : Option Addr) (nv cv : Nat) :
    Calls Try.prog 24 #[.pointer (some ⟨gw, 0, none⟩), .agg #[.pointer (some ⟨(G i).1, 0, none⟩), .pointer (some ⟨(G i).2, 0, none⟩)], .agg #[.int .i64 4, .int .i64 on, .int .i64 row, .int .i64 col, .int .i64 e1, .int .i64 e2, .int .i64 x, .slice av nv cv]] w fun e w' => e = .returned (.bool true) ∧ Ga w own gw i n M G C (L.length + 4) w' := by
  have HH := hide h
  obtain ⟨g, hg⟩ : ∃ g, g = (G i).1 := ⟨_, rfl⟩
  obtain ⟨r, hr⟩ : ∃ r, r = (G i).2 := ⟨_, rfl⟩
  rw [← hg, ← hr]
  have HG := hide hg
  have HR := hide hr
  clear h hg hr
  go_enter Try.func24, Try.ntmps24
  go_upto_region 1 with fail
  obtain ⟨w0, hw0⟩ : ∃ X, X = (w.alloc (.cells #[.pointer (some ⟨g, 0, none⟩), .pointer (some ⟨r, 0, none⟩)] 64)).alloc (.cells #[.int .i64 4, .int .i64 on, .int .i64 row, .int .i64 col, .int .i64 e1, .int .i64 e2, .int .i64 x, .slice av nv cv] 34) := ⟨_, rfl⟩
  have B0 : Below w.heap.size w w0 := hw0 ▸ below_on (below_alloc w _) (below_alloc _ _)
  have hp0 : w0.heap[w.heap.size]? = some (.cells #[.pointer (some ⟨g, 0, none⟩), .pointer (some ⟨r, 0, none⟩)] 64 (0, 0)) := by
    rw [hw0]
    exact (heap_alloc_old _ _ (by simp)).trans (heap_alloc_new w _)
  have hq0 : w0.heap[w.heap.size + 1]? = some (.cells #[.int .i64 4, .int .i64 on, .int .i64 row, .int .i64 col, .int .i64 e1, .int .i64 e2, .int .i64 x, .slice av nv cv] 34 (0, 0)) := by
    have := heap_alloc_new (w.alloc (.cells #[.pointer (some ⟨g, 0, none⟩), .pointer (some ⟨r, 0, none⟩)] 64)) (.cells #[.int .i64 4, .int .i64 on, .int .i64 row, .int .i64 col, .int .i64 e1, .int .i64 e2, .int .i64 x, .slice av nv cv] 34)
    rw [hw0]
    simpa using this
  rw [← hw0]
  obtain ⟨kp, hkp⟩ : ∃ k, k = w.heap.size := ⟨_, rfl⟩
  obtain ⟨ks, hks⟩ : ∃ k, k = w.heap.size + 1 := ⟨_, rfl⟩
  rw [← hks] at hq0 ⊢
  rw [← hkp] at hp0 ⊢
  have HP0 := hide hp0
  have HQ0 := hide hq0
  obtain ⟨o0, ho0⟩ : ∃ o, o = ext own w.heap.size 0 := ⟨_, rfl⟩
  have H0 : Hid (Bw w0 gw M o0 G n C C L) := ho0 ▸ hide (HH.out.later B0)
  have K00 : Hid (K0 own w o0 w0) := ho0 ▸ hide (K0.later B0)
  have zp : Hid (o0 kp = 0) := by rw [ho0]; exact hide (ext_new (by omega))
  have zs : Hid (o0 ks = 0) := by rw [ho0]; exact hide (ext_new (by omega))
  clear hw0 hp0 hq0 hkp hks ho0 HH B0
  have CS : Hid (∀ W : World, W.heap[kp]? = w0.heap[kp]? → W.heap[ks]? = w0.heap[ks]? → W.cell? ⟨kp, 0, none⟩ = some (.pointer (some ⟨g, 0, none⟩)) ∧ W.cell? ⟨kp, 1, none⟩ = some (.pointer (some ⟨r, 0, none⟩)) ∧ W.cell? ⟨ks, 0, none⟩ = some (.int .i64 4) ∧ W.cell? ⟨ks, 2, none⟩ = some (.int .i64 row) ∧ W.cell? ⟨ks, 3, none⟩ = some (.int .i64 col) ∧ W.cell? ⟨ks, 4, none⟩ = some (.int .i64 e1) ∧ W.cell? ⟨ks, 5, none⟩ = some (.int .i64 e2) ∧ W.cell? ⟨ks, 6, none⟩ = some (.int .i64 x)) := fun W h1 h2 => by
    have h3 := h1.trans HP0.out
    have h4 := h2.trans HQ0.out
    refine ⟨?_, ?_, ?_, ?_, ?_, ?_, ?_, ?_⟩
    · rw [cell_of_row W kp _ _ 64 (0, 0) h3]; rfl
    · rw [cell_of_row W kp _ _ 64 (0, 0) h3]; rfl
    all_goals rw [cell_of_row W ks _ _ 34 (0, 0) h4]; rfl
  have CB : Hid (∀ W : World, Below w0.heap.size w0 W → W.cell? ⟨kp, 0, none⟩ = some (.pointer (some ⟨g, 0, none⟩)) ∧ W.cell? ⟨kp, 1, none⟩ = some (.pointer (some ⟨r, 0, none⟩)) ∧ W.cell? ⟨ks, 0, none⟩ = some (.int .i64 4) ∧ W.cell? ⟨ks, 2, none⟩ = some (.int .i64 row) ∧ W.cell? ⟨ks, 3, none⟩ = some (.int .i64 col) ∧ W.cell? ⟨ks, 4, none⟩ = some (.int .i64 e1) ∧ W.cell? ⟨ks, 5, none⟩ = some (.int .i64 e2) ∧ W.cell? ⟨ks, 6, none⟩ = some (.int .i64 x)) := fun W hW => CS.out W (hW.block kp (lt_of_block HP0.out)) (hW.block ks (lt_of_block HQ0.out))
  obtain ⟨c0, c1, c2, c3, c4, c5, c6, c7⟩ := CB.out w0 (Below.refl _ _)
  have J1 : Hid (Calls Try.prog 19 #[.pointer (some ⟨g, 0, none⟩), .int .i64 row, .int .i64 col] w0 fun e w' => e = .returned (.tuple #[.int .i64 (getS (C i).1.length (C i).2 row col), .int .i64 (atS (C i).1.length (C i).2.length row col)]) ∧ w' = w0) := by
    obtain ⟨m, hm, ht⟩ := H0.out.1 i hi
    rw [HG.out]
    exact get_all ht row col
  have J2 : Hid (Calls Try.prog 32 #[.pointer (some ⟨r, 0, none⟩), .int .i64 row, .int .i64 col] w0 fun e w' => e = .returned (.tuple #[.int .i64 (getS (C i).1.length (C i).2 row col), .int .i64 (atS (C i).1.length (C i).2.length row col)]) ∧ w' = w0) := by
    rw [HR.out]
    exact dget_any (H0.out.2.1 i hi) row col
  generalize getS (C i).1.length (C i).2 row col = y at *
  generalize atS (C i).1.length (C i).2.length row col = z at *
  go_wp2_with fail
  refine J1.out.mono ?_
  rintro e w1 ⟨rfl, rfl⟩
  go_wp2_with fail
  refine J2.out.mono ?_
  rintro e w2 ⟨rfl, rfl⟩
  go_wp2_with fail
  go_ret
  exact ⟨rfl, o0, L, C i, by rw [upd_same]; exact H0.out, by omega, K00.out⟩
set_option maxHeartbeats 40000000 in
set_option maxRecDepth 1000000 in
theorem asked_other (h : Bw w gw M own G n C C L) (_hi : i < n) (kd on row col e1 e2 x : Int) (av : Option Addr) (nv cv : Nat) (hk : kd ≠ 4 ∧ kd ≠ 5 ∧ kd ≠ 6 ∧ kd ≠ 7 ∧ kd ≠ 8) :
    Calls Try.prog 24 #[.pointer (some ⟨gw, 0, none⟩), .agg #[.pointer (some ⟨(G i).1, 0, none⟩), .pointer (some ⟨(G i).2, 0, none⟩)], .agg #[.int .i64 kd, .int .i64 on, .int .i64 row, .int .i64 col, .int .i64 e1, .int .i64 e2, .int .i64 x, .slice av nv cv]] w fun e w' => e = .returned (.bool true) ∧ Ga w own gw i n M G C (L.length + 4) w' := by
  have HH := hide h
  obtain ⟨g, hg⟩ : ∃ g, g = (G i).1 := ⟨_, rfl⟩
  obtain ⟨r, hr⟩ : ∃ r, r = (G i).2 := ⟨_, rfl⟩
  rw [← hg, ← hr]
  have HG := hide hg
  have HR := hide hr
  clear h hg hr
  go_enter Try.func24, Try.ntmps24
  go_upto_region 1 with fail
  obtain ⟨w0, hw0⟩ : ∃ X, X = (w.alloc (.cells #[.pointer (some ⟨g, 0, none⟩), .pointer (some ⟨r, 0, none⟩)] 64)).alloc (.cells #[.int .i64 kd, .int .i64 on, .int .i64 row, .int .i64 col, .int .i64 e1, .int .i64 e2, .int .i64 x, .slice av nv cv] 34) := ⟨_, rfl⟩
  have B0 : Below w.heap.size w w0 := hw0 ▸ below_on (below_alloc w _) (below_alloc _ _)
  have hp0 : w0.heap[w.heap.size]? = some (.cells #[.pointer (some ⟨g, 0, none⟩), .pointer (some ⟨r, 0, none⟩)] 64 (0, 0)) := by
    rw [hw0]
    exact (heap_alloc_old _ _ (by simp)).trans (heap_alloc_new w _)
  have hq0 : w0.heap[w.heap.size + 1]? = some (.cells #[.int .i64 kd, .int .i64 on, .int .i64 row, .int .i64 col, .int .i64 e1, .int .i64 e2, .int .i64 x, .slice av nv cv] 34 (0, 0)) := by
    have := heap_alloc_new (w.alloc (.cells #[.pointer (some ⟨g, 0, none⟩), .pointer (some ⟨r, 0, none⟩)] 64)) (.cells #[.int .i64 kd, .int .i64 on, .int .i64 row, .int .i64 col, .int .i64 e1, .int .i64 e2, .int .i64 x, .slice av nv cv] 34)
    rw [hw0]
    simpa using this
  rw [← hw0]
  obtain ⟨kp, hkp⟩ : ∃ k, k = w.heap.size := ⟨_, rfl⟩
  obtain ⟨ks, hks⟩ : ∃ k, k = w.heap.size + 1 := ⟨_, rfl⟩
  rw [← hks] at hq0 ⊢
  rw [← hkp] at hp0 ⊢
  have HP0 := hide hp0
  have HQ0 := hide hq0
  obtain ⟨o0, ho0⟩ : ∃ o, o = ext own w.heap.size 0 := ⟨_, rfl⟩
  have H0 : Hid (Bw w0 gw M o0 G n C C L) := ho0 ▸ hide (HH.out.later B0)
  have K00 : Hid (K0 own w o0 w0) := ho0 ▸ hide (K0.later B0)
  have zp : Hid (o0 kp = 0) := by rw [ho0]; exact hide (ext_new (by omega))
  have zs : Hid (o0 ks = 0) := by rw [ho0]; exact hide (ext_new (by omega))
  clear hw0 hp0 hq0 hkp hks ho0 HH B0
  have CS : Hid (∀ W : World, W.heap[kp]? = w0.heap[kp]? → W.heap[ks]? = w0.heap[ks]? → W.cell? ⟨kp, 0, none⟩ = some (.pointer (some ⟨g, 0, none⟩)) ∧ W.cell? ⟨kp, 1, none⟩ = some (.pointer (some ⟨r, 0, none⟩)) ∧ W.cell? ⟨ks, 0, none⟩ = some (.int .i64 kd) ∧ W.cell? ⟨ks, 2, none⟩ = some (.int .i64 row) ∧ W.cell? ⟨ks, 3, none⟩ = some (.int .i64 col) ∧ W.cell? ⟨ks, 4, none⟩ = some (.int .i64 e1) ∧ W.cell? ⟨ks, 5, none⟩ = some (.int .i64 e2) ∧ W.cell? ⟨ks, 6, none⟩ = some (.int .i64 x)) := fun W h1 h2 => by
    have h3 := h1.trans HP0.out
    have h4 := h2.trans HQ0.out
    refine ⟨?_, ?_, ?_, ?_, ?_, ?_, ?_, ?_⟩
    · rw [cell_of_row W kp _ _ 64 (0, 0) h3]; rfl
    · rw [cell_of_row W kp _ _ 64 (0, 0) h3]; rfl
    all_goals rw [cell_of_row W ks _ _ 34 (0, 0) h4]; rfl
  have CB : Hid (∀ W : World, Below w0.heap.size w0 W → W.cell? ⟨kp, 0, none⟩ = some (.pointer (some ⟨g, 0, none⟩)) ∧ W.cell? ⟨kp, 1, none⟩ = some (.pointer (some ⟨r, 0, none⟩)) ∧ W.cell? ⟨ks, 0, none⟩ = some (.int .i64 kd) ∧ W.cell? ⟨ks, 2, none⟩ = some (.int .i64 row) ∧ W.cell? ⟨ks, 3, none⟩ = some (.int .i64 col) ∧ W.cell? ⟨ks, 4, none⟩ = some (.int .i64 e1) ∧ W.cell? ⟨ks, 5, none⟩ = some (.int .i64 e2) ∧ W.cell? ⟨ks, 6, none⟩ = some (.int .i64 x)) := fun W hW => CS.out W (hW.block kp (lt_of_block HP0.out)) (hW.block ks (lt_of_block HQ0.out))
  obtain ⟨c0, c1, c2, c3, c4, c5, c6, c7⟩ := CB.out w0 (Below.refl _ _)
  have e4 : (kd == 4) = false := by rw [beq_eq_false_iff_ne]; exact hk.1
  have e5 : (kd == 5) = false := by rw [beq_eq_false_iff_ne]; exact hk.2.1
  have e6 : (kd == 6) = false := by rw [beq_eq_false_iff_ne]; exact hk.2.2.1
  have e7 : (kd == 7) = false := by rw [beq_eq_false_iff_ne]; exact hk.2.2.2.1
  have e8 : (kd == 8) = false := by rw [beq_eq_false_iff_ne]; exact hk.2.2.2.2
  clear hk
  go_wp2_with fail
  go_ret
  exact ⟨rfl, o0, L, C i, by rw [upd_same]; exact H0.out, by omega, K00.out⟩
end
end Go.Proofs.Ytlnjphfkinajdaa
