/-
  The law's asked.
-/
import Derived.Test.YtlnjphfkinajdaaAs0
namespace Go.Proofs.Ytlnjphfkinajdaa
open Go.RowKit
section
variable {w : World} {own : Nat → Nat} {gw i n M : Nat} {G : Nat → Nat × Nat} {C : Nat → Ts} {L : List Held}
set_option maxHeartbeats 40000000 in
set_option maxRecDepth 1000000 in
theorem asked_8 (h : Bw w gw M own G n C C L) (hi : i < n) (on row col e1 e2 x : Int) (av : Option Addr) (nv cv : Nat) (hE : InB (e1, e2)) :
    Calls Try.prog 24 #[.pointer (some ⟨gw, 0, none⟩), .agg #[.pointer (some ⟨(G i).1, 0, none⟩), .pointer (some ⟨(G i).2, 0, none⟩)], .agg #[.int .i64 8, .int .i64 on, .int .i64 row, .int .i64 col, .int .i64 e1, .int .i64 e2, .int .i64 x, .slice av nv cv]] w fun e w' => e = .returned (.bool true) ∧ Ga w own gw i n M G C (L.length + 4) w' := by
  have HH := hide h
  obtain ⟨g, hg⟩ : ∃ g, g = (G i).1 := ⟨_, rfl⟩
  obtain ⟨r, hr⟩ : ∃ r, r = (G i).2 := ⟨_, rfl⟩
  rw [← hg, ← hr]
  have HG := hide hg
  have HR := hide hr
  clear h hg hr
  go_enter Try.func24, Try.ntmps24
  go_upto_region 1 with fail
  obtain ⟨w0, hw0⟩ : ∃ X, X = (w.alloc (.cells #[.pointer (some ⟨g, 0, none⟩), .pointer (some ⟨r, 0, none⟩)] 64)).alloc (.cells #[.int .i64 8, .int .i64 on, .int .i64 row, .int .i64 col, .int .i64 e1, .int .i64 e2, .int .i64 x, .slice av nv cv] 34) := ⟨_, rfl⟩
  have B0 : Below w.heap.size w w0 := hw0 ▸ below_on (below_alloc w _) (below_alloc _ _)
  have hp0 : w0.heap[w.heap.size]? = some (.cells #[.pointer (some ⟨g, 0, none⟩), .pointer (some ⟨r, 0, none⟩)] 64 (0, 0)) := by
    rw [hw0]
    exact (heap_alloc_old _ _ (by simp)).trans (heap_alloc_new w _)
  have hq0 : w0.heap[w.heap.size + 1]? = some (.cells #[.int .i64 8, .int .i64 on, .int .i64 row, .int .i64 col, .int .i64 e1, .int .i64 e2, .int .i64 x, .slice av nv cv] 34 (0, 0)) := by
    have := heap_alloc_new (w.alloc (.cells #[.pointer (some ⟨g, 0, none⟩), .pointer (some ⟨r, 0, none⟩)] 64)) (.cells #[.int .i64 8, .int .i64 on, .int .i64 row, .int .i64 col, .int .i64 e1, .int .i64 e2, .int .i64 x, .slice av nv cv] 34)
    rw [hw0]
    simpa using this
  rw [← hw0]
  obtain ⟨kp, hkp⟩ : ∃ k, k = w.heap.size := ⟨_, rfl⟩
  obtain ⟨ks, hks⟩ : ∃ k, k = w.heap.size + 1 := ⟨_, rfl⟩
  rw [← hks] at hq0 ⊢
  rw [← hkp] at hp0 ⊢
  have HP0 := hide hp0
  have HQ0 := hide hq0
  obtain ⟨o0, ho0⟩ : ∃ o, o = ext own w.heap.size 0 := ⟨_, rfl⟩
  have H0 : Hid (Bw w0 gw M o0 G n C C L) := ho0 ▸ hide (HH.out.later B0)
  have K00 : Hid (K0 own w o0 w0) := ho0 ▸ hide (K0.later B0)
  have zp : Hid (o0 kp = 0) := by rw [ho0]; exact hide (ext_new (by omega))
  have zs : Hid (o0 ks = 0) := by rw [ho0]; exact hide (ext_new (by omega))
  clear hw0 hp0 hq0 hkp hks ho0 HH B0
  have CS : Hid (∀ W : World, W.heap[kp]? = w0.heap[kp]? → W.heap[ks]? = w0.heap[ks]? → W.cell? ⟨kp, 0, none⟩ = some (.pointer (some ⟨g, 0, none⟩)) ∧ W.cell? ⟨kp, 1, none⟩ = some (.pointer (some ⟨r, 0, none⟩)) ∧ W.cell? ⟨ks, 0, none⟩ = some (.int .i64 8) ∧ W.cell? ⟨ks, 2, none⟩ = some (.int .i64 row) ∧ W.cell? ⟨ks, 3, none⟩ = some (.int .i64 col) ∧ W.cell? ⟨ks, 4, none⟩ = some (.int .i64 e1) ∧ W.cell? ⟨ks, 5, none⟩ = some (.int .i64 e2) ∧ W.cell? ⟨ks, 6, none⟩ = some (.int .i64 x)) := fun W h1 h2 => by
    have h3 := h1.trans HP0.out
    have h4 := h2.trans HQ0.out
    refine ⟨?_, ?_, ?_, ?_, ?_, ?_, ?_, ?_⟩
    · rw [cell_of_row W kp _ _ 64 (0, 0) h3]; rfl
    · rw [cell_of_row W kp _ _ 64 (0, 0) h3]; rfl
    all_goals rw [cell_of_row W ks _ _ 34 (0, 0) h4]; rfl
  have CB : Hid (∀ W : World, Below w0.heap.size w0 W → W.cell? ⟨kp, 0, none⟩ = some (.pointer (some ⟨g, 0, none⟩)) ∧ W.cell? ⟨kp, 1, none⟩ = some (.pointer (some ⟨r, 0, none⟩)) ∧ W.cell? ⟨ks, 0, none⟩ = some (.int .i64 8) ∧ W.cell? ⟨ks, 2, none⟩ = some (.int .i64 row) ∧ W.cell? ⟨ks, 3, none⟩ = some (.int .i64 col) ∧ W.cell? ⟨ks, 4, none⟩ = some (.int .i64 e1) ∧ W.cell? ⟨ks, 5, none⟩ = some (.int .i64 e2) ∧ W.cell? ⟨ks, 6, none⟩ = some (.int .i64 x)) := fun W hW => CS.out W (hW.block kp (lt_of_block HP0.out)) (hW.block ks (lt_of_block HQ0.out))
  obtain ⟨c0, c1, c2, c3, c4, c5, c6, c7⟩ := CB.out w0 (Below.refl _ _)
  have CK : Hid (∀ w', Below w0.heap.size w0 w' → w'.cell? ⟨kp, 0, none⟩ = some (.pointer (some ⟨g, 0, none⟩)) ∧ w'.cell? ⟨kp, 1, none⟩ = some (.pointer (some ⟨r, 0, none⟩)) ∧ w'.cell? ⟨ks, 4, none⟩ = some (.int .i64 e1) ∧ w'.cell? ⟨ks, 5, none⟩ = some (.int .i64 e2)) := fun w' b3 => by
    obtain ⟨d0, d1, -, d3, d4, d5, d6, d7⟩ := CB.out w' b3
    exact ⟨d0, d1, d5, d6⟩
  have J1 : Hid (Calls Try.prog 11 #[.pointer (some ⟨g, 0, none⟩), .agg #[.int .i64 e1, .int .i64 e2]] w0.drew fun e w' => ∃ q, e = .returned (.int .i64 q) ∧ Hid (Fnd (C i).1 (e1, e2) q ∧ Below w0.heap.size w0 w') ∧ w'.cell? ⟨kp, 0, none⟩ = some (.pointer (some ⟨g, 0, none⟩)) ∧ w'.cell? ⟨kp, 1, none⟩ = some (.pointer (some ⟨r, 0, none⟩)) ∧ w'.cell? ⟨ks, 4, none⟩ = some (.int .i64 e1) ∧ w'.cell? ⟨ks, 5, none⟩ = some (.int .i64 e2)) := by
    obtain ⟨m, hm, ht⟩ := H0.out.1 i hi
    have hc := find_any (ht.later (below_drew w0)) e1 e2 hE
    rw [← HG.out] at hc
    refine hc.mono ?_
    rintro e w' ⟨q, rfl, b1, b2⟩
    have b3 := below_on (below_drew w0) b2
    exact ⟨q, rfl, ⟨b1, b3⟩, CK.out w' b3⟩
  have J2 : Hid (∀ W q, Hid (Fnd (C i).1 (e1, e2) q ∧ Below w0.heap.size w0 W) → Calls Try.prog 37 #[.pointer (some ⟨r, 0, none⟩), .agg #[.int .i64 e1, .int .i64 e2]] W fun e w' => e = .returned (.int .i64 q) ∧ Hid (Below w0.heap.size w0 w') ∧ w'.cell? ⟨kp, 0, none⟩ = some (.pointer (some ⟨g, 0, none⟩)) ∧ w'.cell? ⟨kp, 1, none⟩ = some (.pointer (some ⟨r, 0, none⟩)) ∧ w'.cell? ⟨ks, 4, none⟩ = some (.int .i64 e1) ∧ w'.cell? ⟨ks, 5, none⟩ = some (.int .i64 e2)) := fun W q ⟨b0, b1⟩ => by
    obtain ⟨m, hm, ht⟩ := H0.out.1 i hi
    have hc := dfind_any (Dt.later (H0.out.2.1 i hi) b1) e1 e2
    rw [← HR.out] at hc
    refine hc.mono ?_
    rintro e w' ⟨q', rfl, b2, b3⟩
    have b4 := below_on b1 b3
    obtain rfl := fnd_uniq ht b0 b2
    exact ⟨rfl, b4, CK.out w' b4⟩
  have J3 : Hid (∀ W, Hid (Below w0.heap.size w0 W) → Calls Try.prog 14 #[.pointer (some ⟨g, 0, none⟩)] W fun e w' => e = .returned (.int .i64 ((C i).1.length : Int)) ∧ Hid (Below w0.heap.size w0 w') ∧ w'.cell? ⟨kp, 0, none⟩ = some (.pointer (some ⟨g, 0, none⟩)) ∧ w'.cell? ⟨kp, 1, none⟩ = some (.pointer (some ⟨r, 0, none⟩)) ∧ w'.cell? ⟨ks, 4, none⟩ = some (.int .i64 e1) ∧ w'.cell? ⟨ks, 5, none⟩ = some (.int .i64 e2)) := fun W b1 => by
    obtain ⟨m, hm, ht⟩ := H0.out.1 i hi
    have hc := len_any (ht.later b1.out)
    rw [← HG.out] at hc
    refine hc.mono ?_
    rintro e w' ⟨rfl, rfl⟩
    exact ⟨rfl, b1, CK.out w' b1.out⟩
  have J4 : Hid (∀ W, Hid (Below w0.heap.size w0 W) → Calls Try.prog 38 #[.pointer (some ⟨r, 0, none⟩)] W fun e w' => e = .returned (.int .i64 ((C i).1.length : Int)) ∧ Hid (Below w0.heap.size w0 w') ∧ w'.cell? ⟨kp, 0, none⟩ = some (.pointer (some ⟨g, 0, none⟩)) ∧ w'.cell? ⟨kp, 1, none⟩ = some (.pointer (some ⟨r, 0, none⟩)) ∧ w'.cell? ⟨ks, 4, none⟩ = some (.int .i64 e1) ∧ w'.cell? ⟨ks, 5, none⟩ = some (.int .i64 e2)) := fun W b1 => by
    have hc := dlen_any (Dt.later (H0.out.2.1 i hi) b1.out)
    rw [← HR.out] at hc
    refine hc.mono ?_
    rintro e w' ⟨rfl, rfl⟩
    exact ⟨rfl, b1, CK.out w' b1.out⟩
  generalize (C i).1.length = len at *
  clear CS CB HP0 HQ0 zp zs CK
  go_upto_region 23 with fail
  go_region_held3 (fun W => W.cell? ⟨kp, 0, none⟩ = some (.pointer (some ⟨g, 0, none⟩)) ∧ W.cell? ⟨kp, 1, none⟩ = some (.pointer (some ⟨r, 0, none⟩)) ∧ W.cell? ⟨ks, 4, none⟩ = some (.int .i64 e1) ∧ W.cell? ⟨ks, 5, none⟩ = some (.int .i64 e2)) (go_keep) (first | (go_at_call 11; refine J1.out.mono ?_; rintro e w1 ⟨q, rfl, HA, d0, d1, d3, d4⟩) | (go_at_call 37; refine (J2.out _ _ HA).mono ?_; rintro e w2 ⟨rfl, HB, f0, f1, f3, f4⟩) | (go_at_call 14; refine (J3.out _ HB).mono ?_; rintro e w3 ⟨rfl, HC, i0, i1, i3, i4⟩) | (go_at_call 38; refine (J4.out _ HC).mono ?_; rintro e w4 ⟨rfl, HD, m0, m1, m3, m4⟩))
  go_wp2_with fail
  go_ret
  exact ⟨rfl, _, L, C i, by rw [upd_same]; exact H0.out.later HD.out, by omega, K00.out.trans (K0.later HD.out)⟩
end
end Go.Proofs.Ytlnjphfkinajdaa
