/-
  The law's asked.
-/
import Derived.Test.YtlnjphfkinajdaaAs0
namespace Go.Proofs.Ytlnjphfkinajdaa
open Go.RowKit
section
variable {w : World} {own : Nat → Nat} {gw i n M : Nat} {G : Nat → Nat × Nat} {C : Nat → Ts} {L : List Held}
set_option maxHeartbeats 40000000 in
set_option maxRecDepth 1000000 in
theorem asked_5 (h : Bw w gw M own G n C C L) (hi : i < n) (on row col e1 e2 x : Int) (av : Option Addr) (nv cv : Nat) :
    Calls Try.prog 24 #[.pointer (some ⟨gw, 0, none⟩), .agg #[.pointer (some ⟨(G i).1, 0, none⟩), .pointer (some ⟨(G i).2, 0, none⟩)], .agg #[.int .i64 5, .int .i64 on, .int .i64 row, .int .i64 col, .int .i64 e1, .int .i64 e2, .int .i64 x, .slice av nv cv]] w fun e w' => e = .returned (.bool true) ∧ Ga w own gw i n M G C (L.length + 4) w' := by
  have HH := hide h
  obtain ⟨g, hg⟩ : ∃ g, g = (G i).1 := ⟨_, rfl⟩
  obtain ⟨r, hr⟩ : ∃ r, r = (G i).2 := ⟨_, rfl⟩
  rw [← hg, ← hr]
  have HG := hide hg
  have HR := hide hr
  clear h hg hr
  go_enter Try.func24, Try.ntmps24
  go_upto_region 1 with fail
  obtain ⟨w0, hw0⟩ : ∃ X, X = (w.alloc (.cells #[.pointer (some ⟨g, 0, none⟩), .pointer (some ⟨r, 0, none⟩)] 64)).alloc (.cells #[.int .i64 5, .int .i64 on, .int .i64 row, .int .i64 col, .int .i64 e1, .int .i64 e2, .int .i64 x, .slice av nv cv] 34) := ⟨_, rfl⟩
  have B0 : Below w.heap.size w w0 := hw0 ▸ below_on (below_alloc w _) (below_alloc _ _)
  have hp0 : w0.heap[w.heap.size]? = some (.cells #[.pointer (some ⟨g, 0, none⟩), .pointer (some ⟨r, 0, none⟩)] 64 (0, 0)) := by
    rw [hw0]
    exact (heap_alloc_old _ _ (by simp)).trans (heap_alloc_new w _)
  have hq0 : w0.heap[w.heap.size + 1]? = some (.cells #[.int .i64 5, .int .i64 on, .int .i64 row, .int .i64 col, .int .i64 e1, .int .i64 e2, .int .i64 x, .slice av nv cv] 34 (0, 0)) := by
    have := heap_alloc_new (w.alloc (.cells #[.pointer (some ⟨g, 0, none⟩), .pointer (some ⟨r, 0, none⟩)] 64)) (.cells #[.int .i64 5, .int .i64 on, .int .i64 row, .int .i64 col, .int .i64 e1, .int .i64 e2, .int .i64 x, .slice av nv cv] 34)
    rw [hw0]
    simpa using this
  rw [← hw0]
  obtain ⟨kp, hkp⟩ : ∃ k, k = w.heap.size := ⟨_, rfl⟩
  obtain ⟨ks, hks⟩ : ∃ k, k = w.heap.size + 1 := ⟨_, rfl⟩
  rw [← hks] at hq0 ⊢
  rw [← hkp] at hp0 ⊢
  have HP0 := hide hp0
  have HQ0 := hide hq0
  obtain ⟨o0, ho0⟩ : ∃ o, o = ext own w.heap.size 0 := ⟨_, rfl⟩
  have H0 : Hid (Bw w0 gw M o0 G n C C L) := ho0 ▸ hide (HH.out.later B0)
  have K00 : Hid (K0 own w o0 w0) := ho0 ▸ hide (K0.later B0)
  have zp : Hid (o0 kp = 0) := by rw [ho0]; exact hide (ext_new (by omega))
  have zs : Hid (o0 ks = 0) := by rw [ho0]; exact hide (ext_new (by omega))
  clear hw0 hp0 hq0 hkp hks ho0 HH B0
  have CS : Hid (∀ W : World, W.heap[kp]? = w0.heap[kp]? → W.heap[ks]? = w0.heap[ks]? → W.cell? ⟨kp, 0, none⟩ = some (.pointer (some ⟨g, 0, none⟩)) ∧ W.cell? ⟨kp, 1, none⟩ = some (.pointer (some ⟨r, 0, none⟩)) ∧ W.cell? ⟨ks, 0, none⟩ = some (.int .i64 5) ∧ W.cell? ⟨ks, 2, none⟩ = some (.int .i64 row) ∧ W.cell? ⟨ks, 3, none⟩ = some (.int .i64 col) ∧ W.cell? ⟨ks, 4, none⟩ = some (.int .i64 e1) ∧ W.cell? ⟨ks, 5, none⟩ = some (.int .i64 e2) ∧ W.cell? ⟨ks, 6, none⟩ = some (.int .i64 x)) := fun W h1 h2 => by
    have h3 := h1.trans HP0.out
    have h4 := h2.trans HQ0.out
    refine ⟨?_, ?_, ?_, ?_, ?_, ?_, ?_, ?_⟩
    · rw [cell_of_row W kp _ _ 64 (0, 0) h3]; rfl
    · rw [cell_of_row W kp _ _ 64 (0, 0) h3]; rfl
    all_goals rw [cell_of_row W ks _ _ 34 (0, 0) h4]; rfl
  have CB : Hid (∀ W : World, Below w0.heap.size w0 W → W.cell? ⟨kp, 0, none⟩ = some (.pointer (some ⟨g, 0, none⟩)) ∧ W.cell? ⟨kp, 1, none⟩ = some (.pointer (some ⟨r, 0, none⟩)) ∧ W.cell? ⟨ks, 0, none⟩ = some (.int .i64 5) ∧ W.cell? ⟨ks, 2, none⟩ = some (.int .i64 row) ∧ W.cell? ⟨ks, 3, none⟩ = some (.int .i64 col) ∧ W.cell? ⟨ks, 4, none⟩ = some (.int .i64 e1) ∧ W.cell? ⟨ks, 5, none⟩ = some (.int .i64 e2) ∧ W.cell? ⟨ks, 6, none⟩ = some (.int .i64 x)) := fun W hW => CS.out W (hW.block kp (lt_of_block HP0.out)) (hW.block ks (lt_of_block HQ0.out))
  obtain ⟨c0, c1, c2, c3, c4, c5, c6, c7⟩ := CB.out w0 (Below.refl _ _)
  have CK : Hid (∀ (own' : Nat → Nat) (w' : World), K0 o0 w0 own' w' → w'.cell? ⟨kp, 0, none⟩ = some (.pointer (some ⟨g, 0, none⟩)) ∧ w'.cell? ⟨kp, 1, none⟩ = some (.pointer (some ⟨r, 0, none⟩)) ∧ w'.cell? ⟨ks, 2, none⟩ = some (.int .i64 row) ∧ w'.cell? ⟨ks, 3, none⟩ = some (.int .i64 col) ∧ w'.cell? ⟨ks, 6, none⟩ = some (.int .i64 x)) := fun own' w' b3 => by
    obtain ⟨d0, d1, -, d3, d4, -, -, d7⟩ := CS.out w' (b3.1.2.2.2.2 kp (lt_of_block HP0.out) (fun e => e zp.out)) (b3.1.2.2.2.2 ks (lt_of_block HQ0.out) (fun e => e zs.out))
    exact ⟨d0, d1, d3, d4, d7⟩
  have J1 : Hid (Calls Try.prog 18 #[.pointer (some ⟨g, 0, none⟩), .int .i64 row, .int .i64 col, .int .i64 x] w0.drew fun e w' => e = .returned (.int .i64 (atS (C i).1.length (C i).2.length row col)) ∧ Hid (∃ own', Bw w' gw M own' G n (upd C i ((C i).1, setS (C i).1.length (C i).2 row col x)) C L ∧ K0 o0 w0 own' w') ∧ w'.cell? ⟨kp, 0, none⟩ = some (.pointer (some ⟨g, 0, none⟩)) ∧ w'.cell? ⟨kp, 1, none⟩ = some (.pointer (some ⟨r, 0, none⟩)) ∧ w'.cell? ⟨ks, 2, none⟩ = some (.int .i64 row) ∧ w'.cell? ⟨ks, 3, none⟩ = some (.int .i64 col) ∧ w'.cell? ⟨ks, 6, none⟩ = some (.int .i64 x)) := by
    have hb := H0.out.later (below_drew w0)
    have hk := (K0.later (own := o0) (below_drew w0))
    have hc := set_code hb hi row col x
    rw [← HG.out] at hc
    refine hc.mono ?_
    rintro e w' ⟨rfl, own', b1, b2⟩
    exact ⟨rfl, ⟨own', b1, hk.trans b2⟩, CK.out own' w' (hk.trans b2)⟩
  have J2 : Hid (∀ W, Hid (∃ own', Bw W gw M own' G n (upd C i ((C i).1, setS (C i).1.length (C i).2 row col x)) C L ∧ K0 o0 w0 own' W) → Calls Try.prog 33 #[.pointer (some ⟨r, 0, none⟩), .int .i64 row, .int .i64 col, .int .i64 x] W fun e w' => e = .returned (.int .i64 (atS (C i).1.length (C i).2.length row col)) ∧ Hid (Ga w own gw i n M G C (L.length + 4) w') ∧ w'.cell? ⟨kp, 0, none⟩ = some (.pointer (some ⟨g, 0, none⟩)) ∧ w'.cell? ⟨kp, 1, none⟩ = some (.pointer (some ⟨r, 0, none⟩)) ∧ w'.cell? ⟨ks, 2, none⟩ = some (.int .i64 row) ∧ w'.cell? ⟨ks, 3, none⟩ = some (.int .i64 col) ∧ w'.cell? ⟨ks, 6, none⟩ = some (.int .i64 x)) := fun W ⟨own1, b1, b2⟩ => by
    have hc := set_doc b1 hi row col x
    rw [← HR.out] at hc
    refine hc.mono ?_
    rintro e w' ⟨rfl, own', b3, b4⟩
    exact ⟨rfl, ⟨own', L, _, b3, by omega, K00.out.trans (b2.trans b4)⟩, CK.out own' w' (b2.trans b4)⟩
  generalize atS (C i).1.length (C i).2.length row col = z at *
  clear CS CB HP0 HQ0 H0 K00 zp zs CK
  go_upto_region 7 with fail
  go_region_held3 (fun W => W.cell? ⟨kp, 0, none⟩ = some (.pointer (some ⟨g, 0, none⟩)) ∧ W.cell? ⟨kp, 1, none⟩ = some (.pointer (some ⟨r, 0, none⟩)) ∧ W.cell? ⟨ks, 2, none⟩ = some (.int .i64 row) ∧ W.cell? ⟨ks, 3, none⟩ = some (.int .i64 col) ∧ W.cell? ⟨ks, 6, none⟩ = some (.int .i64 x)) (go_keep) (first | (go_at_call 18; refine J1.out.mono ?_; rintro e w1 ⟨rfl, HA, d0, d1, d3, d4, d7⟩) | (go_at_call 33; refine (J2.out _ HA).mono ?_; rintro e w2 ⟨rfl, HB, f0, f1, f3, f4, f7⟩))
  go_wp2_with fail
  go_ret
  exact ⟨rfl, HB.out⟩
end
end Go.Proofs.Ytlnjphfkinajdaa
