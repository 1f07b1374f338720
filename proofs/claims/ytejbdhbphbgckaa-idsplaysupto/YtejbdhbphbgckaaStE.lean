/-
  The law's step: Clone.
-/
import Derived.Test.YtejbdhbphbgckaaBoth
import Derived.Test.YtejbdhbphbgckaaCloned
import Derived.Test.YtejbdhbphbgckaaDocClone
namespace Go.Proofs.Ytejbdhbphbgckaa
open Go.RowKit
theorem al_block {W w' : World} {o : Obj} (hb : Below (W.alloc o).heap.size (W.alloc o) w') : w'.heap[W.heap.size]? = (W.alloc o).heap[W.heap.size]? := hb.block _ (by simp)
theorem al_row {W w' : World} {x y : Value} (hb : Below (W.alloc (.cells #[x, y] 28)).heap.size (W.alloc (.cells #[x, y] 28)) w') : w'.heap[W.heap.size]? = some (.cells #[x, y] 28 (0, 0)) := (al_block hb).trans (heap_alloc_new W _)
theorem row2 {W : World} {k : Nat} {x y : Value} (h : W.heap[k]? = some (.cells #[x, y] 28 (0, 0))) : W.cell? ⟨k, 0, none⟩ = some x ∧ W.cell? ⟨k, 1, none⟩ = some y ∧ W.frozen? ⟨k, 0, none⟩ = false ∧ W.frozen? ⟨k, 1, none⟩ = false :=
  ⟨by rw [cell_of_row W k _ _ 28 (0, 0) h]; rfl, by rw [cell_of_row W k _ _ 28 (0, 0) h]; rfl, frozen_of_row W k _ _ 28 h, frozen_of_row W k _ _ 28 h⟩
set_option maxHeartbeats 40000000 in
set_option maxRecDepth 1000000 in
theorem step_7 (gw B : Nat) (own : Nat → Nat) (G : Nat → Nat × Nat) (C : Nat → St) (L : List Held) (w : World) (nn a ei eg : Int) (ag af : Option Addr) (ng cg nf cf : Nat) (h : Bw w gw own G C C L) (hF : Fe own B w) (_hL : L.length ≤ 1000000) (hn0 : -9223372036854775808 ≤ nn) (hn1 : nn ≤ 9223372036854775807) :
    Calls Try.prog 8 #[.pointer (some ⟨gw, 0, none⟩), .agg #[.int .i64 7, .int .i64 nn, .int .i64 a, .int .i64 ei, .int .i64 eg, .slice ag ng cg, .slice af nf cf]] w fun e w' => e = .returned (.bool true) ∧ Go1 w gw B (L.length + 8) w' := by
  have HH := hide h
  have HF := hide hF
  have JP : Hid (∀ W : World, Calls Try.prog 11 #[.int .i64 nn, .int .i64 2] W fun e w' => e = .returned (.int .i64 (pk nn 2 : Int)) ∧ w' = W) := fun W => pick_any nn 2 W hn0 hn1 (by omega) (by omega)
  have hi : pk nn 2 < 2 := pk_lt nn (by omega)
  generalize pk nn 2 = i at *
  have CG : Hid (∀ W, Below w.heap.size w W → W.cell? ⟨gw, i * 2, none⟩ = some (.pointer (some ⟨(G i).1, 0, none⟩)) ∧ W.cell? ⟨gw, i * 2 + 1, none⟩ = some (.pointer (some ⟨(G i).2, 0, none⟩))) := fun W hb => ((h.bu hF).later hb).pair hi
  have ti : (i : Int) < 2 := by omega
  clear h hF hn0 hn1
  go_enter Try.func8, Try.ntmps8
  go_upto_region 1 with fail
  obtain ⟨w0, hw0⟩ : ∃ X, X = w.alloc (.cells #[.int .i64 7, .int .i64 nn, .int .i64 a, .int .i64 ei, .int .i64 eg, .slice ag ng cg, .slice af nf cf] 43) := ⟨_, rfl⟩
  have B0 : Below w.heap.size w w0 := hw0 ▸ below_alloc w _
  have hx0 : w0.heap[w.heap.size]? = some (.cells #[.int .i64 7, .int .i64 nn, .int .i64 a, .int .i64 ei, .int .i64 eg, .slice ag ng cg, .slice af nf cf] 43 (0, 0)) := hw0 ▸ heap_alloc_new w _
  have hs0 : w0.heap.size = w.heap.size + 1 := by rw [hw0]; simp
  rw [← hw0]
  clear hw0
  obtain ⟨kx, hkx⟩ : ∃ k, k = w.heap.size := ⟨_, rfl⟩
  rw [← hkx] at hx0 ⊢
  have HKX := hide hkx
  have c1 : w0.cell? ⟨kx, 1, none⟩ = some (.int .i64 nn) := by rw [cell_of_row w0 kx _ _ 43 (0, 0) hx0]; rfl
  have HX0 := hide hx0
  have HS0 := hide hs0
  clear hkx hx0 hs0
  go_wp2_with fail
  refine (JP.out w0).mono ?_
  rintro e w0' ⟨rfl, rfl⟩
  obtain ⟨g0, g1⟩ := CG.out _ B0
  obtain ⟨g, hg⟩ : ∃ g, g = (G i).1 := ⟨_, rfl⟩
  obtain ⟨r, hr⟩ : ∃ r, r = (G i).2 := ⟨_, rfl⟩
  rw [← hg] at g0
  rw [← hr] at g1
  have HGG := hide hg
  have HRR := hide hr
  clear hg hr
  go_upto_region 3 with fail
  obtain ⟨w0, rfl⟩ : ∃ X, X = w0' := ⟨_, rfl⟩
  obtain ⟨w1, hw1⟩ : ∃ X, X = w0.alloc (.cells #[.pointer (some ⟨g, 0, none⟩), .pointer (some ⟨r, 0, none⟩)] 28) := ⟨_, rfl⟩
  have B1 : Below w.heap.size w w1 := below_on B0 (hw1 ▸ below_alloc w0 _)
  have hx1 : w1.heap[w0.heap.size]? = some (.cells #[.pointer (some ⟨g, 0, none⟩), .pointer (some ⟨r, 0, none⟩)] 28 (0, 0)) := hw1 ▸ heap_alloc_new w0 _
  have hy1 : w1.heap[kx]? = some (.cells #[.int .i64 7, .int .i64 nn, .int .i64 a, .int .i64 ei, .int .i64 eg, .slice ag ng cg, .slice af nf cf] 43 (0, 0)) := by
    have := HKX.out; have := HS0.out
    rw [hw1]
    exact (heap_alloc_old w0 _ (by omega)).trans HX0.out
  rw [← hw1]
  clear hw1 c1 g0 g1
  obtain ⟨kp, hkp⟩ : ∃ k, k = w0.heap.size := ⟨_, rfl⟩
  rw [← hkp] at hx1 ⊢
  have hlab : ext own w.heap.size 6 kx = 6 ∧ ext own w.heap.size 6 kp = 6 := ⟨K6.new (w := w) (Nat.le_of_eq HKX.out.symm), K6.new (w := w) (by rw [hkp]; exact B0.size)⟩
  have HLX := hide hlab.1
  have HLP := hide hlab.2
  have p0 : w1.cell? ⟨kp, 0, none⟩ = some (.pointer (some ⟨g, 0, none⟩)) := by rw [cell_of_row w1 kp _ _ 28 (0, 0) hx1]; rfl
  have p1 : w1.cell? ⟨kp, 1, none⟩ = some (.pointer (some ⟨r, 0, none⟩)) := by rw [cell_of_row w1 kp _ _ 28 (0, 0) hx1]; rfl
  have q0 : w1.cell? ⟨kx, 0, none⟩ = some (.int .i64 7) := by rw [cell_of_row w1 kx _ _ 43 (0, 0) hy1]; rfl
  have q1 : w1.cell? ⟨kx, 1, none⟩ = some (.int .i64 nn) := by rw [cell_of_row w1 kx _ _ 43 (0, 0) hy1]; rfl
  have q2 : w1.cell? ⟨kx, 2, none⟩ = some (.int .i64 a) := by rw [cell_of_row w1 kx _ _ 43 (0, 0) hy1]; rfl
  have q3 : w1.cell? ⟨kx, 3, none⟩ = some (.int .i64 ei) := by rw [cell_of_row w1 kx _ _ 43 (0, 0) hy1]; rfl
  have q4 : w1.cell? ⟨kx, 4, none⟩ = some (.int .i64 eg) := by rw [cell_of_row w1 kx _ _ 43 (0, 0) hy1]; rfl
  have q5 : w1.cell? ⟨kx, 5, none⟩ = some (.slice ag ng cg) := by rw [cell_of_row w1 kx _ _ 43 (0, 0) hy1]; rfl
  have q6 : w1.cell? ⟨kx, 6, none⟩ = some (.slice af nf cf) := by rw [cell_of_row w1 kx _ _ 43 (0, 0) hy1]; rfl
  have H1 := hide (HH.out.later B1)
  have F1 := hide (HF.out.ext B1.size 6)
  obtain ⟨o1, ho1⟩ : ∃ o, o = ext own w.heap.size 6 := ⟨_, rfl⟩
  rw [← ho1] at H1 F1 HLX HLP
  clear hkp ho1 hx1 hy1 HX0 HS0 JP
  have CP : ∀ W, Below w1.heap.size w1 W → W.cell? ⟨kp, 0, none⟩ = some (.pointer (some ⟨g, 0, none⟩)) ∧ W.cell? ⟨kp, 1, none⟩ = some (.pointer (some ⟨r, 0, none⟩)) ∧ W.heap.size ≠ kp := fun W hb => by
    have c0 := (hb.cell (p := ⟨kp, 0, none⟩) (World.block_lt_of_cell? w1 _ p0)).trans p0
    exact ⟨c0, (hb.cell (p := ⟨kp, 1, none⟩) (World.block_lt_of_cell? w1 _ p1)).trans p1, Nat.ne_of_gt (World.block_lt_of_cell? W _ c0)⟩
  have A1 : Hid (∀ W, Below w1.heap.size w1 W → Calls Try.prog 24 #[.pointer (some ⟨g, 0, none⟩)] W fun e w' => ∃ g', e = .returned (.pointer (some ⟨g', 0, none⟩)) ∧ Hid (PlS w' (fun k => W.heap.size ≤ k ∧ k < w'.heap.size) g' (C i) ∧ Below w1.heap.size w1 w' ∧ Below W.heap.size W w') ∧ w'.cell? ⟨kp, 0, none⟩ = some (.pointer (some ⟨g, 0, none⟩)) ∧ w'.cell? ⟨kp, 1, none⟩ = some (.pointer (some ⟨r, 0, none⟩)) ∧ w'.heap.size ≠ kp) := fun W hb => by
    rw [HGG.out]
    refine (cloned_any ((H1.out.1 i hi).later hb)).mono (fun e w' ⟨g', h1, h2, h3⟩ => ?_)
    rw [← HGG.out]
    exact ⟨g', h1, ⟨Pl.tight h2, below_on hb h3, h3⟩, CP _ (below_on hb h3)⟩
  have A4 : Hid (∀ (W0 W : World) (g' b : Nat), PlS W0 (fun k => b ≤ k ∧ k < W0.heap.size) g' (C i) ∧ Below w1.heap.size w1 W0 → Below W0.heap.size W0 W → Calls Try.prog 25 #[.pointer (some ⟨r, 0, none⟩)] W fun e w' => ∃ r', e = .returned (.pointer (some ⟨r', 0, none⟩)) ∧ Hid ((Below w1.heap.size w1 w' ∧ PlS w' (fun k => b ≤ k ∧ k < W0.heap.size) g' (C i) ∧ DlS w' (fun k => W.heap.size ≤ k) r' (C i) ∧ W0.heap.size ≤ W.heap.size) ∧ Below W.heap.size W w') ∧ w'.cell? ⟨kp, 0, none⟩ = some (.pointer (some ⟨g, 0, none⟩)) ∧ w'.cell? ⟨kp, 1, none⟩ = some (.pointer (some ⟨r, 0, none⟩)) ∧ w'.heap.size ≠ kp) := fun W0 W g' b ⟨hp, hb⟩ hb2 => by
    have hb3 := below_on hb hb2
    rw [HRR.out]
    refine (dcloned_any ((H1.out.2.1 i hi).later hb3)).mono (fun e w' ⟨r', h1, h2, h3⟩ => ?_)
    rw [← HRR.out]
    exact ⟨r', h1, ⟨⟨below_on hb3 h3, Pl.later hp (below_on hb2 h3), h2, hb2.size⟩, h3⟩, CP _ (below_on hb3 h3)⟩
  have D0 := below_drew w1
  have D1 := below_on (below_drew w1) (below_alloc w1.drew (.cells #[.pointer none, .pointer none] 28))
  have n1 : w1.heap.size ≠ kp := (CP w1 (Below.refl _ _)).2.2
  clear CP q1 q2 q3 q4 q5 q6
  go_upto_region 26 with fail
  go_region_held3 (fun W => W.cell? ⟨kp, 0, none⟩ = some (.pointer (some ⟨g, 0, none⟩)) ∧ W.cell? ⟨kp, 1, none⟩ = some (.pointer (some ⟨r, 0, none⟩))) (go_keep) (first | (go_at_call 24; first | (refine (A1.out _ D0).mono ?_; rintro e w2 ⟨g', rfl, HC1, d0, d1, d2⟩) | (refine (A1.out _ D1).mono ?_; rintro e w2 ⟨g', rfl, HC1, d0, d1, d2⟩; have HK : Hid (w2.heap[w1.heap.size]? = some (.cells #[.pointer none, .pointer none] 28 (0, 0))) := al_row (W := w1.drew) HC1.out.2.2; obtain ⟨c0, c1, f0, f1⟩ := row2 HK.out)) | (go_at_call 25; first | (refine (A4.out _ _ _ _ ⟨HC1.out.1, HC1.out.2.1⟩ (Below.refl _ _)).mono ?_; rintro e w3 ⟨r', rfl, HE, e0, e1, e2⟩; first | (have HK2 : Hid (w3.heap[w1.heap.size]? = some (.cells #[.pointer none, .pointer none] 28 (0, 0))) := (HE.out.2.block _ (lt_of_block HK.out)).trans HK.out; obtain ⟨b0, b1, g0, g1⟩ := row2 HK2.out) | skip) | (refine (A4.out _ _ _ _ ⟨HC1.out.1, HC1.out.2.1⟩ (below_alloc _ _)).mono ?_; rintro e w3 ⟨r', rfl, HE, e0, e1, e2⟩; have HK2 : Hid (w3.heap[w2.heap.size]? = some (.cells #[.pointer none, .pointer none] 28 (0, 0))) := al_row (W := w2) HE.out.2; obtain ⟨b0, b1, g0, g1⟩ := row2 HK2.out)))
  · obtain ⟨⟨HB0, HPl0, HDl0, hle⟩, hbw⟩ := HE.out
    have s1 := HC1.out.2.1.size
    have s2 := hbw.size
    obtain ⟨Wf, hWf⟩ : ∃ X, X = w3.alloc (.cells #[.pointer (some ⟨g', 0, none⟩), .pointer (some ⟨r', 0, none⟩)] 28) := ⟨_, rfl⟩
    have hbf : Below w3.heap.size w3 Wf := hWf ▸ below_alloc w3 _
    have HR : Wf.heap[w3.heap.size]? = some (.cells #[.pointer (some ⟨g', 0, none⟩), .pointer (some ⟨r', 0, none⟩)] 28 (0, 0)) := hWf ▸ heap_alloc_new w3 _
    have HB := below_on HB0 hbf
    have HPl := Pl.later HPl0 hbf
    have HDl := Dl.later HDl0 hbf
    rw [← hWf]
    have hT : ∀ k, (w1.heap.size ≤ k ∧ k < w2.heap.size) → w1.heap.size ≤ k := fun k e => e.1
    have hU : ∀ k, w2.heap.size ≤ k → w1.heap.size ≤ k ∧ ¬ (w1.heap.size ≤ k ∧ k < w2.heap.size) := fun k e => by omega
    clear hWf HPl0 HDl0 HB0 hbw hbf
    obtain ⟨kc, hkc⟩ : ∃ k, k = w3.heap.size := ⟨_, rfl⟩
    rw [← hkc] at HR ⊢
    obtain ⟨cf0, cf1, -, -⟩ := row2 HR
    have C3 : Below w.heap.size w Wf := below_on B1 HB
    obtain ⟨j, hj⟩ : ∃ j, j = 1 - i := ⟨_, rfl⟩
    have hj2 : j < 2 := by omega
    have tj : (1 : Int) - (i : Int) = (j : Int) := by omega
    have tj2 : (j : Int) < 2 := by omega
    have tw : IntKind.i64.wrap (j : Int) = (j : Int) := by rw [IntKind.wrap_i64]; omega
    obtain ⟨v1, v2, hv1, hv2, hv3, hv4⟩ : ∃ v1 v2, Wf.cell? ⟨gw, j * 2, none⟩ = some v1 ∧ Wf.cell? ⟨gw, j * 2 + 1, none⟩ = some v2 ∧ (∀ k, Wf.frozen? ⟨gw, k, none⟩ = false) ∧ (∀ v k, (Wf.setCell ⟨gw, j * 2, none⟩ v).frozen? ⟨gw, k, none⟩ = false) := by
      obtain ⟨a1, a2⟩ := ((HH.out.bu HF.out).later C3).pair hj2
      obtain ⟨-, -, vl, k1, -⟩ := HH.out.later C3
      exact ⟨_, _, a1, a2, fun k => frozen_of_row Wf gw _ _ 32 k1.1, fun v k => frozen_of_row _ gw _ _ 32 (heap_setCell_same Wf gw (j * 2) _ 32 v k1.1)⟩
    have hv5 : ∀ v, (Wf.setCell ⟨gw, j * 2, none⟩ v).cell? ⟨gw, j * 2 + 1, none⟩ = some v2 := fun v => (World.cell?_setCell_other (w := Wf) (a := ⟨gw, j * 2, none⟩) (v := v) (b := ⟨gw, j * 2 + 1, none⟩) (by intro e; injection e with _ e; omega)).trans hv2
    have HP := hide (And.intro HPl (And.intro HDl (And.intro hT hU)))
    clear HPl HDl hT hU hj hkc HE HC1 A1 A4
    go_upto_region 29 with fail
    go_region_law (fail)
    all_goals
      go_wp2_with fail
      go_ret
      obtain ⟨hp, hd, hT, hU⟩ := HP.out
      obtain ⟨z1, z2⟩ := HH.out.place hj2 (st := C i) (below_on C3 (below_drew Wf)) (hp.later (below_drew Wf)) (hd.later (below_drew Wf)) (fun k e => Nat.le_trans B1.size (hT k e)) (fun k e => Nat.le_trans B1.size (hU k e).1) (fun k e e' => (hU k e').2 e) HF.out
      exact ⟨rfl, upd G j (g', r'), upd C j (C i), L, z1, by omega, z2⟩
  · obtain ⟨⟨HB0, HPl0, HDl0, hle⟩, hbw⟩ := HE.out
    have s1 := HC1.out.2.1.size
    have s2 := hbw.size
    have s3 : (w2.alloc (.cells #[.pointer none, .pointer none] 28)).heap.size = w2.heap.size + 1 := by simp
    obtain ⟨Wf, hWf⟩ : ∃ X, X = (w3.setCell ⟨w2.heap.size, 0, none⟩ (.pointer (some ⟨g', 0, none⟩))).setCell ⟨w2.heap.size, 1, none⟩ (.pointer (some ⟨r', 0, none⟩)) := ⟨_, rfl⟩
    have HR : Wf.heap[w2.heap.size]? = some (.cells #[.pointer (some ⟨g', 0, none⟩), .pointer (some ⟨r', 0, none⟩)] 28 (0, 0)) := by
      rw [hWf]
      exact heap_setCell_same _ _ 1 _ 28 _ (heap_setCell_same w3 _ 0 _ 28 _ HK2.out)
    have hmv : Mv w3 Wf (fun k => k = w2.heap.size) := by rw [hWf]; exact Mv.set (S := fun k => k = w2.heap.size) (Mv.set (S := fun k => k = w2.heap.size) (Mv.refl _ _) rfl _ _) rfl _ _
    have HB : Below w1.heap.size w1 Wf := HB0.trans (hmv.below HB0.size (fun k e => by omega))
    have HPl := Pl.frame HPl0 hmv (fun k e e' => by omega)
    have HDl := Dl.frame HDl0 hmv (fun k e e' => by omega)
    rw [← hWf]
    have hT : ∀ k, (w1.heap.size ≤ k ∧ k < w2.heap.size) → w1.heap.size ≤ k := fun k e => by omega
    have hU : ∀ k, (w2.alloc (.cells #[.pointer none, .pointer none] 28)).heap.size ≤ k → w1.heap.size ≤ k ∧ ¬ (w1.heap.size ≤ k ∧ k < w2.heap.size) := fun k e => by omega
    clear hWf HPl0 HDl0 HB0 hbw hmv HK2
    obtain ⟨kc, hkc⟩ : ∃ k, k = w2.heap.size := ⟨_, rfl⟩
    rw [← hkc] at HR ⊢
    obtain ⟨cf0, cf1, -, -⟩ := row2 HR
    have C3 : Below w.heap.size w Wf := below_on B1 HB
    obtain ⟨j, hj⟩ : ∃ j, j = 1 - i := ⟨_, rfl⟩
    have hj2 : j < 2 := by omega
    have tj : (1 : Int) - (i : Int) = (j : Int) := by omega
    have tj2 : (j : Int) < 2 := by omega
    have tw : IntKind.i64.wrap (j : Int) = (j : Int) := by rw [IntKind.wrap_i64]; omega
    obtain ⟨v1, v2, hv1, hv2, hv3, hv4⟩ : ∃ v1 v2, Wf.cell? ⟨gw, j * 2, none⟩ = some v1 ∧ Wf.cell? ⟨gw, j * 2 + 1, none⟩ = some v2 ∧ (∀ k, Wf.frozen? ⟨gw, k, none⟩ = false) ∧ (∀ v k, (Wf.setCell ⟨gw, j * 2, none⟩ v).frozen? ⟨gw, k, none⟩ = false) := by
      obtain ⟨a1, a2⟩ := ((HH.out.bu HF.out).later C3).pair hj2
      obtain ⟨-, -, vl, k1, -⟩ := HH.out.later C3
      exact ⟨_, _, a1, a2, fun k => frozen_of_row Wf gw _ _ 32 k1.1, fun v k => frozen_of_row _ gw _ _ 32 (heap_setCell_same Wf gw (j * 2) _ 32 v k1.1)⟩
    have hv5 : ∀ v, (Wf.setCell ⟨gw, j * 2, none⟩ v).cell? ⟨gw, j * 2 + 1, none⟩ = some v2 := fun v => (World.cell?_setCell_other (w := Wf) (a := ⟨gw, j * 2, none⟩) (v := v) (b := ⟨gw, j * 2 + 1, none⟩) (by intro e; injection e with _ e; omega)).trans hv2
    have HP := hide (And.intro HPl (And.intro HDl (And.intro hT hU)))
    clear HPl HDl hT hU hj hkc HE HC1 A1 A4
    go_upto_region 29 with fail
    go_region_law (fail)
    all_goals
      go_wp2_with fail
      go_ret
      obtain ⟨hp, hd, hT, hU⟩ := HP.out
      obtain ⟨z1, z2⟩ := HH.out.place hj2 (st := C i) (below_on C3 (below_drew Wf)) (hp.later (below_drew Wf)) (hd.later (below_drew Wf)) (fun k e => Nat.le_trans B1.size (hT k e)) (fun k e => Nat.le_trans B1.size (hU k e).1) (fun k e e' => (hU k e').2 e) HF.out
      exact ⟨rfl, upd G j (g', r'), upd C j (C i), L, z1, by omega, z2⟩
  · obtain ⟨⟨HB0, HPl0, HDl0, hle⟩, hbw⟩ := HE.out
    have s1 := HC1.out.2.1.size
    have s2 := hbw.size
    have s3 : (w1.drew.alloc (.cells #[.pointer none, .pointer none] 28)).heap.size = w1.heap.size + 1 := by simp
    have s4 := HC1.out.2.2.size
    obtain ⟨Wf, hWf⟩ : ∃ X, X = (w3.setCell ⟨w1.heap.size, 0, none⟩ (.pointer (some ⟨g', 0, none⟩))).setCell ⟨w1.heap.size, 1, none⟩ (.pointer (some ⟨r', 0, none⟩)) := ⟨_, rfl⟩
    have HR : Wf.heap[w1.heap.size]? = some (.cells #[.pointer (some ⟨g', 0, none⟩), .pointer (some ⟨r', 0, none⟩)] 28 (0, 0)) := by
      rw [hWf]
      exact heap_setCell_same _ _ 1 _ 28 _ (heap_setCell_same w3 _ 0 _ 28 _ HK2.out)
    have hmv : Mv w3 Wf (fun k => k = w1.heap.size) := by rw [hWf]; exact Mv.set (S := fun k => k = w1.heap.size) (Mv.set (S := fun k => k = w1.heap.size) (Mv.refl _ _) rfl _ _) rfl _ _
    have HB : Below w1.heap.size w1 Wf := HB0.trans (hmv.below HB0.size (fun k e => by omega))
    have HPl := Pl.frame HPl0 hmv (fun k e e' => by omega)
    have HDl := Dl.frame HDl0 hmv (fun k e e' => by omega)
    rw [← hWf]
    have hT : ∀ k, ((w1.drew.alloc (.cells #[.pointer none, .pointer none] 28)).heap.size ≤ k ∧ k < w2.heap.size) → w1.heap.size ≤ k := fun k e => by omega
    have hU : ∀ k, w2.heap.size ≤ k → w1.heap.size ≤ k ∧ ¬ ((w1.drew.alloc (.cells #[.pointer none, .pointer none] 28)).heap.size ≤ k ∧ k < w2.heap.size) := fun k e => by omega
    clear hWf HPl0 HDl0 HB0 hbw hmv HK2
    obtain ⟨kc, hkc⟩ : ∃ k, k = w1.heap.size := ⟨_, rfl⟩
    rw [← hkc] at HR ⊢
    obtain ⟨cf0, cf1, -, -⟩ := row2 HR
    have C3 : Below w.heap.size w Wf := below_on B1 HB
    obtain ⟨j, hj⟩ : ∃ j, j = 1 - i := ⟨_, rfl⟩
    have hj2 : j < 2 := by omega
    have tj : (1 : Int) - (i : Int) = (j : Int) := by omega
    have tj2 : (j : Int) < 2 := by omega
    have tw : IntKind.i64.wrap (j : Int) = (j : Int) := by rw [IntKind.wrap_i64]; omega
    obtain ⟨v1, v2, hv1, hv2, hv3, hv4⟩ : ∃ v1 v2, Wf.cell? ⟨gw, j * 2, none⟩ = some v1 ∧ Wf.cell? ⟨gw, j * 2 + 1, none⟩ = some v2 ∧ (∀ k, Wf.frozen? ⟨gw, k, none⟩ = false) ∧ (∀ v k, (Wf.setCell ⟨gw, j * 2, none⟩ v).frozen? ⟨gw, k, none⟩ = false) := by
      obtain ⟨a1, a2⟩ := ((HH.out.bu HF.out).later C3).pair hj2
      obtain ⟨-, -, vl, k1, -⟩ := HH.out.later C3
      exact ⟨_, _, a1, a2, fun k => frozen_of_row Wf gw _ _ 32 k1.1, fun v k => frozen_of_row _ gw _ _ 32 (heap_setCell_same Wf gw (j * 2) _ 32 v k1.1)⟩
    have hv5 : ∀ v, (Wf.setCell ⟨gw, j * 2, none⟩ v).cell? ⟨gw, j * 2 + 1, none⟩ = some v2 := fun v => (World.cell?_setCell_other (w := Wf) (a := ⟨gw, j * 2, none⟩) (v := v) (b := ⟨gw, j * 2 + 1, none⟩) (by intro e; injection e with _ e; omega)).trans hv2
    have HP := hide (And.intro HPl (And.intro HDl (And.intro hT hU)))
    clear HPl HDl hT hU hj hkc HE HC1 A1 A4
    go_upto_region 29 with fail
    go_region_law (fail)
    all_goals
      go_wp2_with fail
      go_ret
      obtain ⟨hp, hd, hT, hU⟩ := HP.out
      obtain ⟨z1, z2⟩ := HH.out.place hj2 (st := C i) (below_on C3 (below_drew Wf)) (hp.later (below_drew Wf)) (hd.later (below_drew Wf)) (fun k e => Nat.le_trans B1.size (hT k e)) (fun k e => Nat.le_trans B1.size (hU k e).1) (fun k e e' => (hU k e').2 e) HF.out
      exact ⟨rfl, upd G j (g', r'), upd C j (C i), L, z1, by omega, z2⟩
end Go.Proofs.Ytejbdhbphbgckaa
