/-
  The law's step: Take; and what does nothing.
-/
import Derived.Test.YtejbdhbphbgckaaBoth
namespace Go.Proofs.Ytejbdhbphbgckaa
open Go.RowKit
set_option maxHeartbeats 40000000 in
set_option maxRecDepth 1000000 in
theorem step_1 (gw B : Nat) (own : Nat → Nat) (G : Nat → Nat × Nat) (C : Nat → St) (L : List Held) (w : World) (nn a ei eg : Int) (ag af : Option Addr) (ng cg nf cf : Nat) (h : Bw w gw own G C C L) (hF : Fe own B w) (_hL : L.length ≤ 1000000) (hn0 : -9223372036854775808 ≤ nn) (hn1 : nn ≤ 9223372036854775807) :
    Calls Try.prog 8 #[.pointer (some ⟨gw, 0, none⟩), .agg #[.int .i64 1, .int .i64 nn, .int .i64 a, .int .i64 ei, .int .i64 eg, .slice ag ng cg, .slice af nf cf]] w fun e w' => e = .returned (.bool true) ∧ Go1 w gw B (L.length + 8) w' := by
  have HH := hide h
  have HF := hide hF
  have JP : Hid (∀ W : World, Calls Try.prog 11 #[.int .i64 nn, .int .i64 2] W fun e w' => e = .returned (.int .i64 (pk nn 2 : Int)) ∧ w' = W) := fun W => pick_any nn 2 W hn0 hn1 (by omega) (by omega)
  have hi : pk nn 2 < 2 := pk_lt nn (by omega)
  generalize pk nn 2 = i at *
  have CG : Hid (∀ W, Below w.heap.size w W → W.cell? ⟨gw, i * 2, none⟩ = some (.pointer (some ⟨(G i).1, 0, none⟩)) ∧ W.cell? ⟨gw, i * 2 + 1, none⟩ = some (.pointer (some ⟨(G i).2, 0, none⟩))) := fun W hb => ((h.bu hF).later hb).pair hi
  have ti : (i : Int) < 2 := by omega
  clear h hF hn0 hn1
  go_enter Try.func8, Try.ntmps8
  go_upto_region 1 with fail
  obtain ⟨w0, hw0⟩ : ∃ X, X = w.alloc (.cells #[.int .i64 1, .int .i64 nn, .int .i64 a, .int .i64 ei, .int .i64 eg, .slice ag ng cg, .slice af nf cf] 43) := ⟨_, rfl⟩
  have B0 : Below w.heap.size w w0 := hw0 ▸ below_alloc w _
  have hx0 : w0.heap[w.heap.size]? = some (.cells #[.int .i64 1, .int .i64 nn, .int .i64 a, .int .i64 ei, .int .i64 eg, .slice ag ng cg, .slice af nf cf] 43 (0, 0)) := hw0 ▸ heap_alloc_new w _
  have hs0 : w0.heap.size = w.heap.size + 1 := by rw [hw0]; simp
  rw [← hw0]
  clear hw0
  obtain ⟨kx, hkx⟩ : ∃ k, k = w.heap.size := ⟨_, rfl⟩
  rw [← hkx] at hx0 ⊢
  have HKX := hide hkx
  have c1 : w0.cell? ⟨kx, 1, none⟩ = some (.int .i64 nn) := by rw [cell_of_row w0 kx _ _ 43 (0, 0) hx0]; rfl
  have HX0 := hide hx0
  have HS0 := hide hs0
  clear hkx hx0 hs0
  go_wp2_with fail
  refine (JP.out w0).mono ?_
  rintro e w0' ⟨rfl, rfl⟩
  obtain ⟨g0, g1⟩ := CG.out _ B0
  obtain ⟨g, hg⟩ : ∃ g, g = (G i).1 := ⟨_, rfl⟩
  obtain ⟨r, hr⟩ : ∃ r, r = (G i).2 := ⟨_, rfl⟩
  rw [← hg] at g0
  rw [← hr] at g1
  have HGG := hide hg
  have HRR := hide hr
  clear hg hr
  go_upto_region 3 with fail
  obtain ⟨w0, rfl⟩ : ∃ X, X = w0' := ⟨_, rfl⟩
  obtain ⟨w1, hw1⟩ : ∃ X, X = w0.alloc (.cells #[.pointer (some ⟨g, 0, none⟩), .pointer (some ⟨r, 0, none⟩)] 28) := ⟨_, rfl⟩
  have B1 : Below w.heap.size w w1 := below_on B0 (hw1 ▸ below_alloc w0 _)
  have hx1 : w1.heap[w0.heap.size]? = some (.cells #[.pointer (some ⟨g, 0, none⟩), .pointer (some ⟨r, 0, none⟩)] 28 (0, 0)) := hw1 ▸ heap_alloc_new w0 _
  have hy1 : w1.heap[kx]? = some (.cells #[.int .i64 1, .int .i64 nn, .int .i64 a, .int .i64 ei, .int .i64 eg, .slice ag ng cg, .slice af nf cf] 43 (0, 0)) := by
    have := HKX.out; have := HS0.out
    rw [hw1]
    exact (heap_alloc_old w0 _ (by omega)).trans HX0.out
  rw [← hw1]
  clear hw1 c1 g0 g1
  obtain ⟨kp, hkp⟩ : ∃ k, k = w0.heap.size := ⟨_, rfl⟩
  rw [← hkp] at hx1 ⊢
  have hlab : ext own w.heap.size 6 kx = 6 ∧ ext own w.heap.size 6 kp = 6 := ⟨K6.new (w := w) (Nat.le_of_eq HKX.out.symm), K6.new (w := w) (by rw [hkp]; exact B0.size)⟩
  have HLX := hide hlab.1
  have HLP := hide hlab.2
  have p0 : w1.cell? ⟨kp, 0, none⟩ = some (.pointer (some ⟨g, 0, none⟩)) := by rw [cell_of_row w1 kp _ _ 28 (0, 0) hx1]; rfl
  have p1 : w1.cell? ⟨kp, 1, none⟩ = some (.pointer (some ⟨r, 0, none⟩)) := by rw [cell_of_row w1 kp _ _ 28 (0, 0) hx1]; rfl
  have q0 : w1.cell? ⟨kx, 0, none⟩ = some (.int .i64 1) := by rw [cell_of_row w1 kx _ _ 43 (0, 0) hy1]; rfl
  have q1 : w1.cell? ⟨kx, 1, none⟩ = some (.int .i64 nn) := by rw [cell_of_row w1 kx _ _ 43 (0, 0) hy1]; rfl
  have q2 : w1.cell? ⟨kx, 2, none⟩ = some (.int .i64 a) := by rw [cell_of_row w1 kx _ _ 43 (0, 0) hy1]; rfl
  have q3 : w1.cell? ⟨kx, 3, none⟩ = some (.int .i64 ei) := by rw [cell_of_row w1 kx _ _ 43 (0, 0) hy1]; rfl
  have q4 : w1.cell? ⟨kx, 4, none⟩ = some (.int .i64 eg) := by rw [cell_of_row w1 kx _ _ 43 (0, 0) hy1]; rfl
  have q5 : w1.cell? ⟨kx, 5, none⟩ = some (.slice ag ng cg) := by rw [cell_of_row w1 kx _ _ 43 (0, 0) hy1]; rfl
  have q6 : w1.cell? ⟨kx, 6, none⟩ = some (.slice af nf cf) := by rw [cell_of_row w1 kx _ _ 43 (0, 0) hy1]; rfl
  have H1 := hide (HH.out.later B1)
  have F1 := hide (HF.out.ext B1.size 6)
  obtain ⟨o1, ho1⟩ : ∃ o, o = ext own w.heap.size 6 := ⟨_, rfl⟩
  rw [← ho1] at H1 F1 HLX HLP
  clear hkp ho1 hx1 hy1 HX0 HS0 JP
  have JT : Hid (Calls Try.prog 13 #[.pointer (some ⟨g, 0, none⟩)] w1 fun e w' => ∃ p1 p2 x, tak (C i) = ((p1, p2), x) ∧ e = .returned (.tuple #[.agg #[.int .i64 (p1 : Int), .int .i64 (p2 : Int)], .int .i64 x.1]) ∧ ∃ own', Bw w' gw own' G (upd C i x.2) C L ∧ K6 o1 w1 own' w') := by
    rw [HGG.out]
    refine (tak_code H1.out hi).mono (fun e w' ⟨h1, own', h2, h3⟩ => ⟨_, _, _, rfl, h1, own', h2, h3⟩)
  go_wp2_with fail
  refine JT.out.mono ?_
  rintro e w2 ⟨p1', p2', ⟨x, st⟩, ht, rfl, o2, h2, k2⟩
  have HT := hide ht
  have H2 := hide h2
  have K2 := hide k2
  have HP2 : Hid (∀ W, Below w2.heap.size w2 W → W.cell? ⟨kp, 1, none⟩ = some (.pointer (some ⟨r, 0, none⟩))) := fun W hb => (hb.cell (p := ⟨kp, 1, none⟩) (World.block_lt_of_cell? w2 _ (k2.cell p1 HLP.out))).trans (k2.cell p1 HLP.out)
  clear ht h2 k2 p0 p1 q0 q1 q2 q3 q4 q5 q6 JT
  go_upto_region 6 with fail
  obtain ⟨w3, hw3⟩ : ∃ X, X = w2.alloc (.cells #[.int .i64 (p1' : Int), .int .i64 (p2' : Int)] 41) := ⟨_, rfl⟩
  have B3 : Below w2.heap.size w2 w3 := hw3 ▸ below_alloc w2 _
  have hz3 : w3.heap[w2.heap.size]? = some (.cells #[.int .i64 (p1' : Int), .int .i64 (p2' : Int)] 41 (0, 0)) := hw3 ▸ heap_alloc_new w2 _
  rw [← hw3]
  have c1 := HP2.out w3 B3
  have H3 := hide (H2.out.later B3)
  have K3 : Hid (K6 o1 w1 (ext o2 w2.heap.size 6) w3) := K2.out.trans (K6.later B3)
  have hl3 : ext o2 w2.heap.size 6 w2.heap.size = 6 := K6.new (w := w2) (Nat.le_refl _)
  obtain ⟨kq, hkq⟩ : ∃ k, k = w2.heap.size := ⟨_, rfl⟩
  rw [← hkq] at hz3 ⊢
  rw [← hkq] at H3 K3 hl3
  obtain ⟨o3, ho3⟩ : ∃ o, o = ext o2 kq 6 := ⟨_, rfl⟩
  rw [← ho3] at H3 K3 hl3
  have y0 : w3.cell? ⟨kq, 0, none⟩ = some (.int .i64 (p1' : Int)) := by rw [cell_of_row w3 kq _ _ 41 (0, 0) hz3]; rfl
  have y1 : w3.cell? ⟨kq, 1, none⟩ = some (.int .i64 (p2' : Int)) := by rw [cell_of_row w3 kq _ _ 41 (0, 0) hz3]; rfl
  clear hw3 hkq ho3 hz3 H2 K2 HP2
  have JD : Hid (Calls Try.prog 19 #[.pointer (some ⟨r, 0, none⟩)] w3 fun e w' => e = .returned (.tuple #[.agg #[.int .i64 (p1' : Int), .int .i64 (p2' : Int)], .int .i64 x]) ∧ ∃ own', Bw w' gw own' G (upd C i st) (upd C i st) L ∧ K6 o3 w3 own' w') := by
    rw [HRR.out]
    have := tak_doc H3.out hi
    rw [HT.out] at this
    exact this
  go_wp2_with fail
  refine JD.out.mono ?_
  rintro e w4 ⟨rfl, o4, h4, k4⟩
  have H4 := hide h4
  have K4 : Hid (K6 o1 w1 o4 w4) := K3.out.trans k4
  have z0 := k4.cell y0 hl3
  have z1 := k4.cell y1 hl3
  have L0 := World.block_lt_of_cell? w4 _ z0
  have z0' : ∀ o, (w4.alloc o).cell? ⟨kq, 0, none⟩ = some (.int .i64 (p1' : Int)) := fun o => ((below_alloc w4 o).cell (p := ⟨kq, 0, none⟩) L0).trans z0
  have z1' : ∀ o, (w4.alloc o).cell? ⟨kq, 1, none⟩ = some (.int .i64 (p2' : Int)) := fun o => ((below_alloc w4 o).cell (p := ⟨kq, 1, none⟩) L0).trans z1
  clear h4 k4 y0 y1 c1 JD
  go_wp2_with fail
  go_ret
  obtain ⟨f1, f2⟩ := K4.out.fe F1.out
  exact ⟨rfl, G, upd C i st, L, (H4.out.bu f1).later (below_alloc _ _), by omega, ((B1.mono HF.out.1).trans f2).trans ((below_alloc _ _).mono f1.1)⟩
set_option maxHeartbeats 40000000 in
set_option maxRecDepth 1000000 in
theorem step_other (gw B : Nat) (own : Nat → Nat) (G : Nat → Nat × Nat) (C : Nat → St) (L : List Held) (w : World) (kd nn a ei eg : Int) (ag af : Option Addr) (ng cg nf cf : Nat) (h : Bw w gw own G C C L) (hF : Fe own B w) (_hL : L.length ≤ 1000000) (hn0 : -9223372036854775808 ≤ nn) (hn1 : nn ≤ 9223372036854775807) (hk : kd ≠ 1 ∧ kd ≠ 2 ∧ kd ≠ 3 ∧ kd ≠ 4 ∧ kd ≠ 5 ∧ kd ≠ 6 ∧ kd ≠ 7 ∧ kd ≠ 8) :
    Calls Try.prog 8 #[.pointer (some ⟨gw, 0, none⟩), .agg #[.int .i64 kd, .int .i64 nn, .int .i64 a, .int .i64 ei, .int .i64 eg, .slice ag ng cg, .slice af nf cf]] w fun e w' => e = .returned (.bool true) ∧ Go1 w gw B (L.length + 8) w' := by
  have HH := hide h
  have HF := hide hF
  have JP : Hid (∀ W : World, Calls Try.prog 11 #[.int .i64 nn, .int .i64 2] W fun e w' => e = .returned (.int .i64 (pk nn 2 : Int)) ∧ w' = W) := fun W => pick_any nn 2 W hn0 hn1 (by omega) (by omega)
  have hi : pk nn 2 < 2 := pk_lt nn (by omega)
  generalize pk nn 2 = i at *
  have CG : Hid (∀ W, Below w.heap.size w W → W.cell? ⟨gw, i * 2, none⟩ = some (.pointer (some ⟨(G i).1, 0, none⟩)) ∧ W.cell? ⟨gw, i * 2 + 1, none⟩ = some (.pointer (some ⟨(G i).2, 0, none⟩))) := fun W hb => ((h.bu hF).later hb).pair hi
  have ti : (i : Int) < 2 := by omega
  clear h hF hn0 hn1
  go_enter Try.func8, Try.ntmps8
  go_upto_region 1 with fail
  obtain ⟨w0, hw0⟩ : ∃ X, X = w.alloc (.cells #[.int .i64 kd, .int .i64 nn, .int .i64 a, .int .i64 ei, .int .i64 eg, .slice ag ng cg, .slice af nf cf] 43) := ⟨_, rfl⟩
  have B0 : Below w.heap.size w w0 := hw0 ▸ below_alloc w _
  have hx0 : w0.heap[w.heap.size]? = some (.cells #[.int .i64 kd, .int .i64 nn, .int .i64 a, .int .i64 ei, .int .i64 eg, .slice ag ng cg, .slice af nf cf] 43 (0, 0)) := hw0 ▸ heap_alloc_new w _
  have hs0 : w0.heap.size = w.heap.size + 1 := by rw [hw0]; simp
  rw [← hw0]
  clear hw0
  obtain ⟨kx, hkx⟩ : ∃ k, k = w.heap.size := ⟨_, rfl⟩
  rw [← hkx] at hx0 ⊢
  have HKX := hide hkx
  have c1 : w0.cell? ⟨kx, 1, none⟩ = some (.int .i64 nn) := by rw [cell_of_row w0 kx _ _ 43 (0, 0) hx0]; rfl
  have HX0 := hide hx0
  have HS0 := hide hs0
  clear hkx hx0 hs0
  go_wp2_with fail
  refine (JP.out w0).mono ?_
  rintro e w0' ⟨rfl, rfl⟩
  obtain ⟨g0, g1⟩ := CG.out _ B0
  obtain ⟨g, hg⟩ : ∃ g, g = (G i).1 := ⟨_, rfl⟩
  obtain ⟨r, hr⟩ : ∃ r, r = (G i).2 := ⟨_, rfl⟩
  rw [← hg] at g0
  rw [← hr] at g1
  have HGG := hide hg
  have HRR := hide hr
  clear hg hr
  go_upto_region 3 with fail
  obtain ⟨w0, rfl⟩ : ∃ X, X = w0' := ⟨_, rfl⟩
  obtain ⟨w1, hw1⟩ : ∃ X, X = w0.alloc (.cells #[.pointer (some ⟨g, 0, none⟩), .pointer (some ⟨r, 0, none⟩)] 28) := ⟨_, rfl⟩
  have B1 : Below w.heap.size w w1 := below_on B0 (hw1 ▸ below_alloc w0 _)
  have hx1 : w1.heap[w0.heap.size]? = some (.cells #[.pointer (some ⟨g, 0, none⟩), .pointer (some ⟨r, 0, none⟩)] 28 (0, 0)) := hw1 ▸ heap_alloc_new w0 _
  have hy1 : w1.heap[kx]? = some (.cells #[.int .i64 kd, .int .i64 nn, .int .i64 a, .int .i64 ei, .int .i64 eg, .slice ag ng cg, .slice af nf cf] 43 (0, 0)) := by
    have := HKX.out; have := HS0.out
    rw [hw1]
    exact (heap_alloc_old w0 _ (by omega)).trans HX0.out
  rw [← hw1]
  clear hw1 c1 g0 g1
  obtain ⟨kp, hkp⟩ : ∃ k, k = w0.heap.size := ⟨_, rfl⟩
  rw [← hkp] at hx1 ⊢
  have hlab : ext own w.heap.size 6 kx = 6 ∧ ext own w.heap.size 6 kp = 6 := ⟨K6.new (w := w) (Nat.le_of_eq HKX.out.symm), K6.new (w := w) (by rw [hkp]; exact B0.size)⟩
  have HLX := hide hlab.1
  have HLP := hide hlab.2
  have p0 : w1.cell? ⟨kp, 0, none⟩ = some (.pointer (some ⟨g, 0, none⟩)) := by rw [cell_of_row w1 kp _ _ 28 (0, 0) hx1]; rfl
  have p1 : w1.cell? ⟨kp, 1, none⟩ = some (.pointer (some ⟨r, 0, none⟩)) := by rw [cell_of_row w1 kp _ _ 28 (0, 0) hx1]; rfl
  have q0 : w1.cell? ⟨kx, 0, none⟩ = some (.int .i64 kd) := by rw [cell_of_row w1 kx _ _ 43 (0, 0) hy1]; rfl
  have q1 : w1.cell? ⟨kx, 1, none⟩ = some (.int .i64 nn) := by rw [cell_of_row w1 kx _ _ 43 (0, 0) hy1]; rfl
  have q2 : w1.cell? ⟨kx, 2, none⟩ = some (.int .i64 a) := by rw [cell_of_row w1 kx _ _ 43 (0, 0) hy1]; rfl
  have q3 : w1.cell? ⟨kx, 3, none⟩ = some (.int .i64 ei) := by rw [cell_of_row w1 kx _ _ 43 (0, 0) hy1]; rfl
  have q4 : w1.cell? ⟨kx, 4, none⟩ = some (.int .i64 eg) := by rw [cell_of_row w1 kx _ _ 43 (0, 0) hy1]; rfl
  have q5 : w1.cell? ⟨kx, 5, none⟩ = some (.slice ag ng cg) := by rw [cell_of_row w1 kx _ _ 43 (0, 0) hy1]; rfl
  have q6 : w1.cell? ⟨kx, 6, none⟩ = some (.slice af nf cf) := by rw [cell_of_row w1 kx _ _ 43 (0, 0) hy1]; rfl
  have H1 := hide (HH.out.later B1)
  have F1 := hide (HF.out.ext B1.size 6)
  obtain ⟨o1, ho1⟩ : ∃ o, o = ext own w.heap.size 6 := ⟨_, rfl⟩
  rw [← ho1] at H1 F1 HLX HLP
  clear hkp ho1 hx1 hy1 HX0 HS0 JP
  have e1 : (kd == 1) = false := by rw [beq_eq_false_iff_ne]; exact hk.1
  have e2 : (kd == 2) = false := by rw [beq_eq_false_iff_ne]; exact hk.2.1
  have e3 : (kd == 3) = false := by rw [beq_eq_false_iff_ne]; exact hk.2.2.1
  have e4 : (kd == 4) = false := by rw [beq_eq_false_iff_ne]; exact hk.2.2.2.1
  have e5 : (kd == 5) = false := by rw [beq_eq_false_iff_ne]; exact hk.2.2.2.2.1
  have e6 : (kd == 6) = false := by rw [beq_eq_false_iff_ne]; exact hk.2.2.2.2.2.1
  have e7 : (kd == 7) = false := by rw [beq_eq_false_iff_ne]; exact hk.2.2.2.2.2.2.1
  have e8 : (kd == 8) = false := by rw [beq_eq_false_iff_ne]; exact hk.2.2.2.2.2.2.2
  clear hk
  go_wp2_with fail
  go_ret
  exact ⟨rfl, G, C, L, H1.out.bu F1.out, by omega, B1.mono HF.out.1⟩
end Go.Proofs.Ytejbdhbphbgckaa
