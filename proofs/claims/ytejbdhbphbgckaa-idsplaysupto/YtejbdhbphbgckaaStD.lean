/-
  The law's step: From.
-/
import Derived.Test.YtejbdhbphbgckaaBoth
namespace Go.Proofs.Ytejbdhbphbgckaa
open Go.RowKit
set_option maxHeartbeats 40000000 in
set_option maxRecDepth 1000000 in
theorem step_6 (gw B : Nat) (own : Nat → Nat) (G : Nat → Nat × Nat) (C : Nat → St) (L : List Held) (w : World) (nn a ei eg : Int) (ag af : Option Addr) (ng cg nf cf : Nat) (h : Bw w gw own G C C L) (hF : Fe own B w) (_hL : L.length ≤ 1000000) (hn0 : -9223372036854775808 ≤ nn) (hn1 : nn ≤ 9223372036854775807) (GL FL : List Int) (hGL : Is w (.slice ag ng cg) GL) (hFL : Is w (.slice af nf cf) FL) (hG9 : GL.length ≤ 1000000000) (hF9 : FL.length ≤ 1000000000) :
    Calls Try.prog 8 #[.pointer (some ⟨gw, 0, none⟩), .agg #[.int .i64 6, .int .i64 nn, .int .i64 a, .int .i64 ei, .int .i64 eg, .slice ag ng cg, .slice af nf cf]] w fun e w' => e = .returned (.bool true) ∧ Go1 w gw B (L.length + 8) w' := by
  have HH := hide h
  have HF := hide hF
  have JP : Hid (∀ W : World, Calls Try.prog 11 #[.int .i64 nn, .int .i64 2] W fun e w' => e = .returned (.int .i64 (pk nn 2 : Int)) ∧ w' = W) := fun W => pick_any nn 2 W hn0 hn1 (by omega) (by omega)
  have hi : pk nn 2 < 2 := pk_lt nn (by omega)
  generalize pk nn 2 = i at *
  have CG : Hid (∀ W, Below w.heap.size w W → W.cell? ⟨gw, i * 2, none⟩ = some (.pointer (some ⟨(G i).1, 0, none⟩)) ∧ W.cell? ⟨gw, i * 2 + 1, none⟩ = some (.pointer (some ⟨(G i).2, 0, none⟩))) := fun W hb => ((h.bu hF).later hb).pair hi
  have ti : (i : Int) < 2 := by omega
  clear h hF hn0 hn1
  go_enter Try.func8, Try.ntmps8
  go_upto_region 1 with fail
  obtain ⟨w0, hw0⟩ : ∃ X, X = w.alloc (.cells #[.int .i64 6, .int .i64 nn, .int .i64 a, .int .i64 ei, .int .i64 eg, .slice ag ng cg, .slice af nf cf] 43) := ⟨_, rfl⟩
  have B0 : Below w.heap.size w w0 := hw0 ▸ below_alloc w _
  have hx0 : w0.heap[w.heap.size]? = some (.cells #[.int .i64 6, .int .i64 nn, .int .i64 a, .int .i64 ei, .int .i64 eg, .slice ag ng cg, .slice af nf cf] 43 (0, 0)) := hw0 ▸ heap_alloc_new w _
  have hs0 : w0.heap.size = w.heap.size + 1 := by rw [hw0]; simp
  rw [← hw0]
  clear hw0
  obtain ⟨kx, hkx⟩ : ∃ k, k = w.heap.size := ⟨_, rfl⟩
  rw [← hkx] at hx0 ⊢
  have HKX := hide hkx
  have c1 : w0.cell? ⟨kx, 1, none⟩ = some (.int .i64 nn) := by rw [cell_of_row w0 kx _ _ 43 (0, 0) hx0]; rfl
  have HX0 := hide hx0
  have HS0 := hide hs0
  clear hkx hx0 hs0
  go_wp2_with fail
  refine (JP.out w0).mono ?_
  rintro e w0' ⟨rfl, rfl⟩
  obtain ⟨g0, g1⟩ := CG.out _ B0
  obtain ⟨g, hg⟩ : ∃ g, g = (G i).1 := ⟨_, rfl⟩
  obtain ⟨r, hr⟩ : ∃ r, r = (G i).2 := ⟨_, rfl⟩
  rw [← hg] at g0
  rw [← hr] at g1
  have HGG := hide hg
  have HRR := hide hr
  clear hg hr
  go_upto_region 3 with fail
  obtain ⟨w0, rfl⟩ : ∃ X, X = w0' := ⟨_, rfl⟩
  obtain ⟨w1, hw1⟩ : ∃ X, X = w0.alloc (.cells #[.pointer (some ⟨g, 0, none⟩), .pointer (some ⟨r, 0, none⟩)] 28) := ⟨_, rfl⟩
  have B1 : Below w.heap.size w w1 := below_on B0 (hw1 ▸ below_alloc w0 _)
  have hx1 : w1.heap[w0.heap.size]? = some (.cells #[.pointer (some ⟨g, 0, none⟩), .pointer (some ⟨r, 0, none⟩)] 28 (0, 0)) := hw1 ▸ heap_alloc_new w0 _
  have hy1 : w1.heap[kx]? = some (.cells #[.int .i64 6, .int .i64 nn, .int .i64 a, .int .i64 ei, .int .i64 eg, .slice ag ng cg, .slice af nf cf] 43 (0, 0)) := by
    have := HKX.out; have := HS0.out
    rw [hw1]
    exact (heap_alloc_old w0 _ (by omega)).trans HX0.out
  rw [← hw1]
  clear hw1 c1 g0 g1
  obtain ⟨kp, hkp⟩ : ∃ k, k = w0.heap.size := ⟨_, rfl⟩
  rw [← hkp] at hx1 ⊢
  have hlab : ext own w.heap.size 6 kx = 6 ∧ ext own w.heap.size 6 kp = 6 := ⟨K6.new (w := w) (Nat.le_of_eq HKX.out.symm), K6.new (w := w) (by rw [hkp]; exact B0.size)⟩
  have HLX := hide hlab.1
  have HLP := hide hlab.2
  have p0 : w1.cell? ⟨kp, 0, none⟩ = some (.pointer (some ⟨g, 0, none⟩)) := by rw [cell_of_row w1 kp _ _ 28 (0, 0) hx1]; rfl
  have p1 : w1.cell? ⟨kp, 1, none⟩ = some (.pointer (some ⟨r, 0, none⟩)) := by rw [cell_of_row w1 kp _ _ 28 (0, 0) hx1]; rfl
  have q0 : w1.cell? ⟨kx, 0, none⟩ = some (.int .i64 6) := by rw [cell_of_row w1 kx _ _ 43 (0, 0) hy1]; rfl
  have q1 : w1.cell? ⟨kx, 1, none⟩ = some (.int .i64 nn) := by rw [cell_of_row w1 kx _ _ 43 (0, 0) hy1]; rfl
  have q2 : w1.cell? ⟨kx, 2, none⟩ = some (.int .i64 a) := by rw [cell_of_row w1 kx _ _ 43 (0, 0) hy1]; rfl
  have q3 : w1.cell? ⟨kx, 3, none⟩ = some (.int .i64 ei) := by rw [cell_of_row w1 kx _ _ 43 (0, 0) hy1]; rfl
  have q4 : w1.cell? ⟨kx, 4, none⟩ = some (.int .i64 eg) := by rw [cell_of_row w1 kx _ _ 43 (0, 0) hy1]; rfl
  have q5 : w1.cell? ⟨kx, 5, none⟩ = some (.slice ag ng cg) := by rw [cell_of_row w1 kx _ _ 43 (0, 0) hy1]; rfl
  have q6 : w1.cell? ⟨kx, 6, none⟩ = some (.slice af nf cf) := by rw [cell_of_row w1 kx _ _ 43 (0, 0) hy1]; rfl
  have H1 := hide (HH.out.later B1)
  have F1 := hide (HF.out.ext B1.size 6)
  obtain ⟨o1, ho1⟩ : ∃ o, o = ext own w.heap.size 6 := ⟨_, rfl⟩
  rw [← ho1] at H1 F1 HLX HLP
  clear hkp ho1 hx1 hy1 HX0 HS0 JP
  have JA := hide (lawfrom_any a _ _ GL FL w1 (hGL.on B1) (hFL.on B1) hG9 hF9)
  go_wp2_with fail
  refine JA.out.mono ?_
  rintro e w2 ⟨p, q, rfl, B2, hor⟩
  have HO := hide hor
  have CGW : Hid (∀ W, Below w.heap.size w W → W.cell? ⟨gw, i * 2, none⟩ = some (.pointer (some ⟨(G i).1, 0, none⟩)) ∧ W.cell? ⟨gw, i * 2 + 1, none⟩ = some (.pointer (some ⟨(G i).2, 0, none⟩)) ∧ W.frozen? ⟨gw, i * 2, none⟩ = false ∧ W.frozen? ⟨gw, i * 2 + 1, none⟩ = false) := fun W hb => by
    obtain ⟨a1, a2⟩ := CG.out W hb
    obtain ⟨-, -, vl, k1, -⟩ := HH.out.later hb
    exact ⟨a1, a2, frozen_of_row W gw _ _ 32 k1.1, frozen_of_row W gw _ _ 32 k1.1⟩
  clear hor JA p0 p1 q0 q1 q2 q3 q4 q5 q6
  go_upto_region 22 with fail
  obtain ⟨w3, hw3⟩ : ∃ X, X = w2.alloc (.cells #[.pointer p, .pointer q] 28) := ⟨_, rfl⟩
  have B3 : Below w2.heap.size w2 w3 := hw3 ▸ below_alloc w2 _
  have hz3 : w3.heap[w2.heap.size]? = some (.cells #[.pointer p, .pointer q] 28 (0, 0)) := hw3 ▸ heap_alloc_new w2 _
  rw [← hw3]
  obtain ⟨kq, hkq⟩ : ∃ k, k = w2.heap.size := ⟨_, rfl⟩
  rw [← hkq] at hz3 ⊢
  have y0 : w3.cell? ⟨kq, 0, none⟩ = some (.pointer p) := by rw [cell_of_row w3 kq _ _ 28 (0, 0) hz3]; rfl
  have y1 : w3.cell? ⟨kq, 1, none⟩ = some (.pointer q) := by rw [cell_of_row w3 kq _ _ 28 (0, 0) hz3]; rfl
  have C3 : Below w.heap.size w w3 := below_on B1 (below_on B2 B3)
  clear hw3 hkq hz3
  rcases HO.out with ⟨rfl, rfl, -⟩ | ⟨gp, gq, n, gs, fr, S, T, rfl, rfl, hm, hgs, hfr, hp, hd, hS, hT, hST⟩
  · clear HO
    go_wp2_with fail
    go_ret
    exact ⟨rfl, G, C, L, (HH.out.bu HF.out).later C3, by omega, C3.mono HF.out.1⟩
  · have HP := hide (And.intro hp (And.intro hd (And.intro hS (And.intro hT hST))))
    obtain ⟨d0, d1, d2, d3⟩ := CGW.out w3.drew (below_on C3 (below_drew w3))
    have hgr : w3.heap[gw]? = some (.cells #[(four G).1, (four G).2.1, (four G).2.2.1, (four G).2.2.2, (w3.cell? ⟨gw, 4, none⟩).getD undef] 32 (0, 0)) := by
      obtain ⟨-, -, vl, k1, -⟩ := HH.out.later C3
      rw [k1.cell]
      exact k1.1
    have d4 : ∀ v, (w3.setCell ⟨gw, i * 2, none⟩ v).cell? ⟨gw, i * 2 + 1, none⟩ = some (.pointer (some ⟨(G i).2, 0, none⟩)) := fun v => by
      exact (World.cell?_setCell_other (w := w3) (a := ⟨gw, i * 2, none⟩) (v := v) (b := ⟨gw, i * 2 + 1, none⟩) (by intro e; injection e with _ e; omega)).trans (CGW.out w3 C3).2.1
    have d5 : ∀ v, (w3.setCell ⟨gw, i * 2, none⟩ v).frozen? ⟨gw, i * 2 + 1, none⟩ = false := fun v => frozen_of_row _ gw _ _ 32 (heap_setCell_same w3 gw (i * 2) _ 32 v hgr)
    clear HO hp hd hS hT hST hm hgs hfr hgr
    go_upto_region 23 with fail
    go_region_law (fail)
    all_goals
      go_wp2_with fail
      go_ret
      obtain ⟨hp, hd, hS, hT, hST⟩ := HP.out
      have h13 : Below w2.heap.size w2 w3.drew := below_on B3 (below_drew w3)
      obtain ⟨z1, z2⟩ := HH.out.place hi (st := (n, gs, fr)) (below_on C3 (below_drew w3)) (hp.later h13) (hd.later h13) (fun k e => Nat.le_trans B1.size (hS k e)) (fun k e => Nat.le_trans B1.size (hT k e)) hST HF.out
      exact ⟨rfl, upd G i (gp, gq), upd C i (n, gs, fr), L, z1, by omega, z2⟩
end Go.Proofs.Ytejbdhbphbgckaa
