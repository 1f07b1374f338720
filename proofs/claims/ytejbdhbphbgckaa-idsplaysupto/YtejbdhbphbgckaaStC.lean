/-
  The law's step: what may be asked; State.
-/
import Derived.Test.YtejbdhbphbgckaaBoth
import Derived.Test.YtejbdhbphbgckaaLawLk
namespace Go.Proofs.Ytejbdhbphbgckaa
open Go.RowKit
set_option maxHeartbeats 40000000 in
set_option maxRecDepth 1000000 in
theorem step_4 (gw B : Nat) (own : Nat → Nat) (G : Nat → Nat × Nat) (C : Nat → St) (L : List Held) (w : World) (nn a ei eg : Int) (ag af : Option Addr) (ng cg nf cf : Nat) (h : Bw w gw own G C C L) (hF : Fe own B w) (hL : L.length ≤ 1000000) (hn0 : -9223372036854775808 ≤ nn) (hn1 : nn ≤ 9223372036854775807) :
    Calls Try.prog 8 #[.pointer (some ⟨gw, 0, none⟩), .agg #[.int .i64 4, .int .i64 nn, .int .i64 a, .int .i64 ei, .int .i64 eg, .slice ag ng cg, .slice af nf cf]] w fun e w' => e = .returned (.bool true) ∧ Go1 w gw B (L.length + 8) w' := by
  have HH := hide h
  have HF := hide hF
  have JP : Hid (∀ W : World, Calls Try.prog 11 #[.int .i64 nn, .int .i64 2] W fun e w' => e = .returned (.int .i64 (pk nn 2 : Int)) ∧ w' = W) := fun W => pick_any nn 2 W hn0 hn1 (by omega) (by omega)
  have hi : pk nn 2 < 2 := pk_lt nn (by omega)
  generalize pk nn 2 = i at *
  have CG : Hid (∀ W, Below w.heap.size w W → W.cell? ⟨gw, i * 2, none⟩ = some (.pointer (some ⟨(G i).1, 0, none⟩)) ∧ W.cell? ⟨gw, i * 2 + 1, none⟩ = some (.pointer (some ⟨(G i).2, 0, none⟩))) := fun W hb => ((h.bu hF).later hb).pair hi
  have ti : (i : Int) < 2 := by omega
  clear h hF hn0 hn1
  go_enter Try.func8, Try.ntmps8
  go_upto_region 1 with fail
  obtain ⟨w0, hw0⟩ : ∃ X, X = w.alloc (.cells #[.int .i64 4, .int .i64 nn, .int .i64 a, .int .i64 ei, .int .i64 eg, .slice ag ng cg, .slice af nf cf] 43) := ⟨_, rfl⟩
  have B0 : Below w.heap.size w w0 := hw0 ▸ below_alloc w _
  have hx0 : w0.heap[w.heap.size]? = some (.cells #[.int .i64 4, .int .i64 nn, .int .i64 a, .int .i64 ei, .int .i64 eg, .slice ag ng cg, .slice af nf cf] 43 (0, 0)) := hw0 ▸ heap_alloc_new w _
  have hs0 : w0.heap.size = w.heap.size + 1 := by rw [hw0]; simp
  rw [← hw0]
  clear hw0
  obtain ⟨kx, hkx⟩ : ∃ k, k = w.heap.size := ⟨_, rfl⟩
  rw [← hkx] at hx0 ⊢
  have HKX := hide hkx
  have c1 : w0.cell? ⟨kx, 1, none⟩ = some (.int .i64 nn) := by rw [cell_of_row w0 kx _ _ 43 (0, 0) hx0]; rfl
  have HX0 := hide hx0
  have HS0 := hide hs0
  clear hkx hx0 hs0
  go_wp2_with fail
  refine (JP.out w0).mono ?_
  rintro e w0' ⟨rfl, rfl⟩
  obtain ⟨g0, g1⟩ := CG.out _ B0
  obtain ⟨g, hg⟩ : ∃ g, g = (G i).1 := ⟨_, rfl⟩
  obtain ⟨r, hr⟩ : ∃ r, r = (G i).2 := ⟨_, rfl⟩
  rw [← hg] at g0
  rw [← hr] at g1
  have HGG := hide hg
  have HRR := hide hr
  clear hg hr
  go_upto_region 3 with fail
  obtain ⟨w0, rfl⟩ : ∃ X, X = w0' := ⟨_, rfl⟩
  obtain ⟨w1, hw1⟩ : ∃ X, X = w0.alloc (.cells #[.pointer (some ⟨g, 0, none⟩), .pointer (some ⟨r, 0, none⟩)] 28) := ⟨_, rfl⟩
  have B1 : Below w.heap.size w w1 := below_on B0 (hw1 ▸ below_alloc w0 _)
  have hx1 : w1.heap[w0.heap.size]? = some (.cells #[.pointer (some ⟨g, 0, none⟩), .pointer (some ⟨r, 0, none⟩)] 28 (0, 0)) := hw1 ▸ heap_alloc_new w0 _
  have hy1 : w1.heap[kx]? = some (.cells #[.int .i64 4, .int .i64 nn, .int .i64 a, .int .i64 ei, .int .i64 eg, .slice ag ng cg, .slice af nf cf] 43 (0, 0)) := by
    have := HKX.out; have := HS0.out
    rw [hw1]
    exact (heap_alloc_old w0 _ (by omega)).trans HX0.out
  rw [← hw1]
  clear hw1 c1 g0 g1
  obtain ⟨kp, hkp⟩ : ∃ k, k = w0.heap.size := ⟨_, rfl⟩
  rw [← hkp] at hx1 ⊢
  have hlab : ext own w.heap.size 6 kx = 6 ∧ ext own w.heap.size 6 kp = 6 := ⟨K6.new (w := w) (Nat.le_of_eq HKX.out.symm), K6.new (w := w) (by rw [hkp]; exact B0.size)⟩
  have HLX := hide hlab.1
  have HLP := hide hlab.2
  have p0 : w1.cell? ⟨kp, 0, none⟩ = some (.pointer (some ⟨g, 0, none⟩)) := by rw [cell_of_row w1 kp _ _ 28 (0, 0) hx1]; rfl
  have p1 : w1.cell? ⟨kp, 1, none⟩ = some (.pointer (some ⟨r, 0, none⟩)) := by rw [cell_of_row w1 kp _ _ 28 (0, 0) hx1]; rfl
  have q0 : w1.cell? ⟨kx, 0, none⟩ = some (.int .i64 4) := by rw [cell_of_row w1 kx _ _ 43 (0, 0) hy1]; rfl
  have q1 : w1.cell? ⟨kx, 1, none⟩ = some (.int .i64 nn) := by rw [cell_of_row w1 kx _ _ 43 (0, 0) hy1]; rfl
  have q2 : w1.cell? ⟨kx, 2, none⟩ = some (.int .i64 a) := by rw [cell_of_row w1 kx _ _ 43 (0, 0) hy1]; rfl
  have q3 : w1.cell? ⟨kx, 3, none⟩ = some (.int .i64 ei) := by rw [cell_of_row w1 kx _ _ 43 (0, 0) hy1]; rfl
  have q4 : w1.cell? ⟨kx, 4, none⟩ = some (.int .i64 eg) := by rw [cell_of_row w1 kx _ _ 43 (0, 0) hy1]; rfl
  have q5 : w1.cell? ⟨kx, 5, none⟩ = some (.slice ag ng cg) := by rw [cell_of_row w1 kx _ _ 43 (0, 0) hy1]; rfl
  have q6 : w1.cell? ⟨kx, 6, none⟩ = some (.slice af nf cf) := by rw [cell_of_row w1 kx _ _ 43 (0, 0) hy1]; rfl
  have H1 := hide (HH.out.later B1)
  have F1 := hide (HF.out.ext B1.size 6)
  obtain ⟨o1, ho1⟩ : ∃ o, o = ext own w.heap.size 6 := ⟨_, rfl⟩
  rw [← ho1] at H1 F1 HLX HLP
  clear hkp ho1 hx1 hy1 HX0 HS0 JP
  have JA := hide (lawlook_any gw i B o1 G C C L w1 4 nn a ei eg ag af ng cg nf cf H1.out hi rfl hL F1.out)
  rw [← HGG.out, ← HRR.out] at JA
  go_wp2_with fail
  refine JA.out.mono ?_
  rintro e w2 ⟨rfl, L', h2, h3, h4⟩
  have H2 := hide h2
  have H4 := hide h4
  clear h2 h4 JA p0 p1 q0 q1 q2 q3 q4 q5 q6
  go_wp2_with fail
  go_ret
  exact ⟨rfl, G, C, L', H2.out, by omega, (B1.mono HF.out.1).trans H4.out⟩
set_option maxHeartbeats 40000000 in
set_option maxRecDepth 1000000 in
theorem step_5 (gw B : Nat) (own : Nat → Nat) (G : Nat → Nat × Nat) (C : Nat → St) (L : List Held) (w : World) (nn a ei eg : Int) (ag af : Option Addr) (ng cg nf cf : Nat) (h : Bw w gw own G C C L) (hF : Fe own B w) (hL : L.length ≤ 1000000) (hn0 : -9223372036854775808 ≤ nn) (hn1 : nn ≤ 9223372036854775807) :
    Calls Try.prog 8 #[.pointer (some ⟨gw, 0, none⟩), .agg #[.int .i64 5, .int .i64 nn, .int .i64 a, .int .i64 ei, .int .i64 eg, .slice ag ng cg, .slice af nf cf]] w fun e w' => e = .returned (.bool true) ∧ Go1 w gw B (L.length + 8) w' := by
  have HH := hide h
  have HF := hide hF
  have JP : Hid (∀ W : World, Calls Try.prog 11 #[.int .i64 nn, .int .i64 2] W fun e w' => e = .returned (.int .i64 (pk nn 2 : Int)) ∧ w' = W) := fun W => pick_any nn 2 W hn0 hn1 (by omega) (by omega)
  have hi : pk nn 2 < 2 := pk_lt nn (by omega)
  generalize pk nn 2 = i at *
  have CG : Hid (∀ W, Below w.heap.size w W → W.cell? ⟨gw, i * 2, none⟩ = some (.pointer (some ⟨(G i).1, 0, none⟩)) ∧ W.cell? ⟨gw, i * 2 + 1, none⟩ = some (.pointer (some ⟨(G i).2, 0, none⟩))) := fun W hb => ((h.bu hF).later hb).pair hi
  have ti : (i : Int) < 2 := by omega
  clear h hF hn0 hn1
  go_enter Try.func8, Try.ntmps8
  go_upto_region 1 with fail
  obtain ⟨w0, hw0⟩ : ∃ X, X = w.alloc (.cells #[.int .i64 5, .int .i64 nn, .int .i64 a, .int .i64 ei, .int .i64 eg, .slice ag ng cg, .slice af nf cf] 43) := ⟨_, rfl⟩
  have B0 : Below w.heap.size w w0 := hw0 ▸ below_alloc w _
  have hx0 : w0.heap[w.heap.size]? = some (.cells #[.int .i64 5, .int .i64 nn, .int .i64 a, .int .i64 ei, .int .i64 eg, .slice ag ng cg, .slice af nf cf] 43 (0, 0)) := hw0 ▸ heap_alloc_new w _
  have hs0 : w0.heap.size = w.heap.size + 1 := by rw [hw0]; simp
  rw [← hw0]
  clear hw0
  obtain ⟨kx, hkx⟩ : ∃ k, k = w.heap.size := ⟨_, rfl⟩
  rw [← hkx] at hx0 ⊢
  have HKX := hide hkx
  have c1 : w0.cell? ⟨kx, 1, none⟩ = some (.int .i64 nn) := by rw [cell_of_row w0 kx _ _ 43 (0, 0) hx0]; rfl
  have HX0 := hide hx0
  have HS0 := hide hs0
  clear hkx hx0 hs0
  go_wp2_with fail
  refine (JP.out w0).mono ?_
  rintro e w0' ⟨rfl, rfl⟩
  obtain ⟨g0, g1⟩ := CG.out _ B0
  obtain ⟨g, hg⟩ : ∃ g, g = (G i).1 := ⟨_, rfl⟩
  obtain ⟨r, hr⟩ : ∃ r, r = (G i).2 := ⟨_, rfl⟩
  rw [← hg] at g0
  rw [← hr] at g1
  have HGG := hide hg
  have HRR := hide hr
  clear hg hr
  go_upto_region 3 with fail
  obtain ⟨w0, rfl⟩ : ∃ X, X = w0' := ⟨_, rfl⟩
  obtain ⟨w1, hw1⟩ : ∃ X, X = w0.alloc (.cells #[.pointer (some ⟨g, 0, none⟩), .pointer (some ⟨r, 0, none⟩)] 28) := ⟨_, rfl⟩
  have B1 : Below w.heap.size w w1 := below_on B0 (hw1 ▸ below_alloc w0 _)
  have hx1 : w1.heap[w0.heap.size]? = some (.cells #[.pointer (some ⟨g, 0, none⟩), .pointer (some ⟨r, 0, none⟩)] 28 (0, 0)) := hw1 ▸ heap_alloc_new w0 _
  have hy1 : w1.heap[kx]? = some (.cells #[.int .i64 5, .int .i64 nn, .int .i64 a, .int .i64 ei, .int .i64 eg, .slice ag ng cg, .slice af nf cf] 43 (0, 0)) := by
    have := HKX.out; have := HS0.out
    rw [hw1]
    exact (heap_alloc_old w0 _ (by omega)).trans HX0.out
  rw [← hw1]
  clear hw1 c1 g0 g1
  obtain ⟨kp, hkp⟩ : ∃ k, k = w0.heap.size := ⟨_, rfl⟩
  rw [← hkp] at hx1 ⊢
  have hlab : ext own w.heap.size 6 kx = 6 ∧ ext own w.heap.size 6 kp = 6 := ⟨K6.new (w := w) (Nat.le_of_eq HKX.out.symm), K6.new (w := w) (by rw [hkp]; exact B0.size)⟩
  have HLX := hide hlab.1
  have HLP := hide hlab.2
  have p0 : w1.cell? ⟨kp, 0, none⟩ = some (.pointer (some ⟨g, 0, none⟩)) := by rw [cell_of_row w1 kp _ _ 28 (0, 0) hx1]; rfl
  have p1 : w1.cell? ⟨kp, 1, none⟩ = some (.pointer (some ⟨r, 0, none⟩)) := by rw [cell_of_row w1 kp _ _ 28 (0, 0) hx1]; rfl
  have q0 : w1.cell? ⟨kx, 0, none⟩ = some (.int .i64 5) := by rw [cell_of_row w1 kx _ _ 43 (0, 0) hy1]; rfl
  have q1 : w1.cell? ⟨kx, 1, none⟩ = some (.int .i64 nn) := by rw [cell_of_row w1 kx _ _ 43 (0, 0) hy1]; rfl
  have q2 : w1.cell? ⟨kx, 2, none⟩ = some (.int .i64 a) := by rw [cell_of_row w1 kx _ _ 43 (0, 0) hy1]; rfl
  have q3 : w1.cell? ⟨kx, 3, none⟩ = some (.int .i64 ei) := by rw [cell_of_row w1 kx _ _ 43 (0, 0) hy1]; rfl
  have q4 : w1.cell? ⟨kx, 4, none⟩ = some (.int .i64 eg) := by rw [cell_of_row w1 kx _ _ 43 (0, 0) hy1]; rfl
  have q5 : w1.cell? ⟨kx, 5, none⟩ = some (.slice ag ng cg) := by rw [cell_of_row w1 kx _ _ 43 (0, 0) hy1]; rfl
  have q6 : w1.cell? ⟨kx, 6, none⟩ = some (.slice af nf cf) := by rw [cell_of_row w1 kx _ _ 43 (0, 0) hy1]; rfl
  have H1 := hide (HH.out.later B1)
  have F1 := hide (HF.out.ext B1.size 6)
  obtain ⟨o1, ho1⟩ : ∃ o, o = ext own w.heap.size 6 := ⟨_, rfl⟩
  rw [← ho1] at H1 F1 HLX HLP
  clear hkp ho1 hx1 hy1 HX0 HS0 JP
  have JA := hide (lawstate_any gw i B o1 G C C L w1 H1.out hi rfl hL F1.out)
  rw [← HGG.out, ← HRR.out] at JA
  go_wp2_with fail
  refine JA.out.mono ?_
  rintro e w2 ⟨rfl, L', h2, h3, h4⟩
  have H2 := hide h2
  have H4 := hide h4
  clear h2 h4 JA p0 p1 q0 q1 q2 q3 q4 q5 q6
  go_wp2_with fail
  go_ret
  exact ⟨rfl, G, C, L', H2.out, by omega, (B1.mono HF.out.1).trans H4.out⟩
end Go.Proofs.Ytejbdhbphbgckaa
