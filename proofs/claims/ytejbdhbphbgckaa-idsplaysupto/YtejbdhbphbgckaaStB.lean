/-
  The law's step: Give.
-/
import Derived.Test.YtejbdhbphbgckaaBoth
namespace Go.Proofs.Ytejbdhbphbgckaa
open Go.RowKit
set_option maxHeartbeats 40000000 in
set_option maxRecDepth 1000000 in
theorem step_2 (gw B : Nat) (own : Nat → Nat) (G : Nat → Nat × Nat) (C : Nat → St) (L : List Held) (w : World) (nn a ei eg : Int) (ag af : Option Addr) (ng cg nf cf : Nat) (h : Bw w gw own G C C L) (hF : Fe own B w) (_hL : L.length ≤ 1000000) (hn0 : -9223372036854775808 ≤ nn) (hn1 : nn ≤ 9223372036854775807) :
    Calls Try.prog 8 #[.pointer (some ⟨gw, 0, none⟩), .agg #[.int .i64 2, .int .i64 nn, .int .i64 a, .int .i64 ei, .int .i64 eg, .slice ag ng cg, .slice af nf cf]] w fun e w' => e = .returned (.bool true) ∧ Go1 w gw B (L.length + 8) w' := by
  have HH := hide h
  have HF := hide hF
  have JP : Hid (∀ W : World, Calls Try.prog 11 #[.int .i64 nn, .int .i64 2] W fun e w' => e = .returned (.int .i64 (pk nn 2 : Int)) ∧ w' = W) := fun W => pick_any nn 2 W hn0 hn1 (by omega) (by omega)
  have hi : pk nn 2 < 2 := pk_lt nn (by omega)
  generalize pk nn 2 = i at *
  have CG : Hid (∀ W, Below w.heap.size w W → W.cell? ⟨gw, i * 2, none⟩ = some (.pointer (some ⟨(G i).1, 0, none⟩)) ∧ W.cell? ⟨gw, i * 2 + 1, none⟩ = some (.pointer (some ⟨(G i).2, 0, none⟩))) := fun W hb => ((h.bu hF).later hb).pair hi
  have ti : (i : Int) < 2 := by omega
  clear h hF hn0 hn1
  go_enter Try.func8, Try.ntmps8
  go_upto_region 1 with fail
  obtain ⟨w0, hw0⟩ : ∃ X, X = w.alloc (.cells #[.int .i64 2, .int .i64 nn, .int .i64 a, .int .i64 ei, .int .i64 eg, .slice ag ng cg, .slice af nf cf] 43) := ⟨_, rfl⟩
  have B0 : Below w.heap.size w w0 := hw0 ▸ below_alloc w _
  have hx0 : w0.heap[w.heap.size]? = some (.cells #[.int .i64 2, .int .i64 nn, .int .i64 a, .int .i64 ei, .int .i64 eg, .slice ag ng cg, .slice af nf cf] 43 (0, 0)) := hw0 ▸ heap_alloc_new w _
  have hs0 : w0.heap.size = w.heap.size + 1 := by rw [hw0]; simp
  rw [← hw0]
  clear hw0
  obtain ⟨kx, hkx⟩ : ∃ k, k = w.heap.size := ⟨_, rfl⟩
  rw [← hkx] at hx0 ⊢
  have HKX := hide hkx
  have c1 : w0.cell? ⟨kx, 1, none⟩ = some (.int .i64 nn) := by rw [cell_of_row w0 kx _ _ 43 (0, 0) hx0]; rfl
  have HX0 := hide hx0
  have HS0 := hide hs0
  clear hkx hx0 hs0
  go_wp2_with fail
  refine (JP.out w0).mono ?_
  rintro e w0' ⟨rfl, rfl⟩
  obtain ⟨g0, g1⟩ := CG.out _ B0
  obtain ⟨g, hg⟩ : ∃ g, g = (G i).1 := ⟨_, rfl⟩
  obtain ⟨r, hr⟩ : ∃ r, r = (G i).2 := ⟨_, rfl⟩
  rw [← hg] at g0
  rw [← hr] at g1
  have HGG := hide hg
  have HRR := hide hr
  clear hg hr
  go_upto_region 3 with fail
  obtain ⟨w0, rfl⟩ : ∃ X, X = w0' := ⟨_, rfl⟩
  obtain ⟨w1, hw1⟩ : ∃ X, X = w0.alloc (.cells #[.pointer (some ⟨g, 0, none⟩), .pointer (some ⟨r, 0, none⟩)] 28) := ⟨_, rfl⟩
  have B1 : Below w.heap.size w w1 := below_on B0 (hw1 ▸ below_alloc w0 _)
  have hx1 : w1.heap[w0.heap.size]? = some (.cells #[.pointer (some ⟨g, 0, none⟩), .pointer (some ⟨r, 0, none⟩)] 28 (0, 0)) := hw1 ▸ heap_alloc_new w0 _
  have hy1 : w1.heap[kx]? = some (.cells #[.int .i64 2, .int .i64 nn, .int .i64 a, .int .i64 ei, .int .i64 eg, .slice ag ng cg, .slice af nf cf] 43 (0, 0)) := by
    have := HKX.out; have := HS0.out
    rw [hw1]
    exact (heap_alloc_old w0 _ (by omega)).trans HX0.out
  rw [← hw1]
  clear hw1 c1 g0 g1
  obtain ⟨kp, hkp⟩ : ∃ k, k = w0.heap.size := ⟨_, rfl⟩
  rw [← hkp] at hx1 ⊢
  have hlab : ext own w.heap.size 6 kx = 6 ∧ ext own w.heap.size 6 kp = 6 := ⟨K6.new (w := w) (Nat.le_of_eq HKX.out.symm), K6.new (w := w) (by rw [hkp]; exact B0.size)⟩
  have HLX := hide hlab.1
  have HLP := hide hlab.2
  have p0 : w1.cell? ⟨kp, 0, none⟩ = some (.pointer (some ⟨g, 0, none⟩)) := by rw [cell_of_row w1 kp _ _ 28 (0, 0) hx1]; rfl
  have p1 : w1.cell? ⟨kp, 1, none⟩ = some (.pointer (some ⟨r, 0, none⟩)) := by rw [cell_of_row w1 kp _ _ 28 (0, 0) hx1]; rfl
  have q0 : w1.cell? ⟨kx, 0, none⟩ = some (.int .i64 2) := by rw [cell_of_row w1 kx _ _ 43 (0, 0) hy1]; rfl
  have q1 : w1.cell? ⟨kx, 1, none⟩ = some (.int .i64 nn) := by rw [cell_of_row w1 kx _ _ 43 (0, 0) hy1]; rfl
  have q2 : w1.cell? ⟨kx, 2, none⟩ = some (.int .i64 a) := by rw [cell_of_row w1 kx _ _ 43 (0, 0) hy1]; rfl
  have q3 : w1.cell? ⟨kx, 3, none⟩ = some (.int .i64 ei) := by rw [cell_of_row w1 kx _ _ 43 (0, 0) hy1]; rfl
  have q4 : w1.cell? ⟨kx, 4, none⟩ = some (.int .i64 eg) := by rw [cell_of_row w1 kx _ _ 43 (0, 0) hy1]; rfl
  have q5 : w1.cell? ⟨kx, 5, none⟩ = some (.slice ag ng cg) := by rw [cell_of_row w1 kx _ _ 43 (0, 0) hy1]; rfl
  have q6 : w1.cell? ⟨kx, 6, none⟩ = some (.slice af nf cf) := by rw [cell_of_row w1 kx _ _ 43 (0, 0) hy1]; rfl
  have H1 := hide (HH.out.later B1)
  have F1 := hide (HF.out.ext B1.size 6)
  obtain ⟨o1, ho1⟩ : ∃ o, o = ext own w.heap.size 6 := ⟨_, rfl⟩
  rw [← ho1] at H1 F1 HLX HLP
  clear hkp ho1 hx1 hy1 HX0 HS0 JP
  obtain ⟨x, st, ht⟩ : ∃ x st, giv (C i) ei eg = (x, st) := ⟨_, _, rfl⟩
  have HT := hide ht
  have DR : Hid (Bw w1.drew gw (ext o1 w1.heap.size 6) G C C L ∧ K6 o1 w1 (ext o1 w1.heap.size 6) w1.drew) := ⟨H1.out.later (below_drew w1), K6.later (below_drew w1)⟩
  clear ht q1 q2 q5 q6
  have AC : Hid (∀ (W : World) (oo : Nat → Nat) (DD : Nat → St), Bw W gw oo G C DD L → K6 o1 w1 oo W → Calls Try.prog 12 #[.pointer (some ⟨g, 0, none⟩), .agg #[.int .i64 ei, .int .i64 eg]] W fun e w' => e = .returned (.int .i64 x) ∧ (∃ o', Hid (Bw w' gw o' G (upd C i st) DD L ∧ K6 o1 w1 o' w')) ∧ w'.cell? ⟨kp, 0, none⟩ = some (.pointer (some ⟨g, 0, none⟩)) ∧ w'.cell? ⟨kp, 1, none⟩ = some (.pointer (some ⟨r, 0, none⟩)) ∧ w'.cell? ⟨kx, 3, none⟩ = some (.int .i64 ei) ∧ w'.cell? ⟨kx, 4, none⟩ = some (.int .i64 eg)) := fun W oo DD hb hk => by
    have := giv_code hb hi ei eg
    rw [HT.out, ← HGG.out] at this
    exact this.mono (fun e w' ⟨h1, o', h2, h3⟩ => ⟨h1, ⟨o', h2, hk.trans h3⟩, (hk.trans h3).cell p0 HLP.out, (hk.trans h3).cell p1 HLP.out, (hk.trans h3).cell q3 HLX.out, (hk.trans h3).cell q4 HLX.out⟩)
  have AD : Hid (∀ (W : World) (oo : Nat → Nat) (CC : Nat → St), Bw W gw oo G CC C L → K6 o1 w1 oo W → Calls Try.prog 20 #[.pointer (some ⟨r, 0, none⟩), .agg #[.int .i64 ei, .int .i64 eg]] W fun e w' => e = .returned (.int .i64 x) ∧ (∃ o', Hid (Bw w' gw o' G CC (upd C i st) L ∧ K6 o1 w1 o' w')) ∧ w'.cell? ⟨kp, 0, none⟩ = some (.pointer (some ⟨g, 0, none⟩)) ∧ w'.cell? ⟨kp, 1, none⟩ = some (.pointer (some ⟨r, 0, none⟩)) ∧ w'.cell? ⟨kx, 3, none⟩ = some (.int .i64 ei) ∧ w'.cell? ⟨kx, 4, none⟩ = some (.int .i64 eg)) := fun W oo CC hb hk => by
    have := giv_doc hb hi ei eg
    rw [HT.out, ← HRR.out] at this
    exact this.mono (fun e w' ⟨h1, o', h2, h3⟩ => ⟨h1, ⟨o', h2, hk.trans h3⟩, (hk.trans h3).cell p0 HLP.out, (hk.trans h3).cell p1 HLP.out, (hk.trans h3).cell q3 HLX.out, (hk.trans h3).cell q4 HLX.out⟩)
  go_upto_region 9 with fail
  go_region_held3 (fun W => W.cell? ⟨kp, 0, none⟩ = some (.pointer (some ⟨g, 0, none⟩)) ∧ W.cell? ⟨kp, 1, none⟩ = some (.pointer (some ⟨r, 0, none⟩)) ∧ W.cell? ⟨kx, 3, none⟩ = some (.int .i64 ei) ∧ W.cell? ⟨kx, 4, none⟩ = some (.int .i64 eg)) (go_keep) (first | (go_at_call 12; first | (refine (AC.out _ _ _ HD1.out.1 HD1.out.2).mono ?_; rintro e w2 ⟨rfl, ⟨o9, HE⟩, d0, d1, d2, d3⟩) | (refine (AC.out _ _ _ DR.out.1 DR.out.2).mono ?_; rintro e w2 ⟨rfl, ⟨o8, HC1⟩, d0, d1, d2, d3⟩)) | (go_at_call 20; first | (refine (AD.out _ _ _ HC1.out.1 HC1.out.2).mono ?_; rintro e w2 ⟨rfl, ⟨o9, HE⟩, d0, d1, d2, d3⟩) | (refine (AD.out _ _ _ DR.out.1 DR.out.2).mono ?_; rintro e w2 ⟨rfl, ⟨o8, HD1⟩, d0, d1, d2, d3⟩)))
  all_goals
    go_wp2_with fail
    go_ret
    obtain ⟨f1, f2⟩ := HE.out.2.fe F1.out
    exact ⟨rfl, G, upd C i st, L, HE.out.1.bu f1, by omega, (B1.mono HF.out.1).trans f2⟩
set_option maxHeartbeats 40000000 in
set_option maxRecDepth 1000000 in
theorem step_3 (gw B : Nat) (own : Nat → Nat) (G : Nat → Nat × Nat) (C : Nat → St) (L : List Held) (w : World) (nn a ei eg : Int) (ag af : Option Addr) (ng cg nf cf : Nat) (h : Bw w gw own G C C L) (hF : Fe own B w) (_hL : L.length ≤ 1000000) (hn0 : -9223372036854775808 ≤ nn) (hn1 : nn ≤ 9223372036854775807) (ha0 : -9223372036854775808 ≤ a) (ha1 : a ≤ 9223372036854775807) :
    Calls Try.prog 8 #[.pointer (some ⟨gw, 0, none⟩), .agg #[.int .i64 3, .int .i64 nn, .int .i64 a, .int .i64 ei, .int .i64 eg, .slice ag ng cg, .slice af nf cf]] w fun e w' => e = .returned (.bool true) ∧ Go1 w gw B (L.length + 8) w' := by
  have HH := hide h
  have HF := hide hF
  have JP : Hid (∀ W : World, Calls Try.prog 11 #[.int .i64 nn, .int .i64 2] W fun e w' => e = .returned (.int .i64 (pk nn 2 : Int)) ∧ w' = W) := fun W => pick_any nn 2 W hn0 hn1 (by omega) (by omega)
  have hi : pk nn 2 < 2 := pk_lt nn (by omega)
  generalize pk nn 2 = i at *
  have CG : Hid (∀ W, Below w.heap.size w W → W.cell? ⟨gw, i * 2, none⟩ = some (.pointer (some ⟨(G i).1, 0, none⟩)) ∧ W.cell? ⟨gw, i * 2 + 1, none⟩ = some (.pointer (some ⟨(G i).2, 0, none⟩))) := fun W hb => ((h.bu hF).later hb).pair hi
  have ti : (i : Int) < 2 := by omega
  clear h hF hn0 hn1
  go_enter Try.func8, Try.ntmps8
  go_upto_region 1 with fail
  obtain ⟨w0, hw0⟩ : ∃ X, X = w.alloc (.cells #[.int .i64 3, .int .i64 nn, .int .i64 a, .int .i64 ei, .int .i64 eg, .slice ag ng cg, .slice af nf cf] 43) := ⟨_, rfl⟩
  have B0 : Below w.heap.size w w0 := hw0 ▸ below_alloc w _
  have hx0 : w0.heap[w.heap.size]? = some (.cells #[.int .i64 3, .int .i64 nn, .int .i64 a, .int .i64 ei, .int .i64 eg, .slice ag ng cg, .slice af nf cf] 43 (0, 0)) := hw0 ▸ heap_alloc_new w _
  have hs0 : w0.heap.size = w.heap.size + 1 := by rw [hw0]; simp
  rw [← hw0]
  clear hw0
  obtain ⟨kx, hkx⟩ : ∃ k, k = w.heap.size := ⟨_, rfl⟩
  rw [← hkx] at hx0 ⊢
  have HKX := hide hkx
  have c1 : w0.cell? ⟨kx, 1, none⟩ = some (.int .i64 nn) := by rw [cell_of_row w0 kx _ _ 43 (0, 0) hx0]; rfl
  have HX0 := hide hx0
  have HS0 := hide hs0
  clear hkx hx0 hs0
  go_wp2_with fail
  refine (JP.out w0).mono ?_
  rintro e w0' ⟨rfl, rfl⟩
  obtain ⟨g0, g1⟩ := CG.out _ B0
  obtain ⟨g, hg⟩ : ∃ g, g = (G i).1 := ⟨_, rfl⟩
  obtain ⟨r, hr⟩ : ∃ r, r = (G i).2 := ⟨_, rfl⟩
  rw [← hg] at g0
  rw [← hr] at g1
  have HGG := hide hg
  have HRR := hide hr
  clear hg hr
  go_upto_region 3 with fail
  obtain ⟨w0, rfl⟩ : ∃ X, X = w0' := ⟨_, rfl⟩
  obtain ⟨w1, hw1⟩ : ∃ X, X = w0.alloc (.cells #[.pointer (some ⟨g, 0, none⟩), .pointer (some ⟨r, 0, none⟩)] 28) := ⟨_, rfl⟩
  have B1 : Below w.heap.size w w1 := below_on B0 (hw1 ▸ below_alloc w0 _)
  have hx1 : w1.heap[w0.heap.size]? = some (.cells #[.pointer (some ⟨g, 0, none⟩), .pointer (some ⟨r, 0, none⟩)] 28 (0, 0)) := hw1 ▸ heap_alloc_new w0 _
  have hy1 : w1.heap[kx]? = some (.cells #[.int .i64 3, .int .i64 nn, .int .i64 a, .int .i64 ei, .int .i64 eg, .slice ag ng cg, .slice af nf cf] 43 (0, 0)) := by
    have := HKX.out; have := HS0.out
    rw [hw1]
    exact (heap_alloc_old w0 _ (by omega)).trans HX0.out
  rw [← hw1]
  clear hw1 c1 g0 g1
  obtain ⟨kp, hkp⟩ : ∃ k, k = w0.heap.size := ⟨_, rfl⟩
  rw [← hkp] at hx1 ⊢
  have hlab : ext own w.heap.size 6 kx = 6 ∧ ext own w.heap.size 6 kp = 6 := ⟨K6.new (w := w) (Nat.le_of_eq HKX.out.symm), K6.new (w := w) (by rw [hkp]; exact B0.size)⟩
  have HLX := hide hlab.1
  have HLP := hide hlab.2
  have p0 : w1.cell? ⟨kp, 0, none⟩ = some (.pointer (some ⟨g, 0, none⟩)) := by rw [cell_of_row w1 kp _ _ 28 (0, 0) hx1]; rfl
  have p1 : w1.cell? ⟨kp, 1, none⟩ = some (.pointer (some ⟨r, 0, none⟩)) := by rw [cell_of_row w1 kp _ _ 28 (0, 0) hx1]; rfl
  have q0 : w1.cell? ⟨kx, 0, none⟩ = some (.int .i64 3) := by rw [cell_of_row w1 kx _ _ 43 (0, 0) hy1]; rfl
  have q1 : w1.cell? ⟨kx, 1, none⟩ = some (.int .i64 nn) := by rw [cell_of_row w1 kx _ _ 43 (0, 0) hy1]; rfl
  have q2 : w1.cell? ⟨kx, 2, none⟩ = some (.int .i64 a) := by rw [cell_of_row w1 kx _ _ 43 (0, 0) hy1]; rfl
  have q3 : w1.cell? ⟨kx, 3, none⟩ = some (.int .i64 ei) := by rw [cell_of_row w1 kx _ _ 43 (0, 0) hy1]; rfl
  have q4 : w1.cell? ⟨kx, 4, none⟩ = some (.int .i64 eg) := by rw [cell_of_row w1 kx _ _ 43 (0, 0) hy1]; rfl
  have q5 : w1.cell? ⟨kx, 5, none⟩ = some (.slice ag ng cg) := by rw [cell_of_row w1 kx _ _ 43 (0, 0) hy1]; rfl
  have q6 : w1.cell? ⟨kx, 6, none⟩ = some (.slice af nf cf) := by rw [cell_of_row w1 kx _ _ 43 (0, 0) hy1]; rfl
  have H1 := hide (HH.out.later B1)
  have F1 := hide (HF.out.ext B1.size 6)
  obtain ⟨o1, ho1⟩ : ∃ o, o = ext own w.heap.size 6 := ⟨_, rfl⟩
  rw [← ho1] at H1 F1 HLX HLP
  clear hkp ho1 hx1 hy1 HX0 HS0 JP
  have JA : Hid (Calls Try.prog 21 #[.pointer (some ⟨r, 0, none⟩)] w1 fun e w' => ∃ v, e = .returned v ∧ w'.ownsRow w1.heap.size 41 2 v ((lvOf (C i).2.1 (C i).2.2).filter nz).length (ec ((lvOf (C i).2.1 (C i).2.2).filter nz)) ∧ Below w1.heap.size w1 w') := by
    rw [HRR.out]
    exact dall_any (H1.out.2.1 i hi)
  have hlx : ((lvOf (C i).2.1 (C i).2.2).filter nz).length ≤ 1000000 := by
    have := lv_len (H1.out.1 i hi).2
    exact Nat.le_trans (List.length_filter_le _ _) this
  generalize (lvOf (C i).2.1 (C i).2.2).filter nz = lx at *
  go_wp2_with fail
  refine JA.out.mono ?_
  rintro e w2 ⟨v, rfl, ov, B2⟩
  obtain ⟨ao, cv, rfl⟩ := own_len ov
  obtain ⟨hv1, hv2⟩ := own_cap ov
  clear JA q0
  by_cases h0 : lx.length = 0
  · have e0 : ((lx.length : Int) == 0) = true := by rw [h0]; rfl
    clear p0 p1 q1 q2 q3 q4 q5 q6 ov
    have HZ := hide h0
    clear h0
    go_wp2_with fail
    go_ret
    exact ⟨rfl, G, C, L, (H1.out.bu F1.out).later B2, by omega, (B1.mono HF.out.1).trans (B2.mono F1.out.1)⟩
  · have e0 : ((lx.length : Int) == 0) = false := by rw [beq_eq_false_iff_ne]; omega
    obtain ⟨gl, cv', e, -, -⟩ := own_form ov (by omega)
    simp only [Value.slice.injEq] at e
    obtain ⟨rfl, -, rfl⟩ := e
    have JP := hide (pick_any a lx.length w2 ha0 ha1 (by omega) (by omega))
    have hk : pk a lx.length < lx.length := pk_lt a (by omega)
    generalize pk a lx.length = k at *
    obtain ⟨b0, b1⟩ := own_ent ov k hk
    generalize lx[k].1 = u1 at *
    generalize lx[k].2 = u2 at *
    have tk : (k : Int) < (lx.length : Int) := by omega
    have s2 : w2.cell? ⟨kx, 2, none⟩ = some (.int .i64 a) := (B2.cell (p := ⟨kx, 2, none⟩) (World.block_lt_of_cell? w1 _ q2)).trans q2
    have P0 := hide p0
    have P1 := hide p1
    clear ov h0 p0 p1 q1 q2 q3 q4 q5 q6
    go_wp2_with fail
    refine JP.out.mono ?_
    rintro e w2' ⟨rfl, rfl⟩
    go_upto_region 15 with fail
    obtain ⟨w2, rfl⟩ : ∃ X, X = w2' := ⟨_, rfl⟩
    obtain ⟨w3, hw3⟩ : ∃ X, X = w2.alloc (.cells #[.int .i64 (u1 : Int), .int .i64 (u2 : Int)] 41) := ⟨_, rfl⟩
    have B3 : Below w1.heap.size w1 w3 := below_on B2 (hw3 ▸ below_alloc w2 _)
    have hz3 : w3.heap[w2.heap.size]? = some (.cells #[.int .i64 (u1 : Int), .int .i64 (u2 : Int)] 41 (0, 0)) := hw3 ▸ heap_alloc_new w2 _
    rw [← hw3]
    obtain ⟨kq, hkq⟩ : ∃ k, k = w2.heap.size := ⟨_, rfl⟩
    rw [← hkq] at hz3 ⊢
    have r0 := (B3.cell (p := ⟨kp, 0, none⟩) (World.block_lt_of_cell? w1 _ P0.out)).trans P0.out
    have r1 := (B3.cell (p := ⟨kp, 1, none⟩) (World.block_lt_of_cell? w1 _ P1.out)).trans P1.out
    have r2 : w3.cell? ⟨kq, 0, none⟩ = some (.int .i64 (u1 : Int)) := by rw [cell_of_row w3 kq _ _ 41 (0, 0) hz3]; rfl
    have r3 : w3.cell? ⟨kq, 1, none⟩ = some (.int .i64 (u2 : Int)) := by rw [cell_of_row w3 kq _ _ 41 (0, 0) hz3]; rfl
    have H3 := hide (H1.out.later B3)
    have F3 := hide (F1.out.ext B3.size 6)
    have C3 : Below w.heap.size w w3 := below_on B1 B3
    have HL3 : Hid (ext o1 w1.heap.size 6 kp = 6 ∧ ext o1 w1.heap.size 6 kq = 6) := ⟨(K6.later B3).2 kp (World.block_lt_of_cell? w1 _ P0.out) HLP.out, K6.new (w := w1) (by rw [hkq]; exact B2.size)⟩
    obtain ⟨o3, ho3⟩ : ∃ o, o = ext o1 w1.heap.size 6 := ⟨_, rfl⟩
    rw [← ho3] at H3 F3 HL3
    obtain ⟨x, st, ht⟩ : ∃ x st, giv (C i) (u1 : Int) (u2 : Int) = (x, st) := ⟨_, _, rfl⟩
    have HT := hide ht
    have DR : Hid (Bw w3.drew gw (ext o3 w3.heap.size 6) G C C L ∧ K6 o3 w3 (ext o3 w3.heap.size 6) w3.drew) := ⟨H3.out.later (below_drew w3), K6.later (below_drew w3)⟩
    clear ht hkq ho3 hw3 hz3 s2 b0 b1
    have AC : Hid (∀ (W : World) (oo : Nat → Nat) (DD : Nat → St), Bw W gw oo G C DD L → K6 o3 w3 oo W → Calls Try.prog 12 #[.pointer (some ⟨g, 0, none⟩), .agg #[.int .i64 (u1 : Int), .int .i64 (u2 : Int)]] W fun e w' => e = .returned (.int .i64 x) ∧ (∃ o', Hid (Bw w' gw o' G (upd C i st) DD L ∧ K6 o3 w3 o' w')) ∧ w'.cell? ⟨kp, 0, none⟩ = some (.pointer (some ⟨g, 0, none⟩)) ∧ w'.cell? ⟨kp, 1, none⟩ = some (.pointer (some ⟨r, 0, none⟩)) ∧ w'.cell? ⟨kq, 0, none⟩ = some (.int .i64 (u1 : Int)) ∧ w'.cell? ⟨kq, 1, none⟩ = some (.int .i64 (u2 : Int))) := fun W oo DD hb hk => by
      have := giv_code hb hi (u1 : Int) (u2 : Int)
      rw [HT.out, ← HGG.out] at this
      exact this.mono (fun e w' ⟨h1, o', h2, h3⟩ => ⟨h1, ⟨o', h2, hk.trans h3⟩, (hk.trans h3).cell r0 HL3.out.1, (hk.trans h3).cell r1 HL3.out.1, (hk.trans h3).cell r2 HL3.out.2, (hk.trans h3).cell r3 HL3.out.2⟩)
    have AD : Hid (∀ (W : World) (oo : Nat → Nat) (CC : Nat → St), Bw W gw oo G CC C L → K6 o3 w3 oo W → Calls Try.prog 20 #[.pointer (some ⟨r, 0, none⟩), .agg #[.int .i64 (u1 : Int), .int .i64 (u2 : Int)]] W fun e w' => e = .returned (.int .i64 x) ∧ (∃ o', Hid (Bw w' gw o' G CC (upd C i st) L ∧ K6 o3 w3 o' w')) ∧ w'.cell? ⟨kp, 0, none⟩ = some (.pointer (some ⟨g, 0, none⟩)) ∧ w'.cell? ⟨kp, 1, none⟩ = some (.pointer (some ⟨r, 0, none⟩)) ∧ w'.cell? ⟨kq, 0, none⟩ = some (.int .i64 (u1 : Int)) ∧ w'.cell? ⟨kq, 1, none⟩ = some (.int .i64 (u2 : Int))) := fun W oo CC hb hk => by
      have := giv_doc hb hi (u1 : Int) (u2 : Int)
      rw [HT.out, ← HRR.out] at this
      exact this.mono (fun e w' ⟨h1, o', h2, h3⟩ => ⟨h1, ⟨o', h2, hk.trans h3⟩, (hk.trans h3).cell r0 HL3.out.1, (hk.trans h3).cell r1 HL3.out.1, (hk.trans h3).cell r2 HL3.out.2, (hk.trans h3).cell r3 HL3.out.2⟩)
    go_region_held3 (fun W => W.cell? ⟨kp, 0, none⟩ = some (.pointer (some ⟨g, 0, none⟩)) ∧ W.cell? ⟨kp, 1, none⟩ = some (.pointer (some ⟨r, 0, none⟩)) ∧ W.cell? ⟨kq, 0, none⟩ = some (.int .i64 (u1 : Int)) ∧ W.cell? ⟨kq, 1, none⟩ = some (.int .i64 (u2 : Int))) (go_keep) (first | (go_at_call 12; first | (refine (AC.out _ _ _ HD1.out.1 HD1.out.2).mono ?_; rintro e w2 ⟨rfl, ⟨o9, HE⟩, d0, d1, d2, d3⟩) | (refine (AC.out _ _ _ DR.out.1 DR.out.2).mono ?_; rintro e w2 ⟨rfl, ⟨o8, HC1⟩, d0, d1, d2, d3⟩)) | (go_at_call 20; first | (refine (AD.out _ _ _ HC1.out.1 HC1.out.2).mono ?_; rintro e w2 ⟨rfl, ⟨o9, HE⟩, d0, d1, d2, d3⟩) | (refine (AD.out _ _ _ DR.out.1 DR.out.2).mono ?_; rintro e w2 ⟨rfl, ⟨o8, HD1⟩, d0, d1, d2, d3⟩)))
    all_goals
      go_wp2_with fail
      go_ret
      obtain ⟨f1, f2⟩ := HE.out.2.fe F3.out
      exact ⟨rfl, G, upd C i st, L, HE.out.1.bu f1, by omega, (C3.mono HF.out.1).trans f2⟩
end Go.Proofs.Ytejbdhbphbgckaa
