/-
  The law's step: Remove.
-/
import Derived.Test.YtlnjphfkinajdaaAs0
import Derived.Test.YtlnjphfkinajdaaSp1
namespace Go.Proofs.Ytlnjphfkinajdaa
open Go.RowKit
section
variable {w : World} {own : Nat → Nat} {gw n M B : Nat} {G : Nat → Nat × Nat} {C : Nat → Ts} {L : List Held}
set_option maxHeartbeats 40000000 in
set_option maxRecDepth 1000000 in
theorem step_3 (h : Bw w gw M own G n C C L) (hF : Fe own B w) (on row col e1 e2 x : Int) (av : Option Addr) (nv cv : Nat) (hn1 : 1 ≤ n) (hn : n ≤ 1000) (hM : M ≤ 900000) (_hL : L.length ≤ 800000) (ho : -9223372036854775808 ≤ on ∧ on ≤ 9223372036854775807) (_hE : InB (e1, e2)) :
    Calls Try.prog 7 #[.pointer (some ⟨gw, 0, none⟩), .agg #[.int .i64 3, .int .i64 on, .int .i64 row, .int .i64 col, .int .i64 e1, .int .i64 e2, .int .i64 x, .slice av nv cv]] w fun e w' => e = .returned (.bool true) ∧ Gs w gw B (M + 700) (n + 1) (L.length + 4) w' := by
  have HH := hide h
  have HF := hide hF
  go_enter Try.func7, Try.ntmps7
  go_upto_region 1 with fail
  obtain ⟨w0, hw0⟩ : ∃ X, X = w.alloc (.cells #[.int .i64 3, .int .i64 on, .int .i64 row, .int .i64 col, .int .i64 e1, .int .i64 e2, .int .i64 x, .slice av nv cv] 34) := ⟨_, rfl⟩
  have B0 : Below w.heap.size w w0 := hw0 ▸ below_alloc w _
  have hq0 : w0.heap[w.heap.size]? = some (.cells #[.int .i64 3, .int .i64 on, .int .i64 row, .int .i64 col, .int .i64 e1, .int .i64 e2, .int .i64 x, .slice av nv cv] 34 (0, 0)) := hw0 ▸ heap_alloc_new w _
  have hs0 : w0.heap.size = w.heap.size + 1 := by rw [hw0]; simp
  rw [← hw0]
  obtain ⟨ks, hks⟩ : ∃ k, k = w.heap.size := ⟨_, rfl⟩
  rw [← hks] at hq0 ⊢
  have HQ0 := hide hq0
  obtain ⟨o0, ho0⟩ : ∃ o, o = ext own w.heap.size 0 := ⟨_, rfl⟩
  have H0 : Hid (Bw w0 gw M o0 G n C C L) := ho0 ▸ hide (HH.out.later B0)
  have F0 : Hid (Fe o0 B w0) := ho0 ▸ hide (HF.out.ext B0.size 0)
  have BB0 : Hid (Below B w w0) := hide (B0.mono HF.out.1)
  have zs : Hid (o0 ks = 0) := by rw [ho0]; exact hide (ext_new (by omega))
  have HB0 := hide B0
  clear hw0 hq0 hks ho0 HH B0 h hF hs0
  have CB : Hid (∀ W : World, W.heap[ks]? = w0.heap[ks]? → W.cell? ⟨ks, 0, none⟩ = some (.int .i64 3) ∧ W.cell? ⟨ks, 1, none⟩ = some (.int .i64 on) ∧ W.cell? ⟨ks, 2, none⟩ = some (.int .i64 row) ∧ W.cell? ⟨ks, 3, none⟩ = some (.int .i64 col) ∧ W.cell? ⟨ks, 4, none⟩ = some (.int .i64 e1) ∧ W.cell? ⟨ks, 5, none⟩ = some (.int .i64 e2) ∧ W.cell? ⟨ks, 6, none⟩ = some (.int .i64 x) ∧ W.cell? ⟨ks, 7, none⟩ = some (.slice av nv cv)) := fun W h2 => by
    have h4 := h2.trans HQ0.out
    refine ⟨?_, ?_, ?_, ?_, ?_, ?_, ?_, ?_⟩
    all_goals rw [cell_of_row W ks _ _ 34 (0, 0) h4]; rfl
  have JP : Hid (∀ W : World, Calls Try.prog 9 #[.int .i64 on, .int .i64 (n : Int)] W fun e w' => e = .returned (.int .i64 (pk on n : Int)) ∧ w' = W) := fun W => pick_any on n W ho.1 ho.2 (by omega) (by omega)
  have hi : pk on n < n := pk_lt on (by omega)
  generalize pk on n = i at *
  obtain ⟨gl, cl, hpr⟩ := Bu.pair H0.out hi
  have HPR := hide hpr
  obtain ⟨g, hg⟩ : ∃ g, g = (G i).1 := ⟨_, rfl⟩
  obtain ⟨r, hr⟩ : ∃ r, r = (G i).2 := ⟨_, rfl⟩
  unfold ptr at HPR
  rw [← hg, ← hr] at HPR
  have HG := hide hg
  have HR := hide hr
  have ti : (i : Int) < (n : Int) := by omega
  have HPW : Hid (∀ W, Below w0.heap.size w0 W → W.cell? ⟨gw, 0, none⟩ = some (.slice (some ⟨gl, 0, none⟩) n cl) ∧ W.cell? ⟨ks, 1, none⟩ = some (.int .i64 on) ∧ W.cell? ⟨gl, i * 2, none⟩ = some (.pointer (some ⟨g, 0, none⟩)) ∧ W.cell? ⟨gl, i * 2 + 1, none⟩ = some (.pointer (some ⟨r, 0, none⟩))) := fun W hW => ⟨(HPR.out W hW).1, (CB.out W (hW.block ks (lt_of_block HQ0.out))).2.1, (HPR.out W hW).2⟩
  clear hpr hg hr HPR ho
  obtain ⟨c0, -, -, -, -, -, -, -⟩ := CB.out w0 rfl
  have e1' : ((3 : Int) == 1) = false := by decide
  obtain ⟨d0, d1, d2, d3⟩ := HPW.out w0 (Below.refl _ _)
  have x0 := fun o => (HPW.out _ (below_on (below_alloc w0 o) (below_drew _))).1
  have x1 := fun o => (HPW.out _ (below_on (below_alloc w0 o) (below_drew _))).2.1
  have x2 := fun o => (HPW.out _ (below_on (below_alloc w0 o) (below_drew _))).2.2.1
  have x3 := fun o => (HPW.out _ (below_on (below_alloc w0 o) (below_drew _))).2.2.2
  go_upto_region 7 with fail
  have y0 := World.new_ne w0 _ d0
  have y1 := World.new_ne w0 _ d1
  have y2 := World.new_ne w0 _ d2
  have y3 := World.new_ne w0 _ d3
  go_cut [9] (fun v9 W => v9 = .pointer (some ⟨w0.heap.size, 0, none⟩) ∧ Hid (W = (w0.alloc (.cells #[.pointer (some ⟨g, 0, none⟩), .pointer (some ⟨r, 0, none⟩)] 64)).drew))
  case first =>
    go_region_held3 (fun W => W.cell? ⟨gw, 0, none⟩ = some (.slice (some ⟨gl, 0, none⟩) n cl) ∧ W.cell? ⟨ks, 1, none⟩ = some (.int .i64 on) ∧ W.cell? ⟨gl, i * 2, none⟩ = some (.pointer (some ⟨g, 0, none⟩)) ∧ W.cell? ⟨gl, i * 2 + 1, none⟩ = some (.pointer (some ⟨r, 0, none⟩))) (go_keep) (first | (go_at_call 9; refine (JP.out _).mono ?_; rintro e w1 ⟨rfl, rfl⟩))
    all_goals
      go_wp2_with fail
      go_meet
      exact ⟨rfl, rfl⟩
  obtain ⟨rfl, HWC⟩ := hcut
  obtain ⟨w1, rfl⟩ : ∃ X, X = wc := ⟨_, rfl⟩
  obtain ⟨kp, hkp⟩ : ∃ k, k = w0.heap.size := ⟨_, rfl⟩
  rw [← hkp]
  have b01 : Below w0.heap.size w0 w1 := by rw [HWC.out]; exact below_on (below_alloc w0 _) (below_drew _)
  have hp1 : w1.heap[kp]? = some (.cells #[.pointer (some ⟨g, 0, none⟩), .pointer (some ⟨r, 0, none⟩)] 64 (0, 0)) := by
    rw [HWC.out, hkp]
    exact ((below_drew _).block _ (by simp)).trans (heap_alloc_new w0 _)
  obtain ⟨o1, ho1⟩ : ∃ o, o = ext o0 w0.heap.size 0 := ⟨_, rfl⟩
  have H1 : Hid (Bw w1 gw M o1 G n C C L) := ho1 ▸ hide (H0.out.later b01)
  have F1 : Hid (Fe o1 B w1) := ho1 ▸ hide (F0.out.ext b01.size 0)
  have BB1 : Hid (Below B w w1) := hide (BB0.out.trans (b01.mono F0.out.1))
  have BW1 : Hid (Below w.heap.size w w1) := hide (below_on HB0.out b01)
  have zp1 : Hid (o1 kp = 0) := by rw [ho1]; exact hide (ext_new (by omega))
  have zs1 : Hid (o1 ks = 0) := by rw [ho1, ext_old (lt_of_block HQ0.out)]; exact zs
  have HP1 := hide hp1
  have HQ1 := hide ((b01.block ks (lt_of_block HQ0.out)).trans HQ0.out)
  have CB1 : Hid (∀ W : World, W.heap[ks]? = w1.heap[ks]? → W.heap[kp]? = w1.heap[kp]? → (W.cell? ⟨ks, 0, none⟩ = some (.int .i64 3) ∧ W.cell? ⟨ks, 1, none⟩ = some (.int .i64 on) ∧ W.cell? ⟨ks, 2, none⟩ = some (.int .i64 row) ∧ W.cell? ⟨ks, 3, none⟩ = some (.int .i64 col) ∧ W.cell? ⟨ks, 4, none⟩ = some (.int .i64 e1) ∧ W.cell? ⟨ks, 5, none⟩ = some (.int .i64 e2) ∧ W.cell? ⟨ks, 6, none⟩ = some (.int .i64 x) ∧ W.cell? ⟨ks, 7, none⟩ = some (.slice av nv cv)) ∧ W.cell? ⟨kp, 0, none⟩ = some (.pointer (some ⟨g, 0, none⟩)) ∧ W.cell? ⟨kp, 1, none⟩ = some (.pointer (some ⟨r, 0, none⟩))) := fun W h1 h2 => by
    refine ⟨CB.out W (h1.trans (b01.block ks (lt_of_block HQ0.out))), ?_, ?_⟩
    all_goals rw [cell_of_row W kp _ _ 64 (0, 0) (h2.trans HP1.out)]; rfl
  clear hkp hp1 ho1 b01 HWC H0 F0 BB0 zs HQ0 CB HPW d0 d1 d2 d3 x0 x1 x2 x3 y0 y1 y2 y3 c0 JP HB0
  obtain ⟨⟨c0, c1, c2, c3, c4, c5, c6, c7⟩, q0, q1⟩ := CB1.out w1 rfl rfl
  have J1 : Hid (Calls Try.prog 13 #[.pointer (some ⟨g, 0, none⟩), .int .i64 row] w1 fun e w' => ∃ p1 p2 bb z st, Hid (remS (C i) row = ((p1, p2), bb, z, st)) ∧ e = .returned (.tuple #[.agg #[.int .i64 p1, .int .i64 p2], .bool bb, .int .i64 z]) ∧ Hid (∃ own', Bw w' gw (M + 1) own' G n (upd C i st) C L ∧ K0 o1 w1 own' w')) := by
    have hc := rem_code H1.out hi row (by omega)
    rw [← HG.out] at hc
    refine hc.mono ?_
    rintro e w' ⟨rfl, h⟩
    exact ⟨_, _, _, _, _, hide rfl, rfl, h⟩
  go_wp2_with fail
  refine J1.out.mono ?_
  rintro e w2 ⟨p1, p2, bb, z, st, HE, rfl, HA⟩
  clear c0 c1 c2 c3 c4 c5 c6 c7 q0 q1 J1
  go_upto_region 13 with fail
  obtain ⟨w3, hw3⟩ : ∃ X, X = w2.alloc (.cells #[.int .i64 p1, .int .i64 p2] 32) := ⟨_, rfl⟩
  have b23 : Below w2.heap.size w2 w3 := hw3 ▸ below_alloc w2 _
  have hka : w3.heap[w2.heap.size]? = some (.cells #[.int .i64 p1, .int .i64 p2] 32 (0, 0)) := hw3 ▸ heap_alloc_new w2 _
  rw [← hw3]
  obtain ⟨ka, hka'⟩ : ∃ k, k = w2.heap.size := ⟨_, rfl⟩
  rw [← hka'] at hka ⊢
  have HA3 : Hid (∃ own', Bw w3 gw (M + 1) own' G n (upd C i st) C L ∧ K0 o1 w1 own' w3 ∧ own' ka = 0) := by
    obtain ⟨own', a1, a2⟩ := HA.out
    exact ⟨_, a1.later b23, a2.trans (K0.later b23), ext_new (by omega)⟩
  have HKA := hide hka
  have hk3 : Hid (w3.heap[ks]? = w1.heap[ks]? ∧ w3.heap[kp]? = w1.heap[kp]?) := by
    obtain ⟨own', a1, a2, -⟩ := HA3.out
    exact ⟨a2.1.2.2.2.2 ks (lt_of_block HQ1.out) (fun e => e zs1.out), a2.1.2.2.2.2 kp (lt_of_block HP1.out) (fun e => e zp1.out)⟩
  obtain ⟨⟨c0, c1, c2, c3, c4, c5, c6, c7⟩, q0, q1⟩ := CB1.out w3 hk3.out.1 hk3.out.2
  have J2 : Hid (Calls Try.prog 22 #[.pointer (some ⟨r, 0, none⟩), .int .i64 row] w3 fun e w' => e = .returned (.tuple #[.agg #[.int .i64 p1, .int .i64 p2], .bool bb, .int .i64 z]) ∧ Hid (∀ o, Gs w gw B (M + 700) (n + 1) (L.length + 4) (w'.alloc o)) ∧ (w'.cell? ⟨ka, 0, none⟩ = some (.int .i64 p1) ∧ w'.cell? ⟨ka, 1, none⟩ = some (.int .i64 p2)) ∧ ∀ o, (w'.alloc o).cell? ⟨ka, 0, none⟩ = some (.int .i64 p1) ∧ (w'.alloc o).cell? ⟨ka, 1, none⟩ = some (.int .i64 p2)) := by
    obtain ⟨own', a1, a2, a3⟩ := HA3.out
    have hc := rem_doc a1 hi row
    rw [HE.out, ← HR.out] at hc
    refine hc.mono ?_
    rintro e w' ⟨rfl, own2, b1, b2⟩
    obtain ⟨f1, f2⟩ := (a2.trans b2).fe F1.out
    have hk' := b2.1.at HKA.out (fun e => e a3)
    have hk2 : ∀ o, (w'.alloc o).heap[ka]? = some (.cells #[.int .i64 p1, .int .i64 p2] 32 (0, 0)) := fun o => ((below_alloc w' o).block ka (lt_of_block hk')).trans hk'
    refine ⟨rfl, fun o => ⟨G, n, upd C i st, L, Bu.later ⟨own2, f1, b1.bound (by omega)⟩ (below_alloc w' o), hn1, by omega, by omega, (BB1.out.trans f2).trans ((below_alloc w' o).mono f1.1)⟩, ⟨by rw [cell_of_row w' ka _ _ 32 (0, 0) hk']; rfl, by rw [cell_of_row w' ka _ _ 32 (0, 0) hk']; rfl⟩, fun o => ⟨by rw [cell_of_row _ ka _ _ 32 (0, 0) (hk2 o)]; rfl, by rw [cell_of_row _ ka _ _ 32 (0, 0) (hk2 o)]; rfl⟩⟩
  clear hka' hka hw3 b23 HA HA3 HKA hk3 H1 F1 BB1 BW1 zp1 zs1 HP1 HQ1 CB1
  go_wp2_with fail
  refine J2.out.mono ?_
  rintro e w4 ⟨rfl, HZ, ⟨m0, m1⟩, mm⟩
  have m2 := fun o => (mm o).1
  have m3 := fun o => (mm o).2
  clear c0 c1 c2 c3 c4 c5 c6 c7 q0 q1 J2 mm
  cases bb <;> (go_wp2_with fail; go_ret; exact ⟨rfl, HZ.out _⟩)
end
end Go.Proofs.Ytlnjphfkinajdaa
