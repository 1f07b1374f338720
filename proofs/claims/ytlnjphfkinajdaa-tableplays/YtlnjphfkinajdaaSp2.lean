/-
  The law's step: Add.
-/
import Derived.Test.YtlnjphfkinajdaaAs0
import Derived.Test.YtlnjphfkinajdaaSp1
import Derived.Test.YtlnjphfkinajdaaAdW
namespace Go.Proofs.Ytlnjphfkinajdaa
open Go.RowKit
section
variable {w : World} {own : Nat → Nat} {gw n M B : Nat} {G : Nat → Nat × Nat} {C : Nat → Ts} {L : List Held}
set_option maxHeartbeats 40000000 in
set_option maxRecDepth 1000000 in
theorem step_2 (h : Bw w gw M own G n C C L) (hF : Fe own B w) (on row col e1 e2 x : Int) (av : Option Addr) (nv cv : Nat) (hn1 : 1 ≤ n) (hn : n ≤ 1000) (hM : M ≤ 900000) (_hL : L.length ≤ 800000) (ho : -9223372036854775808 ≤ on ∧ on ≤ 9223372036854775807) (hE : InB (e1, e2)) (vals : List Int) (hv : Fz w (.slice av nv cv) vals) (hv0 : 0 < vals.length → ∀ k, (Value.slice av nv cv).ownBlock = some k → own k = 0) (hvl : vals.length ≤ 17592186044416) :
    Calls Try.prog 7 #[.pointer (some ⟨gw, 0, none⟩), .agg #[.int .i64 2, .int .i64 on, .int .i64 row, .int .i64 col, .int .i64 e1, .int .i64 e2, .int .i64 x, .slice av nv cv]] w fun e w' => e = .returned (.bool true) ∧ Gs w gw B (M + 700) (n + 1) (L.length + 4) w' := by
  have HV := hide (And.intro hv hv0)
  clear hv hv0
  have HH := hide h
  have HF := hide hF
  go_enter Try.func7, Try.ntmps7
  go_upto_region 1 with fail
  obtain ⟨w0, hw0⟩ : ∃ X, X = w.alloc (.cells #[.int .i64 2, .int .i64 on, .int .i64 row, .int .i64 col, .int .i64 e1, .int .i64 e2, .int .i64 x, .slice av nv cv] 34) := ⟨_, rfl⟩
  have B0 : Below w.heap.size w w0 := hw0 ▸ below_alloc w _
  have hq0 : w0.heap[w.heap.size]? = some (.cells #[.int .i64 2, .int .i64 on, .int .i64 row, .int .i64 col, .int .i64 e1, .int .i64 e2, .int .i64 x, .slice av nv cv] 34 (0, 0)) := hw0 ▸ heap_alloc_new w _
  have hs0 : w0.heap.size = w.heap.size + 1 := by rw [hw0]; simp
  rw [← hw0]
  obtain ⟨ks, hks⟩ : ∃ k, k = w.heap.size := ⟨_, rfl⟩
  rw [← hks] at hq0 ⊢
  have HQ0 := hide hq0
  obtain ⟨o0, ho0⟩ : ∃ o, o = ext own w.heap.size 0 := ⟨_, rfl⟩
  have H0 : Hid (Bw w0 gw M o0 G n C C L) := ho0 ▸ hide (HH.out.later B0)
  have F0 : Hid (Fe o0 B w0) := ho0 ▸ hide (HF.out.ext B0.size 0)
  have BB0 : Hid (Below B w w0) := hide (B0.mono HF.out.1)
  have zs : Hid (o0 ks = 0) := by rw [ho0]; exact hide (ext_new (by omega))
  have HB0 := hide B0
  have Z0 : Hid (0 < vals.length → ∀ k, (Value.slice av nv cv).ownBlock = some k → k < w.heap.size ∧ o0 k = 0) := by
    rw [ho0]
    exact hide (fun h0 k e => ⟨HV.out.1.lt h0 k e, by rw [ext_old (HV.out.1.lt h0 k e)]; exact HV.out.2 h0 k e⟩)
  clear hw0 hq0 hks ho0 HH B0 h hF hs0
  have CB : Hid (∀ W : World, W.heap[ks]? = w0.heap[ks]? → W.cell? ⟨ks, 0, none⟩ = some (.int .i64 2) ∧ W.cell? ⟨ks, 1, none⟩ = some (.int .i64 on) ∧ W.cell? ⟨ks, 2, none⟩ = some (.int .i64 row) ∧ W.cell? ⟨ks, 3, none⟩ = some (.int .i64 col) ∧ W.cell? ⟨ks, 4, none⟩ = some (.int .i64 e1) ∧ W.cell? ⟨ks, 5, none⟩ = some (.int .i64 e2) ∧ W.cell? ⟨ks, 6, none⟩ = some (.int .i64 x) ∧ W.cell? ⟨ks, 7, none⟩ = some (.slice av nv cv)) := fun W h2 => by
    have h4 := h2.trans HQ0.out
    refine ⟨?_, ?_, ?_, ?_, ?_, ?_, ?_, ?_⟩
    all_goals rw [cell_of_row W ks _ _ 34 (0, 0) h4]; rfl
  have JP : Hid (∀ W : World, Calls Try.prog 9 #[.int .i64 on, .int .i64 (n : Int)] W fun e w' => e = .returned (.int .i64 (pk on n : Int)) ∧ w' = W) := fun W => pick_any on n W ho.1 ho.2 (by omega) (by omega)
  have hi : pk on n < n := pk_lt on (by omega)
  generalize pk on n = i at *
  obtain ⟨gl, cl, hpr⟩ := Bu.pair H0.out hi
  have HPR := hide hpr
  obtain ⟨g, hg⟩ : ∃ g, g = (G i).1 := ⟨_, rfl⟩
  obtain ⟨r, hr⟩ : ∃ r, r = (G i).2 := ⟨_, rfl⟩
  unfold ptr at HPR
  rw [← hg, ← hr] at HPR
  have HG := hide hg
  have HR := hide hr
  have ti : (i : Int) < (n : Int) := by omega
  have HPW : Hid (∀ W, Below w0.heap.size w0 W → W.cell? ⟨gw, 0, none⟩ = some (.slice (some ⟨gl, 0, none⟩) n cl) ∧ W.cell? ⟨ks, 1, none⟩ = some (.int .i64 on) ∧ W.cell? ⟨gl, i * 2, none⟩ = some (.pointer (some ⟨g, 0, none⟩)) ∧ W.cell? ⟨gl, i * 2 + 1, none⟩ = some (.pointer (some ⟨r, 0, none⟩))) := fun W hW => ⟨(HPR.out W hW).1, (CB.out W (hW.block ks (lt_of_block HQ0.out))).2.1, (HPR.out W hW).2⟩
  clear hpr hg hr HPR ho
  obtain ⟨c0, -, -, -, -, -, -, -⟩ := CB.out w0 rfl
  have e1' : ((2 : Int) == 1) = false := by decide
  obtain ⟨d0, d1, d2, d3⟩ := HPW.out w0 (Below.refl _ _)
  have x0 := fun o => (HPW.out _ (below_on (below_alloc w0 o) (below_drew _))).1
  have x1 := fun o => (HPW.out _ (below_on (below_alloc w0 o) (below_drew _))).2.1
  have x2 := fun o => (HPW.out _ (below_on (below_alloc w0 o) (below_drew _))).2.2.1
  have x3 := fun o => (HPW.out _ (below_on (below_alloc w0 o) (below_drew _))).2.2.2
  go_upto_region 7 with fail
  have y0 := World.new_ne w0 _ d0
  have y1 := World.new_ne w0 _ d1
  have y2 := World.new_ne w0 _ d2
  have y3 := World.new_ne w0 _ d3
  go_cut [9] (fun v9 W => v9 = .pointer (some ⟨w0.heap.size, 0, none⟩) ∧ Hid (W = (w0.alloc (.cells #[.pointer (some ⟨g, 0, none⟩), .pointer (some ⟨r, 0, none⟩)] 64)).drew))
  case first =>
    go_region_held3 (fun W => W.cell? ⟨gw, 0, none⟩ = some (.slice (some ⟨gl, 0, none⟩) n cl) ∧ W.cell? ⟨ks, 1, none⟩ = some (.int .i64 on) ∧ W.cell? ⟨gl, i * 2, none⟩ = some (.pointer (some ⟨g, 0, none⟩)) ∧ W.cell? ⟨gl, i * 2 + 1, none⟩ = some (.pointer (some ⟨r, 0, none⟩))) (go_keep) (first | (go_at_call 9; refine (JP.out _).mono ?_; rintro e w1 ⟨rfl, rfl⟩))
    all_goals
      go_wp2_with fail
      go_meet
      exact ⟨rfl, rfl⟩
  obtain ⟨rfl, HWC⟩ := hcut
  obtain ⟨w1, rfl⟩ : ∃ X, X = wc := ⟨_, rfl⟩
  obtain ⟨kp, hkp⟩ : ∃ k, k = w0.heap.size := ⟨_, rfl⟩
  rw [← hkp]
  have b01 : Below w0.heap.size w0 w1 := by rw [HWC.out]; exact below_on (below_alloc w0 _) (below_drew _)
  have hp1 : w1.heap[kp]? = some (.cells #[.pointer (some ⟨g, 0, none⟩), .pointer (some ⟨r, 0, none⟩)] 64 (0, 0)) := by
    rw [HWC.out, hkp]
    exact ((below_drew _).block _ (by simp)).trans (heap_alloc_new w0 _)
  obtain ⟨o1, ho1⟩ : ∃ o, o = ext o0 w0.heap.size 0 := ⟨_, rfl⟩
  have H1 : Hid (Bw w1 gw M o1 G n C C L) := ho1 ▸ hide (H0.out.later b01)
  have F1 : Hid (Fe o1 B w1) := ho1 ▸ hide (F0.out.ext b01.size 0)
  have BB1 : Hid (Below B w w1) := hide (BB0.out.trans (b01.mono F0.out.1))
  have BW1 : Hid (Below w.heap.size w w1) := hide (below_on HB0.out b01)
  have zp1 : Hid (o1 kp = 0) := by rw [ho1]; exact hide (ext_new (by omega))
  have zs1 : Hid (o1 ks = 0) := by rw [ho1, ext_old (lt_of_block HQ0.out)]; exact zs
  have ZV : Hid (0 < vals.length → ∀ k, (Value.slice av nv cv).ownBlock = some k → o1 k = 0) := by
    rw [ho1]
    exact hide (fun h0 k e => by rw [ext_old (Nat.lt_of_lt_of_le (Z0.out h0 k e).1 HB0.out.size)]; exact (Z0.out h0 k e).2)
  have HP1 := hide hp1
  have HQ1 := hide ((b01.block ks (lt_of_block HQ0.out)).trans HQ0.out)
  have CB1 : Hid (∀ W : World, W.heap[ks]? = w1.heap[ks]? → W.heap[kp]? = w1.heap[kp]? → (W.cell? ⟨ks, 0, none⟩ = some (.int .i64 2) ∧ W.cell? ⟨ks, 1, none⟩ = some (.int .i64 on) ∧ W.cell? ⟨ks, 2, none⟩ = some (.int .i64 row) ∧ W.cell? ⟨ks, 3, none⟩ = some (.int .i64 col) ∧ W.cell? ⟨ks, 4, none⟩ = some (.int .i64 e1) ∧ W.cell? ⟨ks, 5, none⟩ = some (.int .i64 e2) ∧ W.cell? ⟨ks, 6, none⟩ = some (.int .i64 x) ∧ W.cell? ⟨ks, 7, none⟩ = some (.slice av nv cv)) ∧ W.cell? ⟨kp, 0, none⟩ = some (.pointer (some ⟨g, 0, none⟩)) ∧ W.cell? ⟨kp, 1, none⟩ = some (.pointer (some ⟨r, 0, none⟩))) := fun W h1 h2 => by
    refine ⟨CB.out W (h1.trans (b01.block ks (lt_of_block HQ0.out))), ?_, ?_⟩
    all_goals rw [cell_of_row W kp _ _ 64 (0, 0) (h2.trans HP1.out)]; rfl
  clear hkp hp1 ho1 b01 HWC H0 F0 BB0 zs HQ0 CB HPW d0 d1 d2 d3 x0 x1 x2 x3 y0 y1 y2 y3 c0 JP HB0
  obtain ⟨⟨c0, c1, c2, c3, c4, c5, c6, c7⟩, q0, q1⟩ := CB1.out w1 rfl rfl
  have JA : Hid (Calls Try.prog 21 #[.agg #[.pointer (some ⟨g, 0, none⟩), .pointer (some ⟨r, 0, none⟩)], .agg #[.int .i64 e1, .int .i64 e2], .slice av nv cv] w1 fun e w' => e = .returned (.bool true) ∧ Hid (Gs w gw B (M + 700) (n + 1) (L.length + 4) w')) := by
    have hc := adds_any H1.out hi e1 e2 hE _ vals (HV.out.1.later BW1.out) (fun h0 k e => ZV.out h0 k e) hvl (by omega)
    rw [← HG.out, ← HR.out] at hc
    refine hc.mono ?_
    rintro e w' ⟨rfl, own', st, b1, b2, -⟩
    obtain ⟨f1, f2⟩ := b2.fe F1.out
    exact ⟨rfl, G, n, upd C i st, L, ⟨own', f1, b1.bound (by omega)⟩, hn1, by omega, by omega, BB1.out.trans f2⟩
  clear H1 F1 BB1 BW1 zp1 zs1 HP1 HQ1 CB1
  go_wp2_with fail
  refine JA.out.mono ?_
  rintro e w2 ⟨rfl, HZ⟩
  go_wp2_with fail
  go_ret
  exact ⟨rfl, HZ.out⟩
end
end Go.Proofs.Ytlnjphfkinajdaa
