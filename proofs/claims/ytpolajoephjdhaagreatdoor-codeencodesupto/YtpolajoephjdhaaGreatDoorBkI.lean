/-
  The law's own looks, at programs that are one.
-/
import Derived.Test.YtpolajoephjdhaaGreatDoorBkN
namespace Go.Proofs.YtpolajoephjdhaaGreatDoor
open Go.RowKit
set_option maxRecDepth 100000
theorem cellL {W W' : World} {a : Addr} {v : Value} (h : W.cell? a = some v) (hb : Below W.heap.size W W') : W'.cell? a = some v := (hb.cell (World.block_lt_of_cell? W _ h)).trans h
set_option maxHeartbeats 4000000 in
theorem programs_eq {Q Q' : Nat → Prop} {W : World} {vs vf us uf : Value} (p : Pg) (ha : Pgm Q W vs vf p) (hb : Pgm Q' W us uf p) : Calls Tryz.prog 10 #[.agg #[vs, vf], .agg #[us, uf]] W fun e w' => e = .returned (.bool true) ∧ Below W.heap.size W w' := by
  obtain ⟨sys, fns⟩ := p
  obtain ⟨ha1, ha2⟩ := ha
  obtain ⟨hb1, hb2⟩ := hb
  dsimp only at ha1 ha2 hb1 hb2
  obtain ⟨w0, hw0⟩ : ∃ X, X = W.alloc (.cells #[vs, vf] 27) := ⟨_, rfl⟩
  obtain ⟨w1, hw1⟩ : ∃ X, X = w0.alloc (.cells #[us, uf] 27) := ⟨_, rfl⟩
  have B0 : Below W.heap.size W w0 := hw0 ▸ below_alloc W _
  have B1 : Below w0.heap.size w0 w1 := hw1 ▸ below_alloc w0 _
  have n0 : w0.heap[W.heap.size]? = some (.cells #[vs, vf] 27 (0, 0)) := by rw [hw0]; exact heap_alloc_new W _
  have e0 : w0.heap.size = W.heap.size + 1 := by rw [hw0]; exact Array.size_push ..
  have n1 : w1.heap[W.heap.size + 1]? = some (.cells #[us, uf] 27 (0, 0)) := by rw [hw1, ← e0]; exact heap_alloc_new w0 _
  have n2 := (B1.block W.heap.size (lt_of_block n0)).trans n0
  have Y1 := hide (below_on B0 B1)
  have m1 := Mv.of_below Y1.out (fun _ => False)
  have SA := hide (ha1.mv m1 (fun _ _ e => e))
  have SB := hide (hb1.mv m1 (fun _ _ e => e))
  have FA := hide (ha2.later Y1.out)
  have FB := hide (hb2.later Y1.out)
  obtain ⟨ao, c, rfl, hc1, hc2, -⟩ := ha1
  obtain ⟨bo, d, rfl, -⟩ := hb1
  obtain ⟨co, x, rfl, hx1, hx2, -⟩ := ha2
  obtain ⟨do', y, rfl, -⟩ := hb2
  unfold maxLen at hc2 hx2
  obtain ⟨p, hp⟩ : ∃ p, p = W.heap.size := ⟨_, rfl⟩
  obtain ⟨q, hq⟩ : ∃ p, p = W.heap.size + 1 := ⟨_, rfl⟩
  rw [← hp] at n2
  rw [← hq] at n1
  obtain ⟨ns, hns⟩ : ∃ n, n = sys.length := ⟨_, rfl⟩
  obtain ⟨nf, hnf⟩ : ∃ n, n = fns.length := ⟨_, rfl⟩
  rw [← hns] at SA SB n1 n2 hw0 hw1 hc1 ⊢
  rw [← hnf] at FA FB n1 n2 hw0 hw1 hx1 ⊢
  have HNS := hide hns
  have HNF := hide hnf
  have AT : Hid (∀ w', Below w1.heap.size w1 w' → (w'.cell? ⟨p, 0, none⟩ = some (.slice ao ns c) ∧ w'.cell? ⟨p, 1, none⟩ = some (.slice co nf x)) ∧ (w'.cell? ⟨q, 0, none⟩ = some (.slice bo ns d) ∧ w'.cell? ⟨q, 1, none⟩ = some (.slice do' nf y))) := fun w' hb => ⟨row2 ((hb.block p (lt_of_block n2)).trans n2), row2 ((hb.block q (lt_of_block n1)).trans n1)⟩
  obtain ⟨⟨x0, x1⟩, y0, y1⟩ := AT.out w1 (Below.refl _ _)
  clear B0 B1 n0 n1 n2 e0 m1 hns hnf
  go_enter Tryz.func10, Tryz.ntmps10
  go_upto_region 1 with fail
  rw [← hw0, ← hw1, ← hq, ← hp]
  clear hw0 hw1 hp hq
  go_wp2_with fail
  clear x0 x1 y0 y1
  go_loopw [5] (fun v wr => ∃ k : Nat, v = .int .i64 (k : Int) ∧ k ≤ ns ∧ Hid (Below w1.heap.size w1 wr)) (fun v _ => ns - (intOf v).toNat)
  case atStart => exact ⟨0, rfl, by omega, Below.refl _ _⟩
  case round =>
    obtain ⟨k, rfl, hk, hbw⟩ := hrel
    obtain ⟨⟨x0, x1⟩, y0, y1⟩ := AT.out wr hbw.out
    by_cases hlt : k < ns
    · have hlt' : k < sys.length := by rw [← HNS.out]; exact hlt
      have mw := Mv.of_below hbw.out (fun _ => False)
      obtain ⟨g, o, rfl, -, hat⟩ := (SA.out.mv mw (fun _ _ e => e)).nth hlt'
      obtain ⟨g', o', rfl, -, hat'⟩ := (SB.out.mv mw (fun _ _ e => e)).nth hlt'
      obtain ⟨a1, a2, a3, a4, a5, m1, m2, m3, m4, m5, p1, p2, p3, p4, p5, hv, e0, e1, e2, e3, e4, e5, e6, e7⟩ := hat.vs
      obtain ⟨b1, b2, b3, b4, b5, k1, k2, k3, k4, k5, q1, q2, q3, q4, q5, hu, f0, f1, f2, f3, f4, f5, f6, f7⟩ := hat'.vs
      generalize hsy : sys[k] = sy at *
      clear hsy hat hat' mw
      obtain ⟨swi, swo, sre, swr, ⟨nm, pa, lo, code⟩⟩ := sy
      dsimp only at e4 e5 e6 f4 f5 f6
      obtain ⟨w2, hw2⟩ : ∃ X, X = wr.alloc (.cells #[.slice a1 m1 p1, .slice a2 m2 p2, .slice a3 m3 p3, .slice a4 m4 p4, .string nm, .int .i64 pa, .int .i64 lo, .slice a5 m5 p5] 47) := ⟨_, rfl⟩
      obtain ⟨w3, hw3⟩ : ∃ X, X = w2.alloc (.cells #[.slice b1 k1 q1, .slice b2 k2 q2, .slice b3 k3 q3, .slice b4 k4 q4, .string nm, .int .i64 pa, .int .i64 lo, .slice b5 k5 q5] 47) := ⟨_, rfl⟩
      have B2 : Below wr.heap.size wr w2 := hw2 ▸ below_alloc wr _
      have B3 : Below w2.heap.size w2 w3 := hw3 ▸ below_alloc w2 _
      have n2 : w2.heap[wr.heap.size]? = some (.cells #[.slice a1 m1 p1, .slice a2 m2 p2, .slice a3 m3 p3, .slice a4 m4 p4, .string nm, .int .i64 pa, .int .i64 lo, .slice a5 m5 p5] 47 (0, 0)) := by rw [hw2]; exact heap_alloc_new wr _
      have n3 : w3.heap[w2.heap.size]? = some (.cells #[.slice b1 k1 q1, .slice b2 k2 q2, .slice b3 k3 q3, .slice b4 k4 q4, .string nm, .int .i64 pa, .int .i64 lo, .slice b5 k5 q5] 47 (0, 0)) := by rw [hw3]; exact heap_alloc_new w2 _
      have n4 := (B3.block wr.heap.size (lt_of_block n2)).trans n2
      obtain ⟨t, htt⟩ : ∃ t, t = wr.heap.size := ⟨_, rfl⟩
      obtain ⟨t', htt'⟩ : ∃ t, t = w2.heap.size := ⟨_, rfl⟩
      rw [← htt] at n4
      rw [← htt'] at n3
      have Y3 := hide (below_on hbw.out (below_on B2 B3))
      have HV := hide (hv.later (below_on B2 B3))
      have HU := hide (hu.later (below_on B2 B3))
      have RW : Hid (∀ w', Below w3.heap.size w3 w' → w'.heap[t]? = some (.cells #[.slice a1 m1 p1, .slice a2 m2 p2, .slice a3 m3 p3, .slice a4 m4 p4, .string nm, .int .i64 pa, .int .i64 lo, .slice a5 m5 p5] 47 (0, 0)) ∧ w'.heap[t']? = some (.cells #[.slice b1 k1 q1, .slice b2 k2 q2, .slice b3 k3 q3, .slice b4 k4 q4, .string nm, .int .i64 pa, .int .i64 lo, .slice b5 k5 q5] 47 (0, 0))) := fun w' hb => ⟨(hb.block t (lt_of_block n4)).trans n4, (hb.block t' (lt_of_block n3)).trans n3⟩
      have z0 := cellL y0 B2
      obtain ⟨h0, h1, h2, h3, h4, h5, h6, h7⟩ : w2.cell? ⟨g', o' + k * 8, none⟩ = some (.slice b1 k1 q1) ∧ w2.cell? ⟨g', o' + k * 8 + 1, none⟩ = some (.slice b2 k2 q2) ∧ w2.cell? ⟨g', o' + k * 8 + 2, none⟩ = some (.slice b3 k3 q3) ∧ w2.cell? ⟨g', o' + k * 8 + 3, none⟩ = some (.slice b4 k4 q4) ∧ w2.cell? ⟨g', o' + k * 8 + 4, none⟩ = some (.string nm) ∧ w2.cell? ⟨g', o' + k * 8 + 5, none⟩ = some (.int .i64 pa) ∧ w2.cell? ⟨g', o' + k * 8 + 6, none⟩ = some (.int .i64 lo) ∧ w2.cell? ⟨g', o' + k * 8 + 7, none⟩ = some (.slice b5 k5 q5) := ⟨cellL f0 B2, cellL f1 B2, cellL f2 B2, cellL f3 B2, cellL f4 B2, cellL f5 B2, cellL f6 B2, cellL f7 B2⟩
      clear n2 n3 n4 hv hu B2 B3 f0 f1 f2 f3 f4 f5 f6 f7 y0 y1
      go_upto_region 7 with fail
      rw [← hw2, ← htt]
      clear hw2 htt
      go_upto_region 8 with fail
      rw [← hw3, ← htt']
      clear hw3 htt' z0 h0 h1 h2 h3 h4 h5 h6 h7 e0 e1 e2 e3 e4 e5 e6 e7 x0 x1
      obtain ⟨r1, r2⟩ := RW.out w3 (Below.refl _ _)
      obtain ⟨e0, e1, e2, e3, e4, e5, e6, e7⟩ := row8 r1
      obtain ⟨f0, f1, f2, f3, f4, f5, f6, f7⟩ := row8 r2
      clear r1 r2
      have J1 := hide (sets_eq HV.out.w HU.out.w)
      go_wp2_with fail
      refine J1.out.mono ?_
      rintro e w4 ⟨rfl, b4⟩
      have X4 := hide b4
      obtain ⟨r1, r2⟩ := RW.out w4 X4.out
      clear e0 e1 e2 e3 e4 e5 e6 e7 f0 f1 f2 f3 f4 f5 f6 f7 b4 J1
      obtain ⟨e0, e1, e2, e3, e4, e5, e6, e7⟩ := row8 r1
      obtain ⟨f0, f1, f2, f3, f4, f5, f6, f7⟩ := row8 r2
      clear r1 r2
      have J2 := hide (sets_eq (HV.out.later X4.out).wo (HU.out.later X4.out).wo)
      go_wp2_with fail
      refine J2.out.mono ?_
      rintro e w5 ⟨rfl, b5⟩
      have X5 := hide (below_on X4.out b5)
      obtain ⟨r1, r2⟩ := RW.out w5 X5.out
      clear e0 e1 e2 e3 e4 e5 e6 e7 f0 f1 f2 f3 f4 f5 f6 f7 b5 J2 X4
      obtain ⟨e0, e1, e2, e3, e4, e5, e6, e7⟩ := row8 r1
      obtain ⟨f0, f1, f2, f3, f4, f5, f6, f7⟩ := row8 r2
      clear r1 r2
      have J3 := hide (sets_eq (HV.out.later X5.out).re (HU.out.later X5.out).re)
      go_wp2_with fail
      refine J3.out.mono ?_
      rintro e w6 ⟨rfl, b6⟩
      have X6 := hide (below_on X5.out b6)
      obtain ⟨r1, r2⟩ := RW.out w6 X6.out
      clear e0 e1 e2 e3 e4 e5 e6 e7 f0 f1 f2 f3 f4 f5 f6 f7 b6 J3 X5
      obtain ⟨e0, e1, e2, e3, e4, e5, e6, e7⟩ := row8 r1
      obtain ⟨f0, f1, f2, f3, f4, f5, f6, f7⟩ := row8 r2
      clear r1 r2
      have J4 := hide (sets_eq (HV.out.later X6.out).wr (HU.out.later X6.out).wr)
      go_wp2_with fail
      refine J4.out.mono ?_
      rintro e w7 ⟨rfl, b7⟩
      have X7 := hide (below_on X6.out b7)
      obtain ⟨r1, r2⟩ := RW.out w7 X7.out
      clear e0 e1 e2 e3 e4 e5 e6 e7 f0 f1 f2 f3 f4 f5 f6 f7 b7 J4 X6
      obtain ⟨e0, e1, e2, e3, e4, e5, e6, e7⟩ := row8 r1
      obtain ⟨f0, f1, f2, f3, f4, f5, f6, f7⟩ := row8 r2
      clear r1 r2
      have J5 := hide (routines_eq ⟨nm, pa, lo, code⟩ (HV.out.later X7.out).co (HU.out.later X7.out).co)
      unfold rtV at J5
      dsimp only at J5
      go_wp2_with fail
      refine J5.out.mono ?_
      rintro e w8 ⟨rfl, b8⟩
      have X8 := hide (below_on Y3.out (below_on X7.out b8))
      clear b8 X7 J5 e0 e1 e2 e3 e4 e5 e6 e7 f0 f1 f2 f3 f4 f5 f6 f7
      go_wp2_with fail
      exact ⟨⟨k + 1, by go_num, by omega, X8.out⟩, by simp [intOf]; omega⟩
    · go_wp2_with fail
      go_loopw [10] (fun v wr => ∃ k : Nat, v = .int .i64 (k : Int) ∧ k ≤ nf ∧ Hid (Below w1.heap.size w1 wr)) (fun v _ => nf - (intOf v).toNat)
      case atStart => exact ⟨0, rfl, by omega, hbw.out⟩
      case round =>
        clear x0 x1 y0 y1
        obtain ⟨j, rfl, hj, hbx⟩ := hrel
        obtain ⟨⟨x0, x1⟩, y0, y1⟩ := AT.out wr hbx.out
        by_cases hjt : j < nf
        · have hjt' : j < fns.length := by rw [← HNF.out]; exact hjt
          obtain ⟨g, o, rfl, -, -, -, vc, c0, c1, c2, c3, hil⟩ := (FA.out.later hbx.out).nth hjt'
          obtain ⟨g', o', rfl, -, -, -, vc', d0, d1, d2, d3, hil'⟩ := (FB.out.later hbx.out).nth hjt'
          generalize hfn : fns[j] = fn at *
          clear hfn
          obtain ⟨nm, pa, lo, code⟩ := fn
          dsimp only at c0 c1 c2 c3 hil d0 d1 d2 d3 hil'
          have J := hide (routines_eq ⟨nm, pa, lo, code⟩ (hil.later (below_drew wr)) (hil'.later (below_drew wr)))
          unfold rtV at J
          dsimp only at J
          obtain ⟨u1, u2, rfl, -⟩ := hil
          obtain ⟨u3, u4, rfl, -⟩ := hil'
          generalize code.length = nc at *
          have t0 : (0 : Int) ≤ (j : Int) := by omega
          have t1 : (j : Int) < (nf : Int) := by omega
          clear x0 y0
          go_upto_region 15 with fail
          refine wp_region_noPanic ?_
          refine wp_region_held_drew (S := fun V => V.cell? ⟨p, 1, none⟩ = some (.slice (some ⟨g, o, none⟩) nf x) ∧ V.cell? ⟨q, 1, none⟩ = some (.slice (some ⟨g', o', none⟩) nf y) ∧ V.cell? ⟨g, o + j * 4, none⟩ = some (.string nm) ∧ V.cell? ⟨g, o + j * 4 + 1, none⟩ = some (.int .i64 pa) ∧ V.cell? ⟨g, o + j * 4 + 2, none⟩ = some (.int .i64 lo) ∧ V.cell? ⟨g, o + j * 4 + 3, none⟩ = some (.slice u1 nc u2) ∧ V.cell? ⟨g', o' + j * 4, none⟩ = some (.string nm) ∧ V.cell? ⟨g', o' + j * 4 + 1, none⟩ = some (.int .i64 pa) ∧ V.cell? ⟨g', o' + j * 4 + 2, none⟩ = some (.int .i64 lo) ∧ V.cell? ⟨g', o' + j * 4 + 3, none⟩ = some (.slice u3 nc u4)) (by kernel_rfl) (⟨x1, y1, c0, c1, c2, c3, d0, d1, d2, d3⟩) (fun hHeld => ?_)
          refine' wpAnyH_take (i := 0) (oi := { dst := some 89, op := Go.Op.fieldAddr 27 (Go.Operand.tmp 2) 1, type := 0, pos := "code.go:123", after := #[], guard := none }) (v := _) rfl (by kernel_rfl) (by kernel_rfl) (by kernel_rfl) (fun _ _ _ h => h) (Or.inl ⟨by rfl, ?hyr6_0⟩) (by assumption) ?rer6_0
          case hyr6_0 => (intro W hSw; (try dsimp only at hSw); go_simp; try with_reducible rfl)
          try simp only [Act.put, List.setIfInBounds_toArray, List.set_cons_zero, List.set_cons_succ]
          refine' wpAnyH_take (i := 1) (oi := { dst := some 90, op := Go.Op.load 25 (Go.Operand.tmp 89), type := 25, pos := "code.go:123", after := #[{ on := 0, ground := Go.Ground.data }], guard := none }) (v := _) rfl (by kernel_rfl) (by kernel_rfl) (by kernel_rfl) (fun _ _ _ h => h) (Or.inl ⟨by rfl, ?hyr6_1⟩) (by assumption) ?rer6_1
          case hyr6_1 => (intro W hSw; (try dsimp only at hSw); go_simp; try with_reducible rfl)
          try simp only [Act.put, List.setIfInBounds_toArray, List.set_cons_zero, List.set_cons_succ]
          refine' wpAnyH_take (i := 2) (oi := { dst := some 91, op := Go.Op.move (Go.Operand.tmp 10), type := 3, pos := "code.go:123", after := #[], guard := none }) (v := _) rfl (by kernel_rfl) (by kernel_rfl) (by kernel_rfl) (fun _ _ _ h => h) (Or.inl ⟨by rfl, ?hyr6_2⟩) (by assumption) ?rer6_2
          case hyr6_2 => (intro W hSw; (try dsimp only at hSw); go_simp; try with_reducible rfl)
          try simp only [Act.put, List.setIfInBounds_toArray, List.set_cons_zero, List.set_cons_succ]
          refine' wpAnyH_take (i := 3) (oi := { dst := some 92, op := Go.Op.indexAddr 25 (Go.Operand.tmp 90) (Go.Operand.tmp 91), type := 0, pos := "code.go:123", after := #[{ on := 1, ground := Go.Ground.data }, { on := 2, ground := Go.Ground.data }], guard := none }) (v := _) rfl (by kernel_rfl) (by kernel_rfl) (by kernel_rfl) (fun _ _ _ h => h) (Or.inl ⟨by rfl, ?hyr6_3⟩) (by assumption) ?rer6_3
          case hyr6_3 => (intro W hSw; (try dsimp only at hSw); go_simp; try with_reducible rfl)
          try simp only [Act.put, List.setIfInBounds_toArray, List.set_cons_zero, List.set_cons_succ]
          refine' wpAnyH_take (i := 4) (oi := { dst := some 93, op := Go.Op.load 45 (Go.Operand.tmp 92), type := 45, pos := "code.go:123", after := #[{ on := 3, ground := Go.Ground.data }], guard := none }) (v := _) rfl (by kernel_rfl) (by kernel_rfl) (by kernel_rfl) (fun _ _ _ h => h) (Or.inl ⟨by rfl, ?hyr6_4⟩) (by assumption) ?rer6_4
          case hyr6_4 => (intro W hSw; (try dsimp only at hSw); go_simp; try with_reducible rfl)
          try simp only [Act.put, List.setIfInBounds_toArray, List.set_cons_zero, List.set_cons_succ]
          refine' wpAnyH_take (i := 5) (oi := { dst := some 94, op := Go.Op.fieldAddr 27 (Go.Operand.tmp 3) 1, type := 0, pos := "code.go:123", after := #[], guard := none }) (v := _) rfl (by kernel_rfl) (by kernel_rfl) (by kernel_rfl) (fun _ _ _ h => h) (Or.inl ⟨by rfl, ?hyr6_5⟩) (by assumption) ?rer6_5
          case hyr6_5 => (intro W hSw; (try dsimp only at hSw); go_simp; try with_reducible rfl)
          try simp only [Act.put, List.setIfInBounds_toArray, List.set_cons_zero, List.set_cons_succ]
          refine' wpAnyH_take (i := 6) (oi := { dst := some 95, op := Go.Op.load 25 (Go.Operand.tmp 94), type := 25, pos := "code.go:123", after := #[{ on := 5, ground := Go.Ground.data }], guard := none }) (v := _) rfl (by kernel_rfl) (by kernel_rfl) (by kernel_rfl) (fun _ _ _ h => h) (Or.inl ⟨by rfl, ?hyr6_6⟩) (by assumption) ?rer6_6
          case hyr6_6 => (intro W hSw; (try dsimp only at hSw); go_simp; try with_reducible rfl)
          try simp only [Act.put, List.setIfInBounds_toArray, List.set_cons_zero, List.set_cons_succ]
          refine' wpAnyH_take (i := 7) (oi := { dst := some 96, op := Go.Op.move (Go.Operand.tmp 10), type := 3, pos := "code.go:123", after := #[], guard := none }) (v := _) rfl (by kernel_rfl) (by kernel_rfl) (by kernel_rfl) (fun _ _ _ h => h) (Or.inl ⟨by rfl, ?hyr6_7⟩) (by assumption) ?rer6_7
          case hyr6_7 => (intro W hSw; (try dsimp only at hSw); go_simp; try with_reducible rfl)
          try simp only [Act.put, List.setIfInBounds_toArray, List.set_cons_zero, List.set_cons_succ]
          refine' wpAnyH_take (i := 8) (oi := { dst := some 97, op := Go.Op.indexAddr 25 (Go.Operand.tmp 95) (Go.Operand.tmp 96), type := 0, pos := "code.go:123", after := #[{ on := 6, ground := Go.Ground.data }, { on := 7, ground := Go.Ground.data }], guard := none }) (v := _) rfl (by kernel_rfl) (by kernel_rfl) (by kernel_rfl) (fun _ _ _ h => h) (Or.inl ⟨by rfl, ?hyr6_8⟩) (by assumption) ?rer6_8
          case hyr6_8 => (intro W hSw; (try dsimp only at hSw); go_simp; try with_reducible rfl)
          try simp only [Act.put, List.setIfInBounds_toArray, List.set_cons_zero, List.set_cons_succ]
          refine' wpAnyH_take (i := 9) (oi := { dst := some 98, op := Go.Op.load 45 (Go.Operand.tmp 97), type := 45, pos := "code.go:123", after := #[{ on := 8, ground := Go.Ground.data }], guard := none }) (v := _) rfl (by kernel_rfl) (by kernel_rfl) (by kernel_rfl) (fun _ _ _ h => h) (Or.inl ⟨by rfl, ?hyr6_9⟩) (by assumption) ?rer6_9
          case hyr6_9 => (intro W hSw; (try dsimp only at hSw); go_simp; try with_reducible rfl)
          try simp only [Act.put, List.setIfInBounds_toArray, List.set_cons_zero, List.set_cons_succ]
          refine wpAnyH_ready (rs := [10]) (by kernel_rfl) (by simp) ?_
          refine AllReadyH.cons (o := { dst := some 99, op := Go.Op.call { callee := Go.Callee.value (Go.Operand.func 21), args := #[Go.Operand.tmp 93, Go.Operand.tmp 98], argTypes := #[45, 45] }, type := 4, pos := "code.go:123", after := #[{ on := 4, ground := Go.Ground.data }, { on := 9, ground := Go.Ground.data }], guard := none }) rfl (fun K hK => ?_) AllReadyH.nil
          clear hHeld
          go_simp
          refine J.out.mono ?_
          rintro e w8 ⟨rfl, b8⟩
          have b9 := below_on (below_drew wr) b8
          refine hK.out _ _ (⟨cellL x1 b9, cellL y1 b9, cellL c0 b9, cellL c1 b9, cellL c2 b9, cellL c3 b9, cellL d0 b9, cellL d1 b9, cellL d2 b9, cellL d3 b9⟩) (fun hHeld => ?_)
          clear hK K
          try simp only [Act.put, List.setIfInBounds_toArray, List.set_cons_zero, List.set_cons_succ]
          refine' wpAnyH_take (i := 11) (oi := { dst := some 11, op := Go.Op.assign (Go.Operand.tmp 99), type := 4, pos := "code.go:123", after := #[{ on := 10, ground := Go.Ground.data }, { on := 10, ground := Go.Ground.chain }, { on := 0, ground := Go.Ground.phase }, { on := 1, ground := Go.Ground.phase }, { on := 2, ground := Go.Ground.phase }, { on := 3, ground := Go.Ground.phase }, { on := 4, ground := Go.Ground.phase }, { on := 5, ground := Go.Ground.phase }, { on := 6, ground := Go.Ground.phase }, { on := 7, ground := Go.Ground.phase }, { on := 8, ground := Go.Ground.phase }, { on := 9, ground := Go.Ground.phase }, { on := 10, ground := Go.Ground.phase }], guard := none }) (v := _) rfl (by kernel_rfl) (by kernel_rfl) (by kernel_rfl) (fun _ _ _ h => h) (Or.inl ⟨by rfl, ?hyr6_11⟩) (by assumption) ?rer6_11
          case hyr6_11 => (intro W hSw; (try dsimp only at hSw); go_simp; try with_reducible rfl)
          try simp only [Act.put, List.setIfInBounds_toArray, List.set_cons_zero, List.set_cons_succ]
          refine wpAnyH_done (by kernel_rfl) ?_ _
          have X8 := hide (below_on hbx.out b9)
          clear b8 b9 hHeld
          refine NoPanic.normal ?_
          go_wp2_with fail
          exact ⟨⟨j + 1, by go_num, by omega, X8.out⟩, by simp [intOf]; omega⟩
        · go_wp2_with fail
          go_ret
          exact ⟨rfl, below_on Y1.out hbx.out⟩
end Go.Proofs.YtpolajoephjdhaaGreatDoor
