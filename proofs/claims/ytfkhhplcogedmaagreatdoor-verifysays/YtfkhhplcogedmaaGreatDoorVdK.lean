/-
  Verify: the law's still, of what was lent and stayed.
-/
import Derived.Test.YtfkhhplcogedmaaGreatDoorVdI
import Derived.Test.YtfkhhplcogedmaaGreatDoorMgX
namespace Go.Proofs.YtfkhhplcogedmaaGreatDoor
open Go.RowKit
set_option maxRecDepth 100000
theorem cells4 {w : World} {B : Nat} {x1 x2 x3 x4 : Value} (h : w.heap[B]? = some (.cells #[x1, x2, x3, x4] 35 (0, 0))) : w.cell? ⟨B, 0, none⟩ = some x1 ∧ w.cell? ⟨B, 1, none⟩ = some x2 ∧ w.cell? ⟨B, 2, none⟩ = some x3 ∧ w.cell? ⟨B, 3, none⟩ = some x4 := by
  refine ⟨?_, ?_, ?_, ?_⟩ <;> rw [cell_of_row w _ _ _ 35 (0, 0) h] <;> rfl
/-- A program that was lent, whole. -/
structure Lnt (N : Nat) (W : World) (gs c1 gf c2 ns nf : Nat) (ls : List (Sy × Lv)) (lf : List (Rt × Value)) : Prop where
  s : Wd.LS N W (.slice (some ⟨gs, 0, none⟩) ns c1) ls
  f : Wd.LF N W (.slice (some ⟨gf, 0, none⟩) nf c2) lf
  bs : Wd.BhS W gs ns
  bf : Wd.BhF W gf nf
  k1 : ns + 1 ≤ c1 ∧ c1 ≤ 9223372036854775807
  k2 : nf + 1 ≤ c2 ∧ c2 ≤ 9223372036854775807
  l1 : ls.length = ns
  l2 : lf.length = nf
theorem Lnt.later {N : Nat} {W W' : World} {gs c1 gf c2 ns nf : Nat} {ls : List (Sy × Lv)} {lf : List (Rt × Value)} (h : Lnt N W gs c1 gf c2 ns nf ls lf) (hb : Below W.heap.size W W') : Lnt N W' gs c1 gf c2 ns nf ls lf :=
  ⟨h.s.later hb, h.f.later hb, h.bs.kp (Wd.KP.below (e := 25) hb) (by decide) (by decide), h.bf.kp (Wd.KP.below (e := 25) hb) (by decide), h.k1, h.k2, h.l1, h.l2⟩
theorem Lnt.cs {N : Nat} {W : World} {gs c1 gf c2 ns nf : Nat} {ls : List (Sy × Lv)} {lf : List (Rt × Value)} (h : Lnt N W gs c1 gf c2 ns nf ls lf) {i : Nat} (hi : i < ls.length) : ∀ j, j < 8 → W.cell? ⟨gs, i * 8 + j, none⟩ = (lvC ls[i])[j]? := fun j hj => by
  have hr := h.s.row
  rw [h.l1] at hr
  exact (hr.cellAt _ (by have := h.l1; omega)).trans (fl_at lvC_len ls i hi j hj)
theorem Lnt.cf {N : Nat} {W : World} {gs c1 gf c2 ns nf : Nat} {ls : List (Sy × Lv)} {lf : List (Rt × Value)} (h : Lnt N W gs c1 gf c2 ns nf ls lf) {i : Nat} (hi : i < lf.length) : ∀ j, j < 4 → W.cell? ⟨gf, i * 4 + j, none⟩ = (rwC lf[i])[j]? := fun j hj => by
  have hr := h.f.row
  rw [h.l2] at hr
  exact (hr.cellAt _ (by have := h.l2; omega)).trans (fl_at rwC_len lf i hi j hj)
set_option maxHeartbeats 8000000 in
theorem lstill_any {Q : Nat → Prop} {N : Nat} {w : World} {gs c1 gf c2 ns nf cs cf : Nat} {sa fa : Option Addr} {ls : List (Sy × Lv)} {lf : List (Rt × Value)} (hL : Lnt N w gs c1 gf c2 ns nf ls lf) (hS : Sys Q w (.slice sa ns cs) (ls.map Prod.fst)) (hF : Rts Q w (.slice fa nf cf) (lf.map Prod.fst)) (hc1 : ns ≤ cs) (hc2 : cs ≤ 9223372036854775807) (hc3 : nf ≤ cf) (hc4 : cf ≤ 9223372036854775807) :
    Calls Tryz.prog 16 #[.agg #[.slice (some ⟨gs, 0, none⟩) ns c1, .slice (some ⟨gf, 0, none⟩) nf c2], .agg #[.slice sa ns cs, .slice fa nf cf]] w fun e w' => e = .returned (.bool true) ∧ Below w.heap.size w w' := by
  have HL := hide hL
  have HS := hide hS
  have HF := hide hF
  obtain ⟨kk1, kk2⟩ := hL.k1
  obtain ⟨kk3, kk4⟩ := hL.k2
  have JS : Hid (∀ (Q Q' : Nat → Prop) (W : World) (va vb : Value) (l : List Int), Nx Q W va l → Nl Q' W vb l → Calls Tryz.prog 29 #[va, vb] W fun e w' => e = .returned (.bool true) ∧ Below W.heap.size W w') := fun _ _ _ _ _ _ a b => lsameset_any a b
  have JR : Hid (∀ (Q Q' : Nat → Prop) (W : World) (va vb : Value) (l : List Ins), Ix Q W va l → Il Q' W vb l → Calls Tryz.prog 30 #[va, vb] W fun e w' => e = .returned (.bool true) ∧ Below W.heap.size W w') := fun _ _ _ _ _ _ a b => lsamerow_any a b
  clear hL hS hF
  obtain ⟨w0, hw0⟩ : ∃ X, X = (w.alloc (.cells #[.slice (some ⟨gs, 0, none⟩) ns c1, .slice (some ⟨gf, 0, none⟩) nf c2] 25)).alloc (.cells #[.slice sa ns cs, .slice fa nf cf] 25) := ⟨_, rfl⟩
  have B0 : Hid (Below w.heap.size w w0) := by unfold Hid; rw [hw0]; exact below_on (below_alloc w _) (below_alloc _ _)
  have hb : w0.heap[w.heap.size]? = some (.cells #[.slice (some ⟨gs, 0, none⟩) ns c1, .slice (some ⟨gf, 0, none⟩) nf c2] 25 (0, 0)) := by
    rw [hw0]
    exact ((below_alloc (w.alloc (.cells #[.slice (some ⟨gs, 0, none⟩) ns c1, .slice (some ⟨gf, 0, none⟩) nf c2] 25)) _).block w.heap.size (by simp)).trans (heap_alloc_new w _)
  have hb' : w0.heap[w.heap.size + 1]? = some (.cells #[.slice sa ns cs, .slice fa nf cf] 25 (0, 0)) := by
    rw [hw0]
    have := heap_alloc_new (w.alloc (.cells #[.slice (some ⟨gs, 0, none⟩) ns c1, .slice (some ⟨gf, 0, none⟩) nf c2] 25)) (.cells #[.slice sa ns cs, .slice fa nf cf] 25)
    simpa using this
  obtain ⟨gq, hgq⟩ : ∃ x, x = w.heap.size := ⟨_, rfl⟩
  obtain ⟨gp, hgp⟩ : ∃ x, x = w.heap.size + 1 := ⟨_, rfl⟩
  rw [← hgq] at hb
  rw [← hgp] at hb'
  have HP : Hid (∀ V, Below w0.heap.size w0 V → V.cell? ⟨gq, 0, none⟩ = some (.slice (some ⟨gs, 0, none⟩) ns c1) ∧ V.cell? ⟨gq, 1, none⟩ = some (.slice (some ⟨gf, 0, none⟩) nf c2) ∧ V.cell? ⟨gp, 0, none⟩ = some (.slice sa ns cs) ∧ V.cell? ⟨gp, 1, none⟩ = some (.slice fa nf cf)) := fun V hV => by
    have e1 := (hV.block gq (lt_of_block hb)).trans hb
    have e2 := (hV.block gp (lt_of_block hb')).trans hb'
    refine ⟨?_, ?_, ?_, ?_⟩
    · rw [cell_of_row V _ _ _ 25 (0, 0) e1]; rfl
    · rw [cell_of_row V _ _ _ 25 (0, 0) e1]; rfl
    · rw [cell_of_row V _ _ _ 25 (0, 0) e2]; rfl
    · rw [cell_of_row V _ _ _ 25 (0, 0) e2]; rfl
  obtain ⟨q0, q1, p0, p1⟩ := HP.out w0 (Below.refl _ _)
  go_enter Tryz.func16, Tryz.ntmps16
  go_upto_region 1 with fail
  rw [← hw0, ← hgp, ← hgq]
  clear hw0 hgp hgq hb hb'
  go_wp2_with fail
  clear q0 q1 p0 p1
  go_loopw [5] (fun v5 W => ∃ i : Nat, i ≤ ns ∧ v5 = .int .i64 (i : Int) ∧ Hid (Below w0.heap.size w0 W)) (fun v5 _ => ns - (intOf v5).toNat)
  case atStart => exact ⟨0, Nat.zero_le _, rfl, Below.refl _ _⟩
  case round =>
    obtain ⟨i, hi, rfl, HW⟩ := hrel
    obtain ⟨q0, q1, p0, p1⟩ := HP.out wr HW.out
    have HWw := hide (below_on B0.out HW.out)
    by_cases hlt : i < ns
    · have hii : (i : Int) < (ns : Int) := by omega
      have hil : i < ls.length := by have := HL.out.l1; omega
      have hx := (HL.out.later HWw.out).s.all _ (List.getElem_mem hil)
      have hcl := (HL.out.later HWw.out).cs hil
      obtain ⟨g, o, e1, -, hat⟩ := (HS.out.later HWw.out).nth (k := i) (by rw [List.length_map]; exact hil)
      subst e1
      rw [List.getElem_map] at hat
      obtain ⟨a1, a2, a3, a4, a5, n1, n2, n3, n4, n5, m1, m2, m3, m4, m5, HV, z1, z2, z3, z4, z5, z6, z7, z8⟩ := hat.vs
      generalize ls[i] = x at *
      obtain ⟨⟨wi, wo, re, wrt, ⟨nm, pa, lo, code⟩⟩, ⟨v1, v2, v3, v4, vc⟩⟩ := x
      have HX := hide hx
      obtain ⟨b1, d1, e1, -⟩ := id hx.wi
      obtain ⟨b2, d2, e2, -⟩ := id hx.wo
      obtain ⟨b3, d3, e3, -⟩ := id hx.re
      obtain ⟨b4, d4, e4, -⟩ := id hx.wr
      obtain ⟨b5, d5, e5, -⟩ := id hx.co
      dsimp only at e1 e2 e3 e4 e5 z1 z2 z3 z4 z5 z6 z7 z8
      subst e1 e2 e3 e4 e5
      have s1 := hcl 0 (by omega)
      have s2 := hcl 1 (by omega)
      have s3 := hcl 2 (by omega)
      have s4 := hcl 3 (by omega)
      have s5 := hcl 4 (by omega)
      have s6 := hcl 5 (by omega)
      have s7 := hcl 6 (by omega)
      have s8 := hcl 7 (by omega)
      simp only [lvC, List.getElem?_cons_zero, List.getElem?_cons_succ, Nat.add_zero] at s1 s2 s3 s4 s5 s6 s7 s8
      have HV := hide HV
      clear hx hcl hat
      obtain ⟨l1, hl1⟩ : ∃ n, n = wi.length := ⟨_, rfl⟩
      obtain ⟨l2, hl2⟩ : ∃ n, n = wo.length := ⟨_, rfl⟩
      obtain ⟨l3, hl3⟩ : ∃ n, n = re.length := ⟨_, rfl⟩
      obtain ⟨l4, hl4⟩ : ∃ n, n = wrt.length := ⟨_, rfl⟩
      obtain ⟨l5, hl5⟩ : ∃ n, n = code.length := ⟨_, rfl⟩
      rw [← hl1] at s1 HX
      rw [← hl2] at s2 HX
      rw [← hl3] at s3 HX
      rw [← hl4] at s4 HX
      rw [← hl5] at s8 HX
      clear hl1 hl2 hl3 hl4 hl5
      obtain ⟨W1, hW1⟩ : ∃ X, X = wr.alloc (.cells #[.slice b1 l1 d1, .slice b2 l2 d2, .slice b3 l3 d3, .slice b4 l4 d4, .string nm, .int .i64 pa, .int .i64 lo, .slice b5 l5 d5] 38) := ⟨_, rfl⟩
      obtain ⟨W2, hW2⟩ : ∃ X, X = W1.alloc (.cells #[.slice a1 n1 m1, .slice a2 n2 m2, .slice a3 n3 m3, .slice a4 n4 m4, .string nm, .int .i64 pa, .int .i64 lo, .slice a5 n5 m5] 38) := ⟨_, rfl⟩
      have bA : Below wr.heap.size wr W1 := hW1 ▸ below_alloc wr _
      have bB : Below W1.heap.size W1 W2 := hW2 ▸ below_alloc W1 _
      have kA : W1.heap[wr.heap.size]? = some (.cells #[.slice b1 l1 d1, .slice b2 l2 d2, .slice b3 l3 d3, .slice b4 l4 d4, .string nm, .int .i64 pa, .int .i64 lo, .slice b5 l5 d5] 38 (0, 0)) := by rw [hW1]; exact heap_alloc_new wr _
      have kB : W2.heap[W1.heap.size]? = some (.cells #[.slice a1 n1 m1, .slice a2 n2 m2, .slice a3 n3 m3, .slice a4 n4 m4, .string nm, .int .i64 pa, .int .i64 lo, .slice a5 n5 m5] 38 (0, 0)) := by rw [hW2]; exact heap_alloc_new W1 _
      have kA2 := (bB.block _ (lt_of_block kA)).trans kA
      obtain ⟨gA, hgA⟩ : ∃ x, x = wr.heap.size := ⟨_, rfl⟩
      obtain ⟨gB, hgB⟩ : ∃ x, x = W1.heap.size := ⟨_, rfl⟩
      rw [← hgA] at kA2
      rw [← hgB] at kB
      have HC : Hid (∀ V, Below W2.heap.size W2 V → (V.cell? ⟨gA, 0, none⟩ = some (.slice b1 l1 d1) ∧ V.cell? ⟨gA, 1, none⟩ = some (.slice b2 l2 d2) ∧ V.cell? ⟨gA, 2, none⟩ = some (.slice b3 l3 d3) ∧ V.cell? ⟨gA, 3, none⟩ = some (.slice b4 l4 d4) ∧ V.cell? ⟨gA, 4, none⟩ = some (.string nm) ∧ V.cell? ⟨gA, 5, none⟩ = some (.int .i64 pa) ∧ V.cell? ⟨gA, 6, none⟩ = some (.int .i64 lo) ∧ V.cell? ⟨gA, 7, none⟩ = some (.slice b5 l5 d5)) ∧ V.cell? ⟨gB, 0, none⟩ = some (.slice a1 n1 m1) ∧ V.cell? ⟨gB, 1, none⟩ = some (.slice a2 n2 m2) ∧ V.cell? ⟨gB, 2, none⟩ = some (.slice a3 n3 m3) ∧ V.cell? ⟨gB, 3, none⟩ = some (.slice a4 n4 m4) ∧ V.cell? ⟨gB, 4, none⟩ = some (.string nm) ∧ V.cell? ⟨gB, 5, none⟩ = some (.int .i64 pa) ∧ V.cell? ⟨gB, 6, none⟩ = some (.int .i64 lo) ∧ V.cell? ⟨gB, 7, none⟩ = some (.slice a5 n5 m5)) := fun V hV => ⟨row8 ((hV.block _ (lt_of_block kA2)).trans kA2), row8 ((hV.block _ (lt_of_block kB)).trans kB)⟩
      have B2 := hide (below_on bA bB)
      have p0' := (Mv.of_below bA (fun _ => False)).cell p0 id
      have hM1 := Mv.of_below bA (fun _ => False)
      have z1' := hM1.cell z1 id
      have z2' := hM1.cell z2 id
      have z3' := hM1.cell z3 id
      have z4' := hM1.cell z4 id
      have z5' := hM1.cell z5 id
      have z6' := hM1.cell z6 id
      have z7' := hM1.cell z7 id
      have z8' := hM1.cell z8 id
      clear z1 z2 z3 z4 z5 z6 z7 z8 bA bB kA kB kA2 hM1
      go_upto_region 7 with fail
      rw [← hW1, ← hgA]
      clear hW1 hgA s1 s2 s3 s4 s5 s6 s7 s8
      go_upto_region 8 with fail
      rw [← hW2, ← hgB]
      clear hW2 hgB p0' z1' z2' z3' z4' z5' z6' z7' z8' q0 q1 p0 p1
      obtain ⟨X0, hX0⟩ : ∃ X, X = W2 := ⟨_, rfl⟩
      have BX0 : Hid (Below W2.heap.size W2 X0) := by rw [hX0]; exact Below.refl _ _
      rw [← hX0]
      clear hX0
      obtain ⟨⟨y1, y2, y3, y4, y5, y6, y7, y8⟩, u1, u2, u3, u4, u5, u6, u7, u8⟩ := HC.out X0 BX0.out
      have J0 := hide (JS.out _ _ X0 _ _ _ (HX.out.mv (Mv.of_below (below_on B2.out BX0.out) (fun _ => False)) (fun _ _ e => e)).wi (HV.out.w.later (below_on B2.out BX0.out)))
      go_wp2_with fail
      refine J0.out.mono ?_
      rintro e X1 ⟨rfl, bx⟩
      have BX1 := hide (below_on BX0.out bx)
      clear bx J0 y1 y2 y3 y4 y5 y6 y7 y8 u1 u2 u3 u4 u5 u6 u7 u8
      obtain ⟨⟨y1, y2, y3, y4, y5, y6, y7, y8⟩, u1, u2, u3, u4, u5, u6, u7, u8⟩ := HC.out X1 BX1.out
      have J1 := hide (JS.out _ _ X1 _ _ _ (HX.out.mv (Mv.of_below (below_on B2.out BX1.out) (fun _ => False)) (fun _ _ e => e)).wo (HV.out.wo.later (below_on B2.out BX1.out)))
      go_wp2_with fail
      refine J1.out.mono ?_
      rintro e X2 ⟨rfl, bx⟩
      have BX2 := hide (below_on BX1.out bx)
      clear bx J1 y1 y2 y3 y4 y5 y6 y7 y8 u1 u2 u3 u4 u5 u6 u7 u8
      obtain ⟨⟨y1, y2, y3, y4, y5, y6, y7, y8⟩, u1, u2, u3, u4, u5, u6, u7, u8⟩ := HC.out X2 BX2.out
      have J2 := hide (JS.out _ _ X2 _ _ _ (HX.out.mv (Mv.of_below (below_on B2.out BX2.out) (fun _ => False)) (fun _ _ e => e)).re (HV.out.re.later (below_on B2.out BX2.out)))
      go_wp2_with fail
      refine J2.out.mono ?_
      rintro e X3 ⟨rfl, bx⟩
      have BX3 := hide (below_on BX2.out bx)
      clear bx J2 y1 y2 y3 y4 y5 y6 y7 y8 u1 u2 u3 u4 u5 u6 u7 u8
      obtain ⟨⟨y1, y2, y3, y4, y5, y6, y7, y8⟩, u1, u2, u3, u4, u5, u6, u7, u8⟩ := HC.out X3 BX3.out
      have J3 := hide (JS.out _ _ X3 _ _ _ (HX.out.mv (Mv.of_below (below_on B2.out BX3.out) (fun _ => False)) (fun _ _ e => e)).wr (HV.out.wr.later (below_on B2.out BX3.out)))
      go_wp2_with fail
      refine J3.out.mono ?_
      rintro e X4 ⟨rfl, bx⟩
      have BX4 := hide (below_on BX3.out bx)
      clear bx J3 y1 y2 y3 y4 y5 y6 y7 y8 u1 u2 u3 u4 u5 u6 u7 u8
      obtain ⟨⟨y1, y2, y3, y4, y5, y6, y7, y8⟩, u1, u2, u3, u4, u5, u6, u7, u8⟩ := HC.out X4 BX4.out
      have J4 := hide (JR.out _ _ X4 _ _ _ (HX.out.mv (Mv.of_below (below_on B2.out BX4.out) (fun _ => False)) (fun _ _ e => e)).co (HV.out.co.later (below_on B2.out BX4.out)))
      go_wp2_with fail
      refine J4.out.mono ?_
      rintro e X5 ⟨rfl, bx⟩
      have BX5 := hide (below_on BX4.out bx)
      clear bx J4 y1 y2 y3 y4 y5 y6 y7 y8 u1 u2 u3 u4 u5 u6 u7 u8
      obtain ⟨⟨y1, y2, y3, y4, y5, y6, y7, y8⟩, u1, u2, u3, u4, u5, u6, u7, u8⟩ := HC.out X5 BX5.out
      have RW := hide (below_on HW.out (below_on B2.out BX5.out))
      have tpa : ((pa : Int) != pa) = false := by simp
      have tlo : ((lo : Int) != lo) = false := by simp
      have tnm : (nm.toList == nm.toList) = true := by simp
      clear HC HX HV B2 BX0 BX1 BX2 BX3 BX4 BX5
      go_wp2_with fail
      go_roundw
      case rel => exact ⟨i + 1, by omega, by go_num, RW⟩
      case measure => simp [intOf]; omega
    · have hii : ¬ (i : Int) < (ns : Int) := by omega
      have HW0 := HW
      go_wp2_with fail
      clear q0 q1 p0 p1 hii
      go_loopw [13] (fun v13 W => ∃ j : Nat, j ≤ nf ∧ v13 = .int .i64 (j : Int) ∧ Hid (Below w0.heap.size w0 W)) (fun v13 _ => nf - (intOf v13).toNat)
      case atStart => exact ⟨0, Nat.zero_le _, rfl, HW0⟩
      case round =>
        clear HW HWw HW0
        obtain ⟨j, hj, rfl, HW⟩ := hrel
        obtain ⟨q0, q1, p0, p1⟩ := HP.out wr HW.out
        have HWw := hide (below_on B0.out HW.out)
        by_cases hltj : j < nf
        · have hjj : (j : Int) < (nf : Int) := by omega
          have hjl : j < lf.length := by have := HL.out.l2; omega
          have hx := (HL.out.later HWw.out).f.all _ (List.getElem_mem hjl)
          have hcl := (HL.out.later HWw.out).cf hjl
          obtain ⟨g, o, e1, -, -, -, vq, z1, z2, z3, z4, hvq⟩ := (HF.out.later HWw.out).nth (k := j) (by rw [List.length_map]; exact hjl)
          subst e1
          rw [List.getElem_map] at z1 z2 z3 hvq
          generalize lf[j] = x at *
          obtain ⟨⟨nm, pa, lo, code⟩, vc⟩ := x
          have HX := hide hx
          have HV := hide hvq
          obtain ⟨b5, d5, e5, -⟩ := id hx.co
          obtain ⟨a5, m5, e6, -, -⟩ := hvq.at
          dsimp only at e5 e6 z1 z2 z3
          subst e5 e6
          have s1 := hcl 0 (by omega)
          have s2 := hcl 1 (by omega)
          have s3 := hcl 2 (by omega)
          have s4 := hcl 3 (by omega)
          simp only [rwC, List.getElem?_cons_zero, List.getElem?_cons_succ, Nat.add_zero] at s1 s2 s3 s4
          clear hx hcl hvq
          obtain ⟨l5, hl5⟩ : ∃ n, n = code.length := ⟨_, rfl⟩
          rw [← hl5] at s4 z4 HX HV
          clear hl5
          obtain ⟨W1, hW1⟩ : ∃ X, X = wr.alloc (.cells #[.string nm, .int .i64 pa, .int .i64 lo, .slice b5 l5 d5] 35) := ⟨_, rfl⟩
          obtain ⟨W2, hW2⟩ : ∃ X, X = W1.alloc (.cells #[.string nm, .int .i64 pa, .int .i64 lo, .slice a5 l5 m5] 35) := ⟨_, rfl⟩
          have bA : Below wr.heap.size wr W1 := hW1 ▸ below_alloc wr _
          have bB : Below W1.heap.size W1 W2 := hW2 ▸ below_alloc W1 _
          have kA : W1.heap[wr.heap.size]? = some (.cells #[.string nm, .int .i64 pa, .int .i64 lo, .slice b5 l5 d5] 35 (0, 0)) := by rw [hW1]; exact heap_alloc_new wr _
          have kB : W2.heap[W1.heap.size]? = some (.cells #[.string nm, .int .i64 pa, .int .i64 lo, .slice a5 l5 m5] 35 (0, 0)) := by rw [hW2]; exact heap_alloc_new W1 _
          have kA2 := (bB.block _ (lt_of_block kA)).trans kA
          obtain ⟨gA, hgA⟩ : ∃ x, x = wr.heap.size := ⟨_, rfl⟩
          obtain ⟨gB, hgB⟩ : ∃ x, x = W1.heap.size := ⟨_, rfl⟩
          rw [← hgA] at kA2
          rw [← hgB] at kB
          have HC : Hid (∀ V, Below W2.heap.size W2 V → (V.cell? ⟨gA, 0, none⟩ = some (.string nm) ∧ V.cell? ⟨gA, 1, none⟩ = some (.int .i64 pa) ∧ V.cell? ⟨gA, 2, none⟩ = some (.int .i64 lo) ∧ V.cell? ⟨gA, 3, none⟩ = some (.slice b5 l5 d5)) ∧ V.cell? ⟨gB, 0, none⟩ = some (.string nm) ∧ V.cell? ⟨gB, 1, none⟩ = some (.int .i64 pa) ∧ V.cell? ⟨gB, 2, none⟩ = some (.int .i64 lo) ∧ V.cell? ⟨gB, 3, none⟩ = some (.slice a5 l5 m5)) := fun V hV => ⟨cells4 ((hV.block _ (lt_of_block kA2)).trans kA2), cells4 ((hV.block _ (lt_of_block kB)).trans kB)⟩
          have B2 := hide (below_on bA bB)
          have hM1 := Mv.of_below bA (fun _ => False)
          have p1' := hM1.cell p1 id
          have z1' := hM1.cell z1 id
          have z2' := hM1.cell z2 id
          have z3' := hM1.cell z3 id
          have z4' := hM1.cell z4 id
          clear z1 z2 z3 z4 bA bB kA kB kA2 hM1
          go_upto_region 19 with fail
          rw [← hW1, ← hgA]
          clear hW1 hgA s1 s2 s3 s4
          go_upto_region 20 with fail
          rw [← hW2, ← hgB]
          clear hW2 hgB p1' z1' z2' z3' z4' q0 q1 p0 p1
          obtain ⟨⟨y1, y2, y3, y4⟩, u1, u2, u3, u4⟩ := HC.out W2 (Below.refl _ _)
          have J0 := hide (JR.out _ _ W2 _ _ _ (HX.out.mv (Mv.of_below B2.out (fun _ => False)) (fun _ _ e => e)).co (HV.out.later B2.out))
          go_wp2_with fail
          refine J0.out.mono ?_
          rintro e X1 ⟨rfl, bx⟩
          have BX1 := hide bx
          clear bx J0 y1 y2 y3 y4 u1 u2 u3 u4
          obtain ⟨⟨y1, y2, y3, y4⟩, u1, u2, u3, u4⟩ := HC.out X1 BX1.out
          have RW := hide (below_on HW.out (below_on B2.out BX1.out))
          have tpa : ((pa : Int) != pa) = false := by simp
          have tlo : ((lo : Int) != lo) = false := by simp
          have tnm : (nm.toList == nm.toList) = true := by simp
          clear HC HX HV B2 BX1
          go_wp2_with fail
          go_roundw
          case rel => exact ⟨j + 1, by omega, by go_num, RW⟩
          case measure => simp [intOf]; omega
        · have hjj : ¬ (j : Int) < (nf : Int) := by omega
          obtain ⟨h77, cs8, hb1, hb2, hb3⟩ := (HL.out.later HWw.out).bs
          obtain ⟨cs4, hb4, hb5⟩ := (HL.out.later HWw.out).bf
          have r : ∀ j, j < 8 → wr.cell? ⟨gs, ns * 8 + j, none⟩ = (Wd.bS h77)[j]? := fun j hj => by rw [cell_of_row wr _ _ _ 38 (0, 0) hb1]; exact hb2 j hj
          have r1 : wr.cell? ⟨gs, ns * 8, none⟩ = some (.slice (some ⟨h77, 0, none⟩) 1 1) := r 0 (by omega)
          have r2 : wr.cell? ⟨gs, ns * 8 + 1, none⟩ = some (.slice none 0 0) := r 1 (by omega)
          have r3 : wr.cell? ⟨gs, ns * 8 + 2, none⟩ = some (.slice none 0 0) := r 2 (by omega)
          have r4 : wr.cell? ⟨gs, ns * 8 + 3, none⟩ = some (.slice none 0 0) := r 3 (by omega)
          have r5 : wr.cell? ⟨gs, ns * 8 + 4, none⟩ = some (.string ⟨#[]⟩) := r 4 (by omega)
          have r6 : wr.cell? ⟨gs, ns * 8 + 5, none⟩ = some (.int .i64 0) := r 5 (by omega)
          have r7 : wr.cell? ⟨gs, ns * 8 + 6, none⟩ = some (.int .i64 0) := r 6 (by omega)
          have r8 : wr.cell? ⟨gs, ns * 8 + 7, none⟩ = some (.slice none 0 0) := r 7 (by omega)
          have t77 : wr.cell? ⟨h77, 0, none⟩ = some (.int .i64 77) := by rw [cell_of_row wr _ _ _ 3 (0, 0) hb3]; rfl
          have tb : wr.cell? ⟨gf, nf * 4, none⟩ = some (.string ⟨#[98, 101, 104, 105, 110, 100]⟩) := by rw [cell_of_row wr _ _ _ 35 (0, 0) hb4]; exact hb5
          have tw1 : IntKind.i64.wrap ((ns : Int) + 1) = (ns : Int) + 1 := by rw [IntKind.wrap_i64]; omega
          have tw2 : IntKind.i64.wrap ((nf : Int) + 1) = (nf : Int) + 1 := by rw [IntKind.wrap_i64]; omega
          have tc1 : (ns : Int) + 1 ≤ c1 := by omega
          have tc2 : (nf : Int) + 1 ≤ c2 := by omega
          have tl1 : (ns : Int) < (ns : Int) + 1 := by omega
          have tl2 : (nf : Int) < (nf : Int) + 1 := by omega
          obtain ⟨W1, hW1⟩ : ∃ X, X = wr.alloc (.cells #[.slice (some ⟨h77, 0, none⟩) 1 1, .slice none 0 0, .slice none 0 0, .slice none 0 0, .string ⟨#[]⟩, .int .i64 0, .int .i64 0, .slice none 0 0] 38) := ⟨_, rfl⟩
          have bA : Below wr.heap.size wr W1 := hW1 ▸ below_alloc wr _
          have kA : W1.heap[wr.heap.size]? = some (.cells #[.slice (some ⟨h77, 0, none⟩) 1 1, .slice none 0 0, .slice none 0 0, .slice none 0 0, .string ⟨#[]⟩, .int .i64 0, .int .i64 0, .slice none 0 0] 38 (0, 0)) := by rw [hW1]; exact heap_alloc_new wr _
          obtain ⟨gA, hgA⟩ : ∃ x, x = wr.heap.size := ⟨_, rfl⟩
          rw [← hgA] at kA
          have hM1 := Mv.of_below bA (fun _ => False)
          have x1 : W1.cell? ⟨gA, 0, none⟩ = some (.slice (some ⟨h77, 0, none⟩) 1 1) := by rw [cell_of_row W1 _ _ _ 38 (0, 0) kA]; rfl
          have x2 := hM1.cell t77 id
          have x3 := hM1.cell tb id
          have x4 := hM1.cell p1 id
          have BE := hide (below_on HWw.out bA)
          clear r hb1 hb2 hb3 hb4 hb5 bA kA hM1 HWw HW
          go_upto_region 26 with fail
          rw [← hW1, ← hgA]
          clear hW1 hgA r1 r2 r3 r4 r5 r6 r7 r8 q0 q1 p0 p1 t77 tb
          go_wp2_with fail
          go_ret
          exact ⟨by rfl, BE.out⟩
end Go.Proofs.YtfkhhplcogedmaaGreatDoor
