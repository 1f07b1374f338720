/-
  The law's look: what may be asked of a pair.
-/
import Derived.Test.YtejbdhbphbgckaaLawSt
namespace Go.Proofs.Ytejbdhbphbgckaa
open Go.RowKit
set_option maxHeartbeats 4000000 in
theorem lawlook_any (gw i B : Nat) (own : Nat → Nat) (G : Nat → Nat × Nat) (C D : Nat → St) (L : List Held) (w : World) (kd nn a ei eg : Int) (ag af : Option Addr) (ng cg nf cf : Nat) (h : Bw w gw own G C D L) (hi : i < 2) (hCD : D i = C i) (hL : L.length ≤ 1000000) (hF : Fe own B w) :
    Calls Try.prog 22 #[.pointer (some ⟨gw, 0, none⟩), .agg #[.pointer (some ⟨(G i).1, 0, none⟩), .pointer (some ⟨(G i).2, 0, none⟩)], .agg #[.int .i64 kd, .int .i64 nn, .int .i64 a, .int .i64 ei, .int .i64 eg, .slice ag ng cg, .slice af nf cf]] w fun e w' => e = .returned (.bool true) ∧ ∃ L', Bu w' gw B G C D L' ∧ L'.length = L.length + 4 ∧ Below B w w' := by
  have J1 : Hid (∀ W, Below w.heap.size w W → Calls Try.prog 16 #[.pointer (some ⟨(G i).1, 0, none⟩), .agg #[.int .i64 ei, .int .i64 eg]] W fun e w' => e = .returned (.bool (livesOf (C i).2.1 (C i).2.2 ei eg)) ∧ Below W.heap.size W w') := fun W hb => lives_any ei eg ((h.1 i hi).later hb)
  have hd : ∀ W, Below w.heap.size w W → Dl W (Lb own w (2 * i + 1)) (G i).2 (C i).1 (C i).2.1 (C i).2.2 := fun W hb => by
    have := (h.2.1 i hi).later hb
    rw [hCD] at this
    exact this
  have J2 : Hid (∀ W, Below w.heap.size w W → Calls Try.prog 32 #[.pointer (some ⟨(G i).2, 0, none⟩), .agg #[.int .i64 ei, .int .i64 eg]] W fun e w' => e = .returned (.bool (livesOf (C i).2.1 (C i).2.2 ei eg)) ∧ Below W.heap.size W w') := fun W hb => dlives_any ei eg (hd W hb)
  have J3 : Hid (∀ W, Below w.heap.size w W → Calls Try.prog 15 #[.pointer (some ⟨(G i).1, 0, none⟩), .int .i64 a] W fun e w' => e = .returned (.tuple #[.agg #[.int .i64 ((atOf (C i).2.1 (C i).2.2 a).1 : Int), .int .i64 ((atOf (C i).2.1 (C i).2.2 a).2 : Int)], .int .i64 (if isOn (C i).2.1 (C i).2.2 a then 0 else 41)]) ∧ Below W.heap.size W w') := fun W hb => at_any a ((h.1 i hi).later hb)
  have J4 : Hid (∀ W, Below w.heap.size w W → Calls Try.prog 33 #[.pointer (some ⟨(G i).2, 0, none⟩), .int .i64 a] W fun e w' => e = .returned (.tuple #[.agg #[.int .i64 ((atOf (C i).2.1 (C i).2.2 a).1 : Int), .int .i64 ((atOf (C i).2.1 (C i).2.2 a).2 : Int)], .int .i64 (if isOn (C i).2.1 (C i).2.2 a then 0 else 41)]) ∧ Below W.heap.size W w') := fun W hb => dat_any a (hd W hb)
  have J5 : Hid (∀ W, Below w.heap.size w W → Calls Try.prog 14 #[.pointer (some ⟨(G i).1, 0, none⟩)] W fun e w' => ∃ v, e = .returned v ∧ w'.ownsRow W.heap.size 41 2 v ((lvOf (C i).2.1 (C i).2.2).filter nz).length (ec ((lvOf (C i).2.1 (C i).2.2).filter nz)) ∧ Below W.heap.size W w') := fun W hb => all_any ((h.1 i hi).later hb)
  have J6 : Hid (∀ W, Below w.heap.size w W → Calls Try.prog 21 #[.pointer (some ⟨(G i).2, 0, none⟩)] W fun e w' => ∃ v, e = .returned v ∧ w'.ownsRow W.heap.size 41 2 v ((lvOf (C i).2.1 (C i).2.2).filter nz).length (ec ((lvOf (C i).2.1 (C i).2.2).filter nz)) ∧ Below W.heap.size W w') := fun W hb => dall_any (hd W hb)
  have hlx : ((lvOf (C i).2.1 (C i).2.2).filter nz).length ≤ 1000000 := by
    have ho := (h.1 i hi).2
    have := lv_len ho
    exact Nat.le_trans (List.length_filter_le _ _) this
  have HH := hide h
  generalize livesOf (C i).2.1 (C i).2.2 ei eg = lb at *
  generalize (if isOn (C i).2.1 (C i).2.2 a then (0 : Int) else 41) = xe at *
  generalize (atOf (C i).2.1 (C i).2.2 a).1 = q1 at *
  generalize (atOf (C i).2.1 (C i).2.2 a).2 = q2 at *
  generalize (lvOf (C i).2.1 (C i).2.2).filter nz = lx at *
  generalize hg : (G i).1 = g at *
  generalize hr : (G i).2 = r at *
  clear h hg hr hCD hd
  go_enter Try.func22, Try.ntmps22
  go_upto_region 1 with fail
  obtain ⟨w0, hw0⟩ : ∃ X, X = (w.alloc (.cells #[.pointer (some ⟨g, 0, none⟩), .pointer (some ⟨r, 0, none⟩)] 28)).alloc (.cells #[.int .i64 kd, .int .i64 nn, .int .i64 a, .int .i64 ei, .int .i64 eg, .slice ag ng cg, .slice af nf cf] 43) := ⟨_, rfl⟩
  have B0 : Below w.heap.size w w0 := hw0 ▸ below_on (below_alloc w _) (below_alloc _ _)
  have HX : Hid (∀ W, Below w0.heap.size w0 W → W.cell? ⟨w.heap.size, 0, none⟩ = some (.pointer (some ⟨g, 0, none⟩)) ∧ W.cell? ⟨w.heap.size, 1, none⟩ = some (.pointer (some ⟨r, 0, none⟩)) ∧ W.cell? ⟨w.heap.size + 1, 3, none⟩ = some (.int .i64 ei) ∧ W.cell? ⟨w.heap.size + 1, 4, none⟩ = some (.int .i64 eg) ∧ W.cell? ⟨w.heap.size + 1, 2, none⟩ = some (.int .i64 a)) := fun W hW => by
    subst hw0
    refine ⟨(hW.cell (p := ⟨w.heap.size, 0, none⟩) (by simp; omega)).trans ?_, (hW.cell (p := ⟨w.heap.size, 1, none⟩) (by simp; omega)).trans ?_, (hW.cell (p := ⟨w.heap.size + 1, 3, none⟩) (by simp)).trans ?_, (hW.cell (p := ⟨w.heap.size + 1, 4, none⟩) (by simp)).trans ?_, (hW.cell (p := ⟨w.heap.size + 1, 2, none⟩) (by simp)).trans ?_⟩ <;> simp
  rw [← hw0]
  obtain ⟨kx, hkx⟩ : ∃ k, k = w.heap.size := ⟨_, rfl⟩
  obtain ⟨ky, hky⟩ : ∃ k, k = w.heap.size + 1 := ⟨_, rfl⟩
  rw [← hky, ← hkx] at HX ⊢
  obtain ⟨x0, x1, x3, x4, -⟩ := HX.out w0 (Below.refl _ _)
  have K1 : Hid (∀ W, Below w0.heap.size w0 W → Calls Try.prog 16 #[.pointer (some ⟨g, 0, none⟩), .agg #[.int .i64 ei, .int .i64 eg]] W fun e w' => e = .returned (.bool lb) ∧ Hid (Below w0.heap.size w0 w') ∧ w'.cell? ⟨kx, 0, none⟩ = some (.pointer (some ⟨g, 0, none⟩)) ∧ w'.cell? ⟨kx, 1, none⟩ = some (.pointer (some ⟨r, 0, none⟩)) ∧ w'.cell? ⟨ky, 3, none⟩ = some (.int .i64 ei) ∧ w'.cell? ⟨ky, 4, none⟩ = some (.int .i64 eg)) := fun W hb => (J1.out W (below_on B0 hb)).mono (fun e w' ⟨h1, h2⟩ => by
    obtain ⟨y0, y1, y3, y4, -⟩ := HX.out w' (below_on hb h2)
    exact ⟨h1, below_on hb h2, y0, y1, y3, y4⟩)
  have K2 : Hid (∀ W, Below w0.heap.size w0 W → Calls Try.prog 32 #[.pointer (some ⟨r, 0, none⟩), .agg #[.int .i64 ei, .int .i64 eg]] W fun e w' => e = .returned (.bool lb) ∧ Hid (Below w0.heap.size w0 w') ∧ w'.cell? ⟨kx, 0, none⟩ = some (.pointer (some ⟨g, 0, none⟩)) ∧ w'.cell? ⟨kx, 1, none⟩ = some (.pointer (some ⟨r, 0, none⟩)) ∧ w'.cell? ⟨ky, 3, none⟩ = some (.int .i64 ei) ∧ w'.cell? ⟨ky, 4, none⟩ = some (.int .i64 eg)) := fun W hb => (J2.out W (below_on B0 hb)).mono (fun e w' ⟨h1, h2⟩ => by
    obtain ⟨y0, y1, y3, y4, -⟩ := HX.out w' (below_on hb h2)
    exact ⟨h1, below_on hb h2, y0, y1, y3, y4⟩)
  clear hw0 hkx hky J1 J2
  go_region_held3 (fun W => W.cell? ⟨kx, 0, none⟩ = some (.pointer (some ⟨g, 0, none⟩)) ∧ W.cell? ⟨kx, 1, none⟩ = some (.pointer (some ⟨r, 0, none⟩)) ∧ W.cell? ⟨ky, 3, none⟩ = some (.int .i64 ei) ∧ W.cell? ⟨ky, 4, none⟩ = some (.int .i64 eg)) (go_keep) (first | (go_at_call 16; (first | refine (K1.out _ HB1.out).mono ?_ | refine (K1.out _ (below_drew w0)).mono ?_); rintro e w1 ⟨rfl, HB1, d0, d1, d3, d4⟩) | (go_at_call 32; (first | refine (K2.out _ HB1.out).mono ?_ | refine (K2.out _ (below_drew w0)).mono ?_); rintro e w1 ⟨rfl, HB1, d0, d1, d3, d4⟩))
  obtain ⟨w2, rfl⟩ : ∃ X, X = w1 := ⟨_, rfl⟩
  have A2 : Below w0.heap.size w0 w2 := HB1.out
  clear x0 x1 x3 x4 K1 K2 HB1
  obtain ⟨x0, x1, -, -, x2⟩ := HX.out w2 A2
  go_wp2_with fail
  refine (J3.out w2 (below_on B0 A2)).mono ?_
  rintro e w3 ⟨rfl, B3⟩
  go_upto_region 4 with fail
  obtain ⟨w4, hw4⟩ : ∃ X, X = w3.alloc (.cells #[.int .i64 (q1 : Int), .int .i64 (q2 : Int)] 41) := ⟨_, rfl⟩
  have HY : Hid (∀ W, Below w4.heap.size w4 W → W.cell? ⟨w3.heap.size, 0, none⟩ = some (.int .i64 (q1 : Int)) ∧ W.cell? ⟨w3.heap.size, 1, none⟩ = some (.int .i64 (q2 : Int))) := fun W hW => by
    subst hw4
    refine ⟨(hW.cell (p := ⟨w3.heap.size, 0, none⟩) (by simp)).trans ?_, (hW.cell (p := ⟨w3.heap.size, 1, none⟩) (by simp)).trans ?_⟩ <;> simp
  have A4 : Below w0.heap.size w0 w4 := below_on (below_on A2 B3) (hw4 ▸ below_alloc w3 _)
  rw [← hw4]
  generalize w3.heap.size = kp at *
  clear x0 x1 x2 hw4 B3 J3
  obtain ⟨x0, x1, -, -, x2⟩ := HX.out w4 A4
  go_wp2_with fail
  refine (J4.out w4 (below_on B0 A4)).mono ?_
  rintro e w5 ⟨rfl, B5⟩
  go_upto_region 5 with fail
  obtain ⟨w6, hw6⟩ : ∃ X, X = w5.alloc (.cells #[.int .i64 (q1 : Int), .int .i64 (q2 : Int)] 41) := ⟨_, rfl⟩
  have HZ : Hid (∀ W, Below w6.heap.size w6 W → W.cell? ⟨w5.heap.size, 0, none⟩ = some (.int .i64 (q1 : Int)) ∧ W.cell? ⟨w5.heap.size, 1, none⟩ = some (.int .i64 (q2 : Int))) := fun W hW => by
    subst hw6
    refine ⟨(hW.cell (p := ⟨w5.heap.size, 0, none⟩) (by simp)).trans ?_, (hW.cell (p := ⟨w5.heap.size, 1, none⟩) (by simp)).trans ?_⟩ <;> simp
  have A46 : Below w4.heap.size w4 w6 := below_on B5 (hw6 ▸ below_alloc w5 _)
  have A6 : Below w0.heap.size w0 w6 := below_on A4 A46
  rw [← hw6]
  generalize w5.heap.size = kq at *
  clear x0 x1 x2 hw6 B5 J4
  obtain ⟨x0, x1, -, -, x2⟩ := HX.out w6 A6
  go_wp2_with fail
  refine (J5.out w6 (below_on B0 A6)).mono ?_
  rintro e w7 ⟨l, rfl, ol, B7⟩
  clear x0 x1 x2
  obtain ⟨x0, x1, -, -, x2⟩ := HX.out w7 (below_on A6 B7)
  go_wp2_with fail
  refine (J6.out w7 (below_on B0 (below_on A6 B7))).mono ?_
  rintro e w8 ⟨m, rfl, om, B8⟩
  have A68 := below_on B7 B8
  have A8 := below_on A6 A68
  clear x0 x1 x2 J6
  obtain ⟨y0, y1⟩ := HY.out w8 (below_on A46 A68)
  obtain ⟨z0, z1⟩ := HZ.out w8 A68
  have OL := hide (own_later ol B8)
  have OM := hide om
  have OLW := hide ol
  obtain ⟨lo, cl, rfl⟩ := own_len ol
  obtain ⟨mo, cm, rfl⟩ := own_len om
  obtain ⟨hl1, hl2⟩ := own_cap ol
  obtain ⟨hm1, hm2⟩ := own_cap om
  clear ol om
  go_upto_block 0 with fail
  go_wp2_with fail
  go_loopw [13, 14] (fun v13 v14 W => ∃ j : Nat, j ≤ lx.length ∧ v13 = .bool true ∧ v14 = .int .i64 (j : Int) ∧ Hid (Below w8.heap.size w8 W)) (fun _ v14 _ => lx.length - (intOf v14).toNat)
  case atStart => exact ⟨0, Nat.zero_le _, rfl, rfl, Below.refl _ _⟩
  case round =>
    obtain ⟨j, hjl, rfl, rfl, HW⟩ := hrel
    by_cases hj : j < lx.length
    · have t1 : (j : Int) < (lx.length : Int) := by omega
      have hl := own_later OL.out HW.out
      have hm := own_later OM.out HW.out
      obtain ⟨gl, cl', e, -, -⟩ := own_form hl (by omega)
      simp only [Value.slice.injEq] at e
      obtain ⟨rfl, -, rfl⟩ := e
      obtain ⟨gm, cm', e, -, -⟩ := own_form hm (by omega)
      simp only [Value.slice.injEq] at e
      obtain ⟨rfl, -, rfl⟩ := e
      obtain ⟨b0, b1⟩ := own_ent hl j hj
      obtain ⟨b2, b3⟩ := own_ent hm j hj
      generalize lx[j].1 = u1 at *
      generalize lx[j].2 = u2 at *
      clear hl hm
      go_upto_region 11 with fail
      go_region_held3 (fun W => W.cell? ⟨gl, j * 2, none⟩ = some (.int .i64 (u1 : Int)) ∧ W.cell? ⟨gl, j * 2 + 1, none⟩ = some (.int .i64 (u2 : Int)) ∧ W.cell? ⟨gm, j * 2, none⟩ = some (.int .i64 (u1 : Int)) ∧ W.cell? ⟨gm, j * 2 + 1, none⟩ = some (.int .i64 (u2 : Int))) (go_keep) (fail)
      go_wp2_with fail
      go_roundw
      case rel => exact ⟨j + 1, by omega, by simp, by go_num, below_on HW.out (below_drew _)⟩
      case measure => simp [intOf]; omega
    · have t1 : ¬ (j : Int) < (lx.length : Int) := by omega
      obtain ⟨w9, rfl⟩ : ∃ X, X = wr := ⟨_, rfl⟩
      have A9 := below_on A8 HW.out
      have s9 := HW.out.size
      clear y0 y1 z0 z1
      obtain ⟨x0, x1, -, -, x2⟩ := HX.out w9 A9
      go_wp2_with fail
      refine (J5.out w9 (below_on B0 A9)).mono ?_
      rintro e w10 ⟨k, rfl, ok, B10⟩
      clear x0 x1 x2
      have A810 := below_on HW.out B10
      have OK := hide ok
      have OM2 := hide (own_later OM.out A810)
      have OL2 := hide (own_later OL.out A810)
      obtain ⟨ko, ck, rfl⟩ := own_len ok
      obtain ⟨hk1, hk2⟩ := own_cap ok
      clear ok
      go_upto_block 2 with fail
      go_wp2_with fail
      go_loopw [13, 16] (fun v13 v14 W => ∃ j : Nat, j ≤ lx.length ∧ v13 = .bool true ∧ v14 = .int .i64 (j : Int) ∧ Hid (Below w10.heap.size w10 W)) (fun _ v14 _ => lx.length - (intOf v14).toNat)
      case atStart => exact ⟨0, Nat.zero_le _, rfl, rfl, Below.refl _ _⟩
      case round =>
        obtain ⟨j, hjl, rfl, rfl, HW⟩ := hrel
        by_cases hj : j < lx.length
        · have t1 : (j : Int) < (lx.length : Int) := by omega
          have hl := own_later OK.out HW.out
          have hm := own_later OM2.out HW.out
          obtain ⟨gl, cl', e, -, -⟩ := own_form hl (by omega)
          simp only [Value.slice.injEq] at e
          obtain ⟨rfl, -, rfl⟩ := e
          obtain ⟨gm, cm', e, -, -⟩ := own_form hm (by omega)
          simp only [Value.slice.injEq] at e
          obtain ⟨rfl, -, rfl⟩ := e
          obtain ⟨b0, b1⟩ := own_ent hl j hj
          obtain ⟨b2, b3⟩ := own_ent hm j hj
          generalize lx[j].1 = u1 at *
          generalize lx[j].2 = u2 at *
          clear hl hm
          go_upto_region 17 with fail
          go_region_held3 (fun W => W.cell? ⟨gl, j * 2, none⟩ = some (.int .i64 (u1 : Int)) ∧ W.cell? ⟨gl, j * 2 + 1, none⟩ = some (.int .i64 (u2 : Int)) ∧ W.cell? ⟨gm, j * 2, none⟩ = some (.int .i64 (u1 : Int)) ∧ W.cell? ⟨gm, j * 2 + 1, none⟩ = some (.int .i64 (u2 : Int))) (go_keep) (fail)
          go_wp2_with fail
          go_roundw
          case rel => exact ⟨j + 1, by omega, by simp, by go_num, below_on HW.out (below_drew _)⟩
          case measure => simp [intOf]; omega
        · have t1 : ¬ (j : Int) < (lx.length : Int) := by omega
          obtain ⟨w11, rfl⟩ : ∃ X, X = wr := ⟨_, rfl⟩
          have s6 := A6.size
          have s0 := B0.size
          have s7 := B7.size
          have s8 := B8.size
          have s10 := B10.size
          have s11 := HW.out.size
          have ol11 := own_later OL2.out HW.out
          have ok11 := own_later OK.out HW.out
          have apl : Ap (.slice lo lx.length cl) (.slice ko lx.length ck) := ap_later OLW.out OK.out (by omega)
          have C11 := below_on B0 (below_on A9 (below_on B10 HW.out))
          obtain ⟨wz, hwz⟩ : ∃ X, X = w11.alloc (.cells #[.slice lo lx.length cl, .slice ko lx.length ck] 47) := ⟨_, rfl⟩
          have Bz : Below w11.heap.size w11 wz := hwz ▸ below_alloc w11 _
          have hwn : wz.heap[w11.heap.size]? = some (.cells #[.slice lo lx.length cl, .slice ko lx.length ck] 47 (0, 0)) := hwz ▸ heap_alloc_new w11 _
          have HF : Hid (Calls Try.prog 28 #[.pointer (some ⟨gw, 0, none⟩), .slice none 0 0, .slice (some ⟨w11.heap.size, 0, none⟩) 2 2] wz fun e w' => e = .returned (.tuple #[]) ∧ ∃ L2, Bu w' gw B G C D (L ++ L2) ∧ L2.length = 4 ∧ Below B w w') := by
            have hall : ∀ p ∈ [(Value.slice lo lx.length cl, lx.length), (Value.slice ko lx.length ck, lx.length)], (∃ xs, w11.ownsRow w.heap.size 41 2 p.1 p.2 xs) ∧ p.2 ≤ 1000000 := by
              intro p hp
              simp only [List.mem_cons, List.not_mem_nil, or_false] at hp
              rcases hp with rfl | rfl
              · exact ⟨⟨_, own_lower ol11 (by omega)⟩, hlx⟩
              · exact ⟨⟨_, own_lower ok11 (by omega)⟩, hlx⟩
            have := bu_fill_ents (W := wz) (ga := w11.heap.size) (ca := 2) (Vs := [(.slice lo lx.length cl, lx.length), (.slice ko lx.length ck, lx.length)]) HH.out (below_on C11 Bz) (fun j hj => ?_) ?_ ?_ C11.size ?_ (fun p hp => (hall p hp).2) (by simp) (by simp [maxLen]) hL hF
            · exact this.mono (fun e w' ⟨h1, L2, h2, h3, h4⟩ => ⟨h1, L2, h2, h3, ((below_on C11 Bz).mono hF.1).trans h4⟩)
            · obtain ⟨xs, hx⟩ := (hall _ (List.getElem_mem hj)).1
              exact ⟨xs, own_later hx Bz⟩
            · intro i j hi hj hij
              match i, hi, j, hj with
              | 0, _, 1, _ => exact apl
              | 1, _, 0, _ => exact apl.symm
              | 0, _, 0, _ => exact absurd rfl hij
              | 1, _, 1, _ => exact absurd rfl hij
            · intro j hj
              rw [cell_of_row wz w11.heap.size _ _ 47 (0, 0) hwn]
              match j, hj with
              | 0, _ => rfl
              | 1, _ => rfl
            · rintro ⟨p, hp, e⟩
              obtain ⟨xs, hx⟩ := (hall p hp).1
              have := (hx.lt _ e).2
              omega
          rw [hwz] at HF
          clear ol11 ok11 apl hwn hwz Bz
          go_wp2_with fail
          refine HF.out.mono ?_
          rintro e w12 ⟨rfl, L2, hbu, hl2, hbb⟩
          have HBB := hide hbb
          have HBU := hide hbu
          clear hbu hbb
          go_wp2_with fail
          go_ret
          exact ⟨rfl, _, HBU.out, by rw [List.length_append, hl2], HBB.out⟩
end Go.Proofs.Ytejbdhbphbgckaa
