/-
  DiceBounds: the walk.
-/
import Derived.Test.YtihlhidpiehehaaBdM
namespace Go.Proofs.Ytihlhidpiehehaa
open Go.RowKit
theorem Cp.off {w0 w w' : World} {kc gd ge gb gq : Nat} {c0 c1 c2 c3 s s' : Int} (h : Cp w0 w kc gd ge gb c0 c1 c2 c3 s s') (hm : Mv w w' (fun k => k = gq)) (hq : w0.heap.size ≤ gq ∧ kc < gq ∧ gd < gq ∧ ge < gq ∧ gb < gq) : Cp w0 w' kc gd ge gb c0 c1 c2 c3 s s' := by
  obtain ⟨h1, h2, h3, ⟨sb, h4⟩, h5, h6⟩ := h
  exact ⟨hm.at h1 (by omega), h2.frame hm (by omega), h3.frame hm (by omega), ⟨sb, h4.frame hm (by omega)⟩, h5.trans (hm.below h5.size (fun k e => by omega)), h6⟩
theorem seen_more {p : Nat → Bool} {i x k : Nat} {s : Int} (hp : ∀ y : Nat, p y = true → ∃ j, j < i ∧ (ordL k s).getD j 0 = (y : Int)) (hx : (ordL k s).getD i 0 = (x : Int)) : ∀ y : Nat, (decide (y = x) || p y) = true → ∃ j, j < i + 1 ∧ (ordL k s).getD j 0 = (y : Int) := by
  intro y h
  simp only [Bool.or_eq_true, decide_eq_true_eq] at h
  rcases h with rfl | h
  · exact ⟨i, by omega, hx⟩
  · obtain ⟨j, hj, e⟩ := hp y h
    exact ⟨j, by omega, e⟩
set_option maxRecDepth 100000
set_option maxHeartbeats 8000000 in
theorem bounds_walk (c0 c1 c2 c3 n a b many : Int) (w : World) (hn : -9223372036854775808 ≤ n ∧ n ≤ 9223372036854775807) (ha : -9223372036854775808 ≤ a ∧ a ≤ 9223372036854775807) (hb : -9223372036854775808 ≤ b ∧ b ≤ 9223372036854775807) (hc : -9223372036854775808 ≤ many ∧ many ≤ 9223372036854775807) :
    Calls Try.prog 5 #[.agg #[.int .i64 c0, .int .i64 c1, .int .i64 c2, .int .i64 c3], .int .i64 n, .int .i64 a, .int .i64 b, .int .i64 many] w fun e w' => e = .returned (.bool true) ∧ Below w.heap.size w w' := by
  obtain ⟨w0, hw0⟩ : ∃ W, W = w.alloc (.cells #[.int .i64 c0, .int .i64 c1, .int .i64 c2, .int .i64 c3] 27) := ⟨_, rfl⟩
  obtain ⟨kc, hkc⟩ : ∃ k, k = w.heap.size := ⟨_, rfl⟩
  have hk0 : w0.heap[kc]? = some (.cells #[.int .i64 c0, .int .i64 c1, .int .i64 c2, .int .i64 c3] 27 (0, 0)) := by rw [hw0, hkc]; exact heap_alloc_new _ _
  have hb0 : Below w.heap.size w w0 := hw0 ▸ below_alloc w _
  have JS := hide (shown_any w0)
  have JN := hide (new_any c0 c1 c2 c3)
  go_enter Try.func5, Try.ntmps5
  go_wp2_with fail
  rw [← hkc, ← hw0]
  have HKC := hide hkc
  clear hkc hw0
  refine JS.out.mono ?_
  rintro e w1 ⟨rfl, hb1⟩
  have k1 : w1.heap[kc]? = some (.cells #[.int .i64 c0, .int .i64 c1, .int .i64 c2, .int .i64 c3] 27 (0, 0)) := (hb1.block kc (lt_of_block hk0)).trans hk0
  have HB1 := hide (below_on hb0 hb1)
  clear hk0 hb0 hb1
  obtain ⟨x0, x1, x2, x3⟩ : w1.cell? ⟨kc, 0, none⟩ = some (.int .i64 c0) ∧ w1.cell? ⟨kc, 1, none⟩ = some (.int .i64 c1) ∧ w1.cell? ⟨kc, 2, none⟩ = some (.int .i64 c2) ∧ w1.cell? ⟨kc, 3, none⟩ = some (.int .i64 c3) := by
    refine ⟨?_, ?_, ?_, ?_⟩ <;> rw [cell_of_row w1 kc _ _ 27 (0, 0) k1] <;> rfl
  go_wp2_with fail
  refine (JN.out w1).mono ?_
  rintro e w2 ⟨gd, rfl, hd0, hd, hb2⟩
  have k2 : w2.heap[kc]? = some (.cells #[.int .i64 c0, .int .i64 c1, .int .i64 c2, .int .i64 c3] 27 (0, 0)) := (hb2.block kc (lt_of_block k1)).trans k1
  have HB2 := hide (below_on HB1.out hb2)
  have HD := hide hd
  have HX := hide (show w.heap.size ≤ kc ∧ kc < gd ∧ w.heap.size ≤ gd from ⟨by rw [HKC.out]; omega, by have := lt_of_block k1; omega, by have := HB1.out.size; omega⟩)
  clear k1 HB1 hb2 hd hd0 x0 x1 x2 x3
  obtain ⟨x0, x1, x2, x3⟩ : w2.cell? ⟨kc, 0, none⟩ = some (.int .i64 c0) ∧ w2.cell? ⟨kc, 1, none⟩ = some (.int .i64 c1) ∧ w2.cell? ⟨kc, 2, none⟩ = some (.int .i64 c2) ∧ w2.cell? ⟨kc, 3, none⟩ = some (.int .i64 c3) := by
    refine ⟨?_, ?_, ?_, ?_⟩ <;> rw [cell_of_row w2 kc _ _ 27 (0, 0) k2] <;> rfl
  go_wp2_with fail
  refine (JN.out w2).mono ?_
  rintro e w3 ⟨ge, rfl, hd0, hd, hb2⟩
  have k3 : w3.heap[kc]? = some (.cells #[.int .i64 c0, .int .i64 c1, .int .i64 c2, .int .i64 c3] 27 (0, 0)) := (hb2.block kc (lt_of_block k2)).trans k2
  have HB3 := hide (below_on HB2.out hb2)
  have HD3 := hide (HD.out.later hb2)
  have HE := hide hd
  have HX3 := hide (show gd < ge by have := HD.out.lt; omega)
  clear k2 HB2 hb2 hd hd0 x0 x1 x2 x3 HD
  obtain ⟨x0, x1, x2, x3⟩ : w3.cell? ⟨kc, 0, none⟩ = some (.int .i64 c0) ∧ w3.cell? ⟨kc, 1, none⟩ = some (.int .i64 c1) ∧ w3.cell? ⟨kc, 2, none⟩ = some (.int .i64 c2) ∧ w3.cell? ⟨kc, 3, none⟩ = some (.int .i64 c3) := by
    refine ⟨?_, ?_, ?_, ?_⟩ <;> rw [cell_of_row w3 kc _ _ 27 (0, 0) k3] <;> rfl
  go_wp2_with fail
  refine (JN.out w3).mono ?_
  rintro e w4 ⟨gb, rfl, hd0, hd, hb2⟩
  have HC : Hid (Cp w w4 kc gd ge gb c0 c1 c2 c3 (seedS c0 c1 c2 c3) (seedS c0 c1 c2 c3)) := by
    have q := HX.out
    have q3 := HX3.out
    have q4 := HE.out.lt
    exact ⟨(hb2.block kc (lt_of_block k3)).trans k3, HD3.out.later hb2, HE.out.later hb2, ⟨_, hd⟩, below_on HB3.out hb2, ⟨by omega, by omega, by omega, by omega⟩, by omega, by omega, by omega, by omega, by omega, by omega⟩
  clear k3 HB3 hb2 hd hd0 x0 x1 x2 x3 HD3 HE HX HX3 HKC JS
  generalize seedS c0 c1 c2 c3 = s0 at *
  go_wp2_with fail
  go_loopg [15] 5 (fun k v15 wr => ∃ (i : Nat) (s : Int), k = 5 - i ∧ i ≤ 5 ∧ v15 = .int .i64 (i : Int) ∧ Hid (Cp w wr kc gd ge gb c0 c1 c2 c3 s s))
  case atStart => exact ⟨0, s0, rfl, by omega, rfl, HC⟩
  case round =>
    clear HC
    obtain ⟨i, s, hk, hi, rfl, HC⟩ := hrel
    by_cases hlt : i < 5
    · have hlt' : (i : Int) < 5 := by omega
      have J1 := hide (below_any HC.out.2.1 n hn.1 hn.2)
      have qb := belA_b (n := n) s
      have qz := belA_0 (n := n) s
      have JBT := hide (fun (W : World) (g : Nat) (s : Int) (h : Dz W g s) => between_any h a b ha hb)
      have JBL := hide (fun (W : World) (g : Nat) (s : Int) (h : Dz W g s) => below_any h n hn.1 hn.2)
      have JNX := hide (fun (W : World) (g : Nat) (s : Int) (h : Dz W g s) => next_any h)
      have JSH := hide (fun (W : World) (g : Nat) (s : Int) (h : Dz W g s) => shuffle_k h 3 (by omega))
      obtain ⟨bt1, bt2, bt3⟩ := btwA_b (a := a) (b := b) (belS n s) ha hb
      generalize hX : belA n s = x at *
      generalize hS1 : belS n s = s1 at *
      generalize hY : btwA a b s1 = y at *
      generalize hS2 : btwS a b s1 = s2 at *
      have HFX := hide (And.intro (And.intro hX hS1) (And.intro hY hS2))
      clear hX hS1 hY hS2
      go_wp2_with fail
      refine J1.out.mono ?_
      rintro e w5 ⟨rfl, hd, hm⟩
      have C5 := hide (HC.out.turnD hd hm)
      have J2 := hide (JBT.out _ _ _ hd)
      rw [HFX.out.2.1, HFX.out.2.2] at J2
      clear hd hm J1
      go_wp2_with fail
      refine J2.out.mono ?_
      rintro e w6 ⟨rfl, hd, hm⟩
      have C6 := hide (C5.out.turnD hd hm)
      clear hd hm J2 C5
      obtain ⟨sb, hsb⟩ := C6.out.2.2.2.1
      have J3 := hide (JNX.out _ _ _ hsb)
      clear hsb
      go_wp2_with fail
      refine J3.out.mono ?_
      rintro e w7 ⟨rfl, hd, hm⟩
      have C7 := hide (C6.out.turnB hd hm)
      have J4 := hide (JSH.out _ _ _ hd)
      clear hd hm J3 C6
      go_wp2_with fail
      refine J4.out.mono ?_
      rintro e w8 ⟨ao8, rfl, -, hd, hm⟩
      have C8 := hide (C7.out.turnB hd hm)
      have J5 := hide (JBL.out _ _ _ C8.out.2.2.1)
      rw [HFX.out.1.1, HFX.out.1.2] at J5
      clear hd hm J4 C7
      go_wp2_with fail
      refine J5.out.mono ?_
      rintro e w9 ⟨rfl, hd, hm⟩
      have C9 := hide (C8.out.turnE hd hm)
      have J6 := hide (JBT.out _ _ _ hd)
      rw [HFX.out.2.1, HFX.out.2.2] at J6
      clear hd hm J5 C8
      go_wp2_with fail
      refine J6.out.mono ?_
      rintro e wa ⟨rfl, hd, hm⟩
      have CA := hide (C9.out.turnE hd hm)
      clear hd hm J6 C9
      clear JBT JBL JNX JSH HC
      have hx0 : 0 ≤ x := by
        by_cases h : 1 ≤ n
        · exact (qb h).1
        · rw [qz (by omega)]; exact Int.le_refl _
      by_cases hn1 : 1 ≤ n
      · have hx1 : x < n := (qb hn1).2
        clear qb qz
        by_cases hab : b < a
        · have hy : y = a := bt3 hab
          clear bt1 bt2 bt3
          go_wp2_with fail
          go_roundg (5 - (i + 1))
          case measure => omega
          case rel => exact ⟨i + 1, s2, rfl, hlt, by simp, CA⟩
        · have hy : y ≤ b := bt2 (by omega)
          clear bt2 bt3
          go_wp2_with fail
          go_roundg (5 - (i + 1))
          case measure => omega
          case rel => exact ⟨i + 1, s2, rfl, hlt, by simp, CA⟩
      · have hx1 : x = 0 := qz (by omega)
        clear qb qz
        by_cases hab : b < a
        · have hy : y = a := bt3 hab
          clear bt1 bt2 bt3
          go_wp2_with fail
          go_roundg (5 - (i + 1))
          case measure => omega
          case rel => exact ⟨i + 1, s2, rfl, hlt, by simp, CA⟩
        · have hy : y ≤ b := bt2 (by omega)
          clear bt2 bt3
          go_wp2_with fail
          go_roundg (5 - (i + 1))
          case measure => omega
          case rel => exact ⟨i + 1, s2, rfl, hlt, by simp, CA⟩
    · obtain rfl : i = 5 := by omega
      clear hlt hi hk
      go_wp2_with fail
      go_loopg [20] 40 (fun k v20 wr => ∃ (i : Nat), k = 40 - i ∧ i ≤ 40 ∧ v20 = .int .i64 (i : Int) ∧ Hid (Cp w wr kc gd ge gb c0 c1 c2 c3 s s))
      case atStart => exact ⟨0, rfl, by omega, rfl, HC⟩
      case round =>
        clear HC
        obtain ⟨i, hk, hi, rfl, HC⟩ := hrel
        by_cases hlt : i < 40
        · have hlt' : (i : Int) < 40 := by omega
          obtain ⟨x0, x1, x2, x3⟩ := HC.out.cells
          have J1 := hide (new_any c0 c1 c2 (i : Int) wr)
          have JNX := hide (fun (W : World) (g : Nat) (s : Int) (h : Dz W g s) => next_any h)
          go_wp2_with fail
          refine J1.out.mono ?_
          rintro e w5 ⟨go, rfl, hg, hd, hb5⟩
          have C5 := hide (HC.out.later hb5)
          have J2 := hide (JNX.out _ _ _ hd)
          have HG := hide (And.intro hg hb5)
          clear hd hb5 hg x0 x1 x2 x3 J1
          go_wp2_with fail
          refine J2.out.mono ?_
          rintro e w6 ⟨rfl, hd, hm⟩
          have C6 : Hid (Cp w w6 kc gd ge gb c0 c1 c2 c3 s s) := HC.out.later (HG.out.2.trans (hm.below HG.out.2.size (fun k e => by rw [e]; exact HG.out.1)))
          clear hd hm C5 J2 HG
          go_wp2_with fail
          go_roundg (40 - (i + 1))
          case measure => omega
          case rel => exact ⟨i + 1, rfl, hlt, by simp, C6⟩
        · obtain rfl : i = 40 := by omega
          clear hlt hi hk
          obtain ⟨k, hkk⟩ : ∃ k : Nat, pickI many 1001 = (k : Int) := ⟨(pickI many 1001).toNat, by have := pickI_b many (n := 1001) (by omega); omega⟩
          have hk1000 : k ≤ 1000 := by have := pickI_b many (n := 1001) (by omega); omega
          have JP := hide (pick_any many 1001 wr hc (by omega) (by omega))
          rw [hkk] at JP
          clear hkk
          have JSH := hide (fun (W : World) (g : Nat) (s : Int) (h : Dz W g s) => shuffle_k h k hk1000)
          have JNX := hide (fun (W : World) (g : Nat) (s : Int) (h : Dz W g s) => next_any h)
          have hmk := run_make_row' (P := Try.prog) 47 4 (.bool false) 1 Try.underlying47 (by kernel_rfl) rfl .i64 .i64 k (by omega) (by omega)
          go_wp2_with fail
          refine JP.out.mono ?_
          rintro e w5 ⟨rfl, rfl⟩
          have J1 := hide (JSH.out _ _ _ HC.out.2.1)
          clear JP
          go_wp2_with fail
          refine J1.out.mono ?_
          rintro e w6 ⟨ao, rfl, hao, hd, hm⟩
          have C6 := hide (HC.out.turnD hd hm)
          have HA := hide hao
          have HWS := hide hm.size
          have J2 := hide (JSH.out _ _ _ C6.out.2.2.1)
          clear hd hm hao J1
          go_wp2_with fail
          refine J2.out.mono ?_
          rintro e w7 ⟨am, rfl, ham, hd, hm⟩
          have C7 := hide (C6.out.turnE hd hm)
          have HA7 : Hid (1 ≤ k → ∃ gl, ao = some ⟨gl, 0, none⟩ ∧ Ir w7 gl (ordL k s)) := fun h => by
            obtain ⟨gl, e1, e2, e3⟩ := HA.out h
            have := HC.out.2.2.1.lt
            exact ⟨gl, e1, e3.frame hm (fun e => by omega)⟩
          have HM7 : Hid (1 ≤ k → ∃ gm, am = some ⟨gm, 0, none⟩ ∧ Ir w7 gm (ordL k s)) := fun h => by
            obtain ⟨gl, e1, e2, e3⟩ := ham h
            exact ⟨gl, e1, e3⟩
          clear hd hm ham J2 HA HWS C6 HC
          generalize ordS k s = s2 at *
          go_wp2_with fail
          obtain ⟨w8, hw8⟩ : ∃ W, W = w7.alloc (.cells (madeCells #[.bool false] k) 4) := ⟨_, rfl⟩
          obtain ⟨gq, hgq⟩ : ∃ g, g = w7.heap.size := ⟨_, rfl⟩
          rw [← hw8, ← hgq]
          have hb8 : Below w7.heap.size w7 w8 := hw8 ▸ below_alloc w7 _
          have C8 := hide (C7.out.later hb8)
          have HQ8 : Hid (Sn w8 gq k (fun _ => false)) := by rw [hw8, hgq]; exact Sn.made w7 k
          have HA8 : Hid (1 ≤ k → ∃ gl, ao = some ⟨gl, 0, none⟩ ∧ gl < gq ∧ Ir w8 gl (ordL k s)) := fun h => by
            obtain ⟨gl, e1, e2⟩ := HA7.out h
            exact ⟨gl, e1, by rw [hgq]; exact e2.lt, e2.later hb8⟩
          have HM8 : Hid (1 ≤ k → ∃ gm, am = some ⟨gm, 0, none⟩ ∧ gm < gq ∧ Ir w8 gm (ordL k s)) := fun h => by
            obtain ⟨gl, e1, e2⟩ := HM7.out h
            exact ⟨gl, e1, by rw [hgq]; exact e2.lt, e2.later hb8⟩
          have HGQ : Hid (w.heap.size ≤ gq ∧ kc < gq ∧ gd < gq ∧ ge < gq ∧ gb < gq) := by
            obtain ⟨h1, h2, h3, ⟨sb, h4⟩, h5, -⟩ := C7.out
            rw [hgq]
            exact ⟨h5.size, lt_of_block h1, h2.lt, h3.lt, h4.lt⟩
          clear hw8 hgq hb8 C7 HA7 HM7
          go_loopg [26] k (fun q v26 wr => ∃ (i : Nat) (p : Nat → Bool), q = k - i ∧ i ≤ k ∧ v26 = .int .i64 (i : Int) ∧ Hid (Cp w wr kc gd ge gb c0 c1 c2 c3 s2 s2) ∧ Hid (Sn wr gq k p) ∧ Hid (∀ x : Nat, p x = true → ∃ j, j < i ∧ (ordL k s).getD j 0 = (x : Int)) ∧ Hid (1 ≤ k → ∃ gl, ao = some ⟨gl, 0, none⟩ ∧ gl < gq ∧ Ir wr gl (ordL k s)) ∧ Hid (1 ≤ k → ∃ gm, am = some ⟨gm, 0, none⟩ ∧ gm < gq ∧ Ir wr gm (ordL k s)))
          case atStart => exact ⟨0, _, rfl, by omega, rfl, C8, HQ8, hide (fun x h => Bool.noConfusion h), HA8, HM8⟩
          case round =>
            clear C8 HQ8 HA8 HM8
            obtain ⟨i, p, hq, hi, rfl, HC, HQ, HP, HA, HM⟩ := hrel
            by_cases hlt : i < k
            · have hlt' : (i : Int) < (k : Int) := by omega
              obtain ⟨gl, rfl, hgl, hil⟩ := HA.out (by omega)
              obtain ⟨gm, rfl, hgm, him⟩ := HM.out (by omega)
              obtain ⟨x, hxk, hx1, hx2⟩ := ord_at k s (by omega) i hlt
              have hlen := ordL_len k s (by omega)
              have y0 := hil.cellD i (by omega)
              have y1 := him.cellD i (by omega)
              rw [hx1] at y0 y1
              have hpx : p x = false := by
                cases hp : p x with
                | false => rfl
                | true =>
                  obtain ⟨j, hj, e⟩ := HP.out x hp
                  exact absurd e (hx2 j hj)
              have y2 := HQ.out.cell x hxk
              rw [hpx] at y2
              have f2 := HQ.out.frozen x
              have hxk' : (x : Int) < (k : Int) := by omega
              have hdk : decide ((k : Int) ≤ (x : Int)) = false := decide_eq_false (by omega)
              have hdn : decide (k ≤ x) = false := decide_eq_false (by omega)
              have hd0 : decide ((x : Int) < 0) = false := decide_eq_false (by omega)
              have HIL := hide (And.intro hgl hil)
              have HIM := hide (And.intro hgm him)
              have HX := hide hx1
              clear hil him hx1 hx2 hpx hgl hgm hlen
              go_upto_region 36 with fail
              go_region_held3 (fun W => W.cell? ⟨gl, i, none⟩ = some (.int .i64 (x : Int)) ∧ W.cell? ⟨gm, i, none⟩ = some (.int .i64 (x : Int)) ∧ W.cell? ⟨gq, x, none⟩ = some (.bool false)) (go_keep) (fail)
              go_wp2_with fail
              have HW : Hid (Mv wr (wr.setCell ⟨gq, x, none⟩ (.bool true)).drew (fun k => k = gq)) := ((Mv.refl wr (fun k => k = gq)).set rfl _ _).later (below_drew _)
              go_roundg (k - (i + 1))
              case measure => omega
              case rel =>
                refine ⟨i + 1, fun y => decide (y = x) || p y, rfl, hlt, by simp, HC.out.off HW.out HGQ.out, HQ.out.set x, ?_, fun _ => ⟨gl, rfl, HIL.out.1, HIL.out.2.frame HW.out (fun e => by have := HIL.out.1; omega)⟩, fun _ => ⟨gm, rfl, HIM.out.1, HIM.out.2.frame HW.out (fun e => by have := HIM.out.1; omega)⟩⟩
                exact hide (seen_more HP.out HX.out)
            · obtain rfl : i = k := by omega
              have p5 := pickI_b many (n := 5) (by omega)
              have JP := hide (pick_any many 5 wr hc (by omega) (by omega))
              generalize pickI many 5 = p5v at *
              have JB1 := hide (shuffle_bad (w := wr) (g := gd) (1001 + p5v) (.inr (by omega)))
              have JB2 := hide (shuffle_bad (w := wr) (g := gd) (-1 - p5v) (.inl (by omega)))
              have J1 := hide (JNX.out _ _ _ HC.out.2.1)
              have m0 := mixI_lo s2
              have m1 := mixI_hi s2
              go_wp2_with fail
              refine JP.out.mono ?_
              rintro e w5 ⟨rfl, rfl⟩
              go_wp2_with fail
              refine JB1.out.mono ?_
              rintro e w5 ⟨rfl, rfl⟩
              go_wp2_with fail
              refine JP.out.mono ?_
              rintro e w5 ⟨rfl, rfl⟩
              go_wp2_with fail
              refine JB2.out.mono ?_
              rintro e w5 ⟨rfl, rfl⟩
              go_wp2_with fail
              refine J1.out.mono ?_
              rintro e w6 ⟨rfl, hd, hm⟩
              have C6 := hide (HC.out.turnD hd hm)
              have J2 := hide (JNX.out _ _ _ C6.out.2.2.1)
              clear hd hm
              go_wp2_with fail
              refine J2.out.mono ?_
              rintro e w7 ⟨rfl, hd, hm⟩
              have C7 := hide (C6.out.turnE hd hm)
              clear hd hm
              generalize mixI s2 = mm at *
              go_wp2_with fail
              go_ret
              exact ⟨rfl, C7.out.2.2.2.2.1⟩
end Go.Proofs.Ytihlhidpiehehaa
