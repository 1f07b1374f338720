/-
  Apart's walk.
-/
import Derived.Test.YtlnjphfkinajdaaApM
namespace Go.Proofs.Ytlnjphfkinajdaa
open Go.RowKit
theorem iz_cell {w : World} {av : Option Addr} {cv : Nat} {A : List Int} (ha : Iz w (.slice av A.length cv) A) (i : Nat) (hi : i < A.length) (W : World) (hb : Below w.heap.size w W) : ∃ ga oa, av = some ⟨ga, oa, none⟩ ∧ W.cell? ⟨ga, oa + i, none⟩ = some (.int .i64 A[i]) := by
  obtain ⟨av', cv', ev', -, -, h3⟩ := ha
  simp only [Value.slice.injEq] at ev'
  obtain ⟨rfl, -, rfl⟩ := ev'
  obtain ⟨ga, oa, e, hc⟩ := h3 i hi
  exact ⟨ga, oa, e, (hb.cell (p := ⟨ga, oa + i, none⟩) (World.block_lt_of_cell? w _ hc)).trans hc⟩
theorem tf_lt {B : Nat} {N : Nat → Prop} {W : World} {g n : Nat} {rows : List (Int × Int)} {cols : List (List Int)} (h : Tf B N W g n rows cols) : B ≤ W.heap.size := by
  obtain ⟨S, h1, h2, h3, h4⟩ := h
  exact h4
theorem two_cells {W : World} {B1 B2 L c c' : Nat} {a a' : Option Addr} {l : List Int} (h1 : W.ownsRow B1 2 1 (.slice a L c) L (zc l)) (h2 : W.ownsRow B2 2 1 (.slice a' L c') L (zc l)) (k : Nat) (hk : k < L) : ∃ ga gb z, a = some ⟨ga, 0, none⟩ ∧ a' = some ⟨gb, 0, none⟩ ∧ W.cell? ⟨ga, k, none⟩ = some (.int .i64 z) ∧ W.cell? ⟨gb, k, none⟩ = some (.int .i64 z) := by
  have hl := h1.1
  rw [zc_len] at hl
  obtain ⟨ga, ca, ea, -, -⟩ := own_form h1 (by omega)
  obtain ⟨gb, cb, eb, -, -⟩ := own_form h2 (by omega)
  simp only [Value.slice.injEq, true_and] at ea eb
  obtain ⟨rfl, -⟩ := ea
  obtain ⟨rfl, -⟩ := eb
  exact ⟨ga, gb, l[k]'(by omega), rfl, rfl, own_num h1 k (by omega), own_num h2 k (by omega)⟩
set_option maxHeartbeats 8000000 in
set_option maxRecDepth 100000 in
theorem apart_walk (va vb : Value) (A M : List Int) (w : World) (ha : Iz w va A) (hA : ∀ x ∈ A, -9223372036854775808 ≤ x ∧ x ≤ 9223372036854775807) (hb : Iz w vb M) (hM : ∀ x ∈ M, -9223372036854775808 ≤ x ∧ x ≤ 9223372036854775807) :
    Calls Try.prog 5 #[va, vb] w fun e w' => e = .returned (.bool true) ∧ Below w.heap.size w w' := by
  obtain ⟨av, cv, rfl, ha1, ha2, -⟩ := id ha
  obtain ⟨bv, bc, rfl, hb1, hb2, -⟩ := id hb
  unfold maxLen at ha2 hb2
  have HA := hide (And.intro ha hA)
  have HM := hide (And.intro hb hM)
  have JS := hide (shown_any w)
  clear ha hA hb hM
  go_enter Try.func5, Try.ntmps5
  go_wp2_with fail
  refine JS.out.mono ?_
  rintro e w0 ⟨rfl, B0⟩
  have HB0 := hide B0
  have JN := hide (tf_new 1 w0 (by omega))
  clear JS B0
  go_wp2_with fail
  refine JN.out.mono ?_
  rintro e w1 ⟨g, rfl, ht1, hb1'⟩
  have HT1 := hide (And.intro ht1 hb1')
  clear JN ht1 hb1'
  go_upto_block 0 with fail
  go_cut [8] (fun _v8 W => ∃ n r c, Hid (Tf w0.heap.size (fun _ => False) W g n r c ∧ Sm 100 n r c ∧ Below w0.heap.size w0 W))
  case first =>
    go_wp2_with fail
    go_loopw [8] (fun v8 W => ∃ (i n : Nat) (r : List (Int × Int)) (c : List (List Int)), i ≤ 100 ∧ i ≤ A.length ∧ v8 = .int .i64 (i : Int) ∧ Hid (Tf w0.heap.size (fun _ => False) W g n r c ∧ Sm i n r c ∧ Below w0.heap.size w0 W)) (fun v8 _ => A.length - (intOf v8).toNat)
    case atStart => exact ⟨0, 0, [], _, by omega, by omega, rfl, HT1.out.1, ⟨by omega, by simp, by simp⟩, HT1.out.2⟩
    case round =>
      obtain ⟨i, n, r, c, hi4, hiA, rfl, HK⟩ := hrel
      by_cases hlt : i < A.length
      · have t1 : (i : Int) < (A.length : Int) := by omega
        by_cases h4 : i < 100
        · have t2 : (i : Int) < 100 := by omega
          obtain ⟨x, hx⟩ : ∃ x, x = A[i] := ⟨_, rfl⟩
          have hxb : -9223372036854775808 ≤ x ∧ x ≤ 9223372036854775807 := hx ▸ HA.out.2 _ (List.getElem_mem hlt)
          obtain ⟨ga, oa, rfl, ca⟩ := iz_cell HA.out.1 i hlt wr (below_on HB0.out HK.out.2.2)
          rw [← hx] at ca
          have JP : Hid (∀ W : World, Calls Try.prog 9 #[.int .i64 x, .int .i64 50] W fun e w' => e = .returned (.int .i64 (pk x 50 : Int)) ∧ w' = W) := fun W => pick_any x 50 W hxb.1 hxb.2 (by omega) (by omega)
          have hk : pk x 50 < 50 := pk_lt x (by omega)
          generalize pk x 50 = k at *
          clear hx
          have JA : Hid (Calls Try.prog 12 #[.pointer (some ⟨g, 0, none⟩), .agg #[.int .i64 (k : Int), .int .i64 1], .slice (some ⟨wr.heap.size, 0, none⟩) 1 1] (wr.alloc (.cells #[.int .i64 (i : Int)] 2)) fun e w' => (∃ y z : Int, e = .returned (.tuple #[.int .i64 y, .int .i64 z])) ∧ ∃ n r c, Hid (Tf w0.heap.size (fun _ => False) w' g n r c ∧ Sm (i + 1) n r c ∧ Below w0.heap.size w0 w')) := by
            have hf := HK.out.1.fence (N' := fun k => k = wr.heap.size) (below_alloc wr (.cells #[.int .i64 (i : Int)] 2)) (fun k e => by subst e; simp)
            refine (tf_addx hf (k : Int) 1 _ (i : Int) (iz_one wr (i : Int) (Below.refl _ _)) (fun k e => by simp [Value.ownBlock] at e; exact e.symm) (by unfold InB; omega) HK.out.2.1 (by omega)).mono ?_
            rintro e w' ⟨q, n', r', c', ⟨hs, -⟩, t1, -, t3⟩
            exact ⟨q, n', r', c', t1.fence (Below.refl _ _) (fun k e => e.elim), hs, (below_on HK.out.2.2 (below_alloc wr _)).trans t3⟩
          go_wp2_with fail
          refine (JP.out wr).mono ?_
          rintro e wr' ⟨rfl, rfl⟩
          clear JP ca
          go_wp2_with fail
          refine JA.out.mono ?_
          rintro e w2 ⟨⟨y, z, rfl⟩, n', r', c', HK'⟩
          clear JA
          go_wp2_with fail
          go_roundw
          case rel => exact ⟨i + 1, n', r', c', by omega, by omega, by go_num, HK'⟩
          case measure => simp [intOf]; omega
        · have t2 : ¬ (i : Int) < 100 := by omega
          go_wp2_with fail
          go_meet
          exact ⟨n, r, c, HK.out.1, ⟨by have := HK.out.2.1.1; omega, by have := HK.out.2.1.2.1; omega, HK.out.2.1.2.2⟩, HK.out.2.2⟩
      · have t1 : ¬ (i : Int) < (A.length : Int) := by omega
        go_wp2_with fail
        go_meet
        exact ⟨n, r, c, HK.out.1, ⟨by have := HK.out.2.1.1; omega, by have := HK.out.2.1.2.1; omega, HK.out.2.1.2.2⟩, HK.out.2.2⟩
  obtain ⟨n, r, c, HK⟩ := hcut
  obtain ⟨w2, rfl⟩ : ∃ X, X = wc := ⟨_, rfl⟩
  clear HT1
  obtain ⟨L, hL⟩ : ∃ L, L = r.length := ⟨_, rfl⟩
  obtain ⟨l0, hco⟩ : ∃ l, l = c.getD 0 [] := ⟨_, rfl⟩
  have hL2 : L ≤ 100 := by have := HK.out.2.1.2.1; omega
  have HCO : Hid (∀ h : 0 < c.length, c[0] = l0) := fun h => by
    rw [hco, List.getD_eq_getElem?_getD, List.getElem?_eq_getElem h]; rfl
  have JC : Hid (Calls Try.prog 16 #[.pointer (some ⟨g, 0, none⟩), .int .i64 0] w2 fun e w' => ∃ a cap, e = .returned (.tuple #[.slice a L cap, .int .i64 0]) ∧ Hid (w'.ownsRow w2.heap.size 2 1 (.slice a L cap) L (zc l0) ∧ Below w2.heap.size w2 w')) := by
    obtain ⟨S, hb⟩ := HK.out.1.tb
    have hc1 := HK.out.2.1.2.2
    refine (column_any hb 0 (by omega)).mono ?_
    rintro e w' ⟨v, rfl, h1, h2⟩
    rw [← hL, HCO.out (by omega)] at h1
    obtain ⟨a, cp, rfl⟩ := own_len h1
    exact ⟨a, cp, rfl, h1, h2⟩
  have HLR : Hid (r.length = L) := hL.symm
  clear hL hco
  go_wp2_with fail
  refine JC.out.mono ?_
  rintro e w3 ⟨a9, c9, rfl, H3⟩
  have JK : Hid (Calls Try.prog 17 #[.pointer (some ⟨g, 0, none⟩)] w3 fun e w' => ∃ g', e = .returned (.pointer (some ⟨g', 0, none⟩)) ∧ Hid (T2 w0.heap.size (fun k => (Value.slice a9 L c9).ownBlock = some k) w' g g' n n r c r c ∧ Below w3.heap.size w3 w')) := 
    t2_clone (HK.out.1.fence H3.out.2 (fun k e => ⟨.inr (H3.out.1.lt k e).1, (H3.out.1.lt k e).2⟩))
  clear JC
  go_wp2_with fail
  refine JK.out.mono ?_
  rintro e w4 ⟨g', rfl, H4⟩
  have JD : Hid (Calls Try.prog 16 #[.pointer (some ⟨g', 0, none⟩), .int .i64 0] w4 fun e w' => ∃ a cap, e = .returned (.tuple #[.slice a L cap, .int .i64 0]) ∧ Hid (w'.ownsRow w4.heap.size 2 1 (.slice a L cap) L (zc l0) ∧ Below w4.heap.size w4 w' ∧ T2 w0.heap.size (fun k => (Value.slice a9 L c9).ownBlock = some k) w' g g' n n r c r c)) := by
    have hc1 := HK.out.2.1.2.2
    refine (t2_col H4.out.1 hc1).mono ?_
    rintro e w' ⟨a, cap, rfl, h⟩
    obtain ⟨h1, h2, h3⟩ := h.out
    rw [HLR.out] at h1 ⊢
    rw [HCO.out (by omega)] at h1
    exact ⟨a, cap, rfl, h1, h2, h3⟩
  clear JK
  go_wp2_with fail
  refine JD.out.mono ?_
  rintro e w5 ⟨a12, c12, rfl, H5⟩
  obtain ⟨N0, hN0⟩ : ∃ N : Nat → Prop, N = fun k => (Value.slice a9 L c9).ownBlock = some k ∨ (Value.slice a12 L c12).ownBlock = some k := ⟨_, rfl⟩
  have HQ : Hid (Q2 w0.heap.size N0 w5 g g' (100 + 0) ∧ KeptN N0 w5 w5 ∧ Below w0.heap.size w0 w5) := by
    have hs4 := H4.out.1.size
    refine ⟨⟨n, n, r, c, r, c, H4.out.1.fence H5.out.2.1 (fun k e => ?_), HK.out.2.1, HK.out.2.1⟩, fun _ _ => rfl, below_on (below_on (below_on HK.out.2.2 H3.out.2) H4.out.2) H5.out.2.1⟩
    rw [hN0] at e
    have := H5.out.2.1.size
    rcases e with e | e
    · exact ⟨.inl e, by have := H4.out.1.lt k e; omega⟩
    · exact ⟨.inr (H5.out.1.lt k e).1, (H5.out.1.lt k e).2⟩
  have HW : Hid (w5.ownsRow w0.heap.size 2 1 (.slice a9 L c9) L (zc l0) ∧ w5.ownsRow w0.heap.size 2 1 (.slice a12 L c12) L (zc l0)) := by
    have hs4 := H4.out.1.size
    exact ⟨own_later (own_later (own_lower H3.out.1 HK.out.2.2.size) H4.out.2) H5.out.2.1, own_lower H5.out.1 hs4⟩
  have HN0 : Hid (∀ k, ((Value.slice a9 L c9).ownBlock = some k → N0 k) ∧ ((Value.slice a12 L c12).ownBlock = some k → N0 k)) := fun k => by
    rw [hN0]
    exact ⟨fun e => .inl e, fun e => .inr e⟩
  clear hN0 H3 H4 H5 HK JD HCO HLR
  go_upto_block 2 with fail
  go_cut [14] (fun _v14 W => Hid (KeptN N0 w5 W ∧ Below w0.heap.size w0 W))
  case first =>
    go_wp2_with fail
    go_loopw [14] (fun v14 W => ∃ i : Nat, i ≤ 60 ∧ i ≤ M.length ∧ v14 = .int .i64 (i : Int) ∧ Hid (Q2 w0.heap.size N0 W g g' (100 + i) ∧ KeptN N0 w5 W ∧ Below w0.heap.size w0 W)) (fun v14 _ => M.length - (intOf v14).toNat)
    case atStart => exact ⟨0, by omega, by omega, rfl, HQ⟩
    case round =>
      obtain ⟨i, hi6, hiM, rfl, HR⟩ := hrel
      clear HQ
      by_cases hlt : i < M.length
      · have t1 : (i : Int) < (M.length : Int) := by omega
        by_cases h6 : i < 60
        · have t2 : (i : Int) < 60 := by omega
          have tw : (i : Int).tmod 2 = ((i % 2 : Nat) : Int) := by
            rw [Int.tmod_eq_emod_of_nonneg (by omega)]; omega
          go_upto_if 86 with fail
          clear tw
          go_cut [15] (fun v15 W => ∃ gx : Nat, v15 = .pointer (some ⟨gx, 0, none⟩) ∧ Hid (gx = if i % 2 = 1 then g else g') ∧ Hid (W = wr))
          case first =>
            by_cases hp : i % 2 = 1
            · have t3 : ((i : Int).tmod 2 == 1) = true := by rw [Int.tmod_eq_emod_of_nonneg (by omega), beq_iff_eq]; omega
              have t4 : ((i : Int) % 2 == 1) = true := by rw [beq_iff_eq]; omega
              go_wp2_with fail
              go_meet
              exact ⟨g, rfl, (if_pos hp).symm, rfl⟩
            · have t3 : ((i : Int).tmod 2 == 1) = false := by rw [Int.tmod_eq_emod_of_nonneg (by omega), beq_eq_false_iff_ne]; omega
              have t4 : ((i : Int) % 2 == 1) = false := by rw [beq_eq_false_iff_ne]; omega
              go_wp2_with fail
              go_meet
              exact ⟨g', rfl, (if_neg hp).symm, rfl⟩
          obtain ⟨gx, rfl, HGX, HW1⟩ := hcut
          obtain rfl : wr = wc := HW1.out.symm
          clear HW1
          go_upto_if 91 with fail
          go_cut [16] (fun v16 W => ∃ go : Nat, v16 = .pointer (some ⟨go, 0, none⟩) ∧ Hid (go = if i % 2 = 1 then g' else g) ∧ Hid (W = wr))
          case first =>
            by_cases hp : i % 2 = 1
            · have t3 : ((i : Int).tmod 2 == 1) = true := by rw [Int.tmod_eq_emod_of_nonneg (by omega), beq_iff_eq]; omega
              have t4 : ((i : Int) % 2 == 1) = true := by rw [beq_iff_eq]; omega
              go_wp2_with fail
              go_meet
              exact ⟨g', rfl, (if_pos hp).symm, rfl⟩
            · have t3 : ((i : Int).tmod 2 == 1) = false := by rw [Int.tmod_eq_emod_of_nonneg (by omega), beq_eq_false_iff_ne]; omega
              have t4 : ((i : Int) % 2 == 1) = false := by rw [beq_eq_false_iff_ne]; omega
              go_wp2_with fail
              go_meet
              exact ⟨g, rfl, (if_neg hp).symm, rfl⟩
          obtain ⟨go, rfl, HGO, HW1⟩ := hcut
          obtain rfl : wr = wc := HW1.out.symm
          clear HW1
          have HR2 : Hid (Q2 w0.heap.size N0 wr gx go (100 + i)) := by
            have e1 := HGX.out
            have e2 := HGO.out
            by_cases hp : i % 2 = 1
            · rw [if_pos hp] at e1 e2
              subst e1 e2
              exact HR.out.1
            · rw [if_neg hp] at e1 e2
              subst e1 e2
              exact HR.out.1.swap
          have HBK : Hid (∀ W m, Q2 w0.heap.size N0 W gx go m → Q2 w0.heap.size N0 W g g' m) := fun W m h => by
            have e1 := HGX.out
            have e2 := HGO.out
            by_cases hp : i % 2 = 1
            · rw [if_pos hp] at e1 e2
              subst e1 e2
              exact h
            · rw [if_neg hp] at e1 e2
              subst e1 e2
              exact h.swap
          clear HGX HGO
          obtain ⟨n1, n2, r1, c1, r2, c2, hqq⟩ := HR2.out
          have HT := hide hqq
          clear hqq HR2
          have hr1 : r1.length ≤ 160 := by have := HT.out.2.1.2.1; omega
          have hr2 : r2.length ≤ 160 := by have := HT.out.2.2.2.1; omega
          obtain ⟨l2, hco2⟩ : ∃ l, l = c2.getD 0 [] := ⟨_, rfl⟩
          have HC2 : Hid (∀ h : 0 < c2.length, c2[0] = l2) := fun h => by
            rw [hco2, List.getD_eq_getElem?_getD, List.getElem?_eq_getElem h]; rfl
          clear hco2
          have JC : Hid (Calls Try.prog 16 #[.pointer (some ⟨go, 0, none⟩), .int .i64 0] wr fun e w' => ∃ a cap, e = .returned (.tuple #[.slice a r2.length cap, .int .i64 0]) ∧ Hid (w'.ownsRow wr.heap.size 2 1 (.slice a r2.length cap) r2.length (zc l2) ∧ Below wr.heap.size wr w')) := by
            have hc1 := HT.out.2.2.2.2
            refine (t2_col HT.out.1 hc1).mono ?_
            rintro e w' ⟨a, cap, rfl, h⟩
            obtain ⟨h1, h2, h3⟩ := h.out
            rw [HC2.out (by omega)] at h1
            exact ⟨a, cap, rfl, h1, h2⟩
          go_wp2_with fail
          refine JC.out.mono ?_
          rintro e w6 ⟨a17, c17, rfl, H6⟩
          obtain ⟨N1, hN1⟩ : ∃ N : Nat → Prop, N = fun k => N0 k ∨ (Value.slice a17 r2.length c17).ownBlock = some k := ⟨_, rfl⟩
          have HN1 : Hid (∀ k, (N0 k → N1 k) ∧ ((Value.slice a17 r2.length c17).ownBlock = some k → N1 k)) := fun k => by
            rw [hN1]
            exact ⟨fun e => .inl e, fun e => .inr e⟩
          have HT6 : Hid (T2 w0.heap.size N1 w6 gx go n1 n2 r1 c1 r2 c2) := HT.out.1.fence H6.out.2 (fun k e => by
            rw [hN1] at e
            have := H6.out.2.size
            rcases e with e | e
            · exact ⟨.inl e, by have := HT.out.1.lt k e; omega⟩
            · exact ⟨.inr (H6.out.1.lt k e).1, (H6.out.1.lt k e).2⟩)
          have HB6 : Hid (Below w0.heap.size w0 w6 ∧ KeptN N0 w5 w6) := ⟨below_on HR.out.2.2 H6.out.2, fun k e => (H6.out.2.block k (HT.out.1.lt k e)).trans (HR.out.2.1 k e)⟩
          clear hN1 JC
          have JL := hide (t2_len2 HT6.out)
          go_wp2_with fail
          refine JL.out.mono ?_
          rintro e w6' ⟨rfl, rfl⟩
          obtain ⟨w6, rfl⟩ : ∃ X, X = w6' := ⟨_, rfl⟩
          obtain ⟨y, hy⟩ : ∃ y, y = M[i] := ⟨_, rfl⟩
          have hyb : -9223372036854775808 ≤ y ∧ y ≤ 9223372036854775807 := hy ▸ HM.out.2 _ (List.getElem_mem hlt)
          have HCY : Hid (∀ W, Below w0.heap.size w0 W → ∃ ga oa, bv = some ⟨ga, oa, none⟩ ∧ W.cell? ⟨ga, oa + i, none⟩ = some (.int .i64 y)) := fun W hb => by
            rw [hy]
            exact iz_cell HM.out.1 i hlt W (HB0.out.trans (hb.mono HB0.out.size))
          clear hy JL
          go_upto_region 25 with fail
          go_cut [110] (fun v110 W => ∃ bb : Bool, v110 = .bool bb ∧ (bb = true → 0 < r1.length) ∧ Hid (W = w6))
          case first =>
            obtain ⟨gy, oy, rfl, cy⟩ := HCY.out w6 HB6.out.1
            have JP : Hid (∀ W : World, Calls Try.prog 9 #[.int .i64 y, .int .i64 2] W fun e w' => e = .returned (.int .i64 (pk y 2 : Int)) ∧ w' = W) := fun W => pick_any y 2 W hyb.1 hyb.2 (by omega) (by omega)
            generalize pk y 2 = k at *
            go_wp2_with fail
            refine (JP.out w6).mono ?_
            rintro e w6' ⟨rfl, rfl⟩
            by_cases hk : k = 0
            · have t5 : ((k : Int) == 0) = true := by rw [beq_iff_eq]; omega
              have JL := hide (t2_len1 HT6.out)
              clear hk
              go_wp2_with fail
              refine JL.out.mono ?_
              rintro e w6' ⟨rfl, rfl⟩
              by_cases h0 : 0 < r1.length
              · have t6 : (r1.length : Int) > 0 := by omega
                go_wp2_with fail
                go_meet
                exact ⟨true, rfl, fun _ => h0, rfl⟩
              · have t6 : ¬ (r1.length : Int) > 0 := by omega
                go_wp2_with fail
                go_meet
                exact ⟨false, rfl, fun e => (by cases e), rfl⟩
            · have t5 : ((k : Int) == 0) = false := by rw [beq_eq_false_iff_ne]; omega
              go_wp2_with fail
              go_meet
              exact ⟨false, rfl, fun e => (by cases e), rfl⟩
          obtain ⟨bb, rfl, hbb, HW2⟩ := hcut
          obtain rfl : w6 = wc := HW2.out.symm
          clear HW2
          go_upto_if 110 with fail
          go_cut [131] (fun _v131 W => ∃ (n1' : Nat) (r1' : List (Int × Int)) (c1' : List (List Int)), Hid (Sm (100 + i + 1) n1' r1' c1' ∧ T2 w0.heap.size N1 W gx go n1' n2 r1' c1' r2 c2 ∧ KeptN N1 w6 W ∧ Below w0.heap.size w6 W))
          case first =>
            obtain ⟨gy, oy, rfl, cy⟩ := HCY.out w6 HB6.out.1
            obtain ⟨gy', oy', ey, cyd⟩ := HCY.out w6.drew (below_on HB6.out.1 (below_drew w6))
            cases bb with
            | true =>
              have h0 := hbb rfl
              have HY : Hid (∀ W, Below w0.heap.size w0 W → W.cell? ⟨gy, oy + i, none⟩ = some (.int .i64 y)) := fun W hb => by
                obtain ⟨g1, o1, e1, h1⟩ := HCY.out W hb
                simp only [Option.some.injEq, Addr.mk.injEq, and_true] at e1
                obtain ⟨rfl, rfl⟩ := e1
                exact h1
              have cyd' := HY.out w6.drew (below_on HB6.out.1 (below_drew w6))
              have htd : T2 w0.heap.size N1 w6.drew gx go n1 n2 r1 c1 r2 c2 := HT6.out.fence (below_drew w6) (fun k e => ⟨.inl e, HT6.out.lt k e⟩)
              have J14 := hide (t2_len1 htd)
              have hz : -9223372036854775808 ≤ y.tdiv 2 ∧ y.tdiv 2 ≤ 9223372036854775807 := by
                rcases Int.le_total 0 y with h | h
                · rw [Int.tdiv_eq_ediv_of_nonneg h]; omega
                · have := Int.tdiv_eq_ediv_of_nonneg (a := -y) (b := 2) (by omega)
                  rw [Int.neg_tdiv] at this
                  omega
              have twd : IntKind.i64.wrap (y.tdiv 2) = y.tdiv 2 := by rw [IntKind.wrap_i64]; omega
              have J9 : Hid (∀ W : World, Calls Try.prog 9 #[.int .i64 (y.tdiv 2), .int .i64 (r1.length : Int)] W fun e w' => e = .returned (.int .i64 (pk (y.tdiv 2) r1.length : Int)) ∧ w' = W) := fun W => pick_any (y.tdiv 2) r1.length W hz.1 hz.2 h0 (by omega)
              have hpk : pk (y.tdiv 2) r1.length < r1.length := pk_lt _ h0
              generalize pk (y.tdiv 2) r1.length = row at *
              have J13 : Hid (Calls Try.prog 13 #[.pointer (some ⟨gx, 0, none⟩), .int .i64 (row : Int)] w6.drew fun e w' => (∃ y z u : Value, e = .returned (.tuple #[y, z, u])) ∧ ∃ n r c, Hid (Sm (100 + i + 1) n r c ∧ T2 w0.heap.size N1 w' gx go n n2 r c r2 c2 ∧ KeptN N1 w6.drew w' ∧ Below w0.heap.size w6.drew w') ∧ w'.cell? ⟨gy, oy + i, none⟩ = some (.int .i64 y)) :=
                (htd.opx (Q := fun e => ∃ y z u : Value, e = .returned (.tuple #[y, z, u])) (R := fun n r c => Sm (100 + i + 1) n r c) (fun Mx _ htf => tf_remx htf row hpk HT.out.2.1 (by omega))).mono (fun e w' ⟨q, n, r, c, h⟩ => ⟨q, n, r, c, h, HY.out w' ((below_on HB6.out.1 (below_drew w6)).trans h.out.2.2.2)⟩)
              clear cy cyd ey htd hz hbb
              go_wp2_with fail
              go_region_held3 (fun W => W.cell? ⟨gy, oy + i, none⟩ = some (.int .i64 y)) (go_keep) (first | (go_at_call 13; refine J13.out.mono ?_; rintro e w7 ⟨⟨y1, z1, u1, rfl⟩, n7, r7, c7, HK7, cy7⟩) | (go_at_call 9; refine (J9.out _).mono ?_; rintro e w6' ⟨rfl, rfl⟩) | (go_at_call 14; refine J14.out.mono ?_; rintro e w6' ⟨rfl, rfl⟩))
              all_goals
                (try go_wp2_with fail)
                go_meet
                exact ⟨n7, r7, c7, HK7.out.1, HK7.out.2.1, fun k e => (HK7.out.2.2.1 k e).trans ((below_drew w6).block k (HT6.out.lt k e)), ((below_drew w6).mono HT6.out.size).trans HK7.out.2.2.2⟩
            | false =>
              clear hbb cyd ey
              have JP : Hid (∀ W : World, Calls Try.prog 9 #[.int .i64 y, .int .i64 90] W fun e w' => e = .returned (.int .i64 (pk y 90 : Int)) ∧ w' = W) := fun W => pick_any y 90 W hyb.1 hyb.2 (by omega) (by omega)
              have hk : pk y 90 < 90 := pk_lt y (by omega)
              generalize pk y 90 = k at *
              have JA : Hid (Calls Try.prog 12 #[.pointer (some ⟨gx, 0, none⟩), .agg #[.int .i64 (k : Int), .int .i64 2], .slice (some ⟨w6.heap.size, 0, none⟩) 1 1] (w6.alloc (.cells #[.int .i64 (-(i : Int))] 2)) fun e w' => (∃ y z : Int, e = .returned (.tuple #[.int .i64 y, .int .i64 z])) ∧ ∃ n r c, Hid ((Sm (100 + i + 1) n r c ∧ 0 < r.length) ∧ T2 w0.heap.size N1 w' gx go n n2 r c r2 c2 ∧ KeptN N1 w6 w' ∧ Below w0.heap.size w6 w')) := by
                have ha := below_alloc w6 (.cells #[.int .i64 (-(i : Int))] 2)
                have hf := HT6.out.fence (N' := fun k => N1 k ∨ k = w6.heap.size) ha (fun k e => by
                  rcases e with e | e
                  · exact ⟨.inl e, Nat.lt_of_lt_of_le (HT6.out.lt k e) ha.size⟩
                  · subst e; simp)
                refine (hf.opx (Q := fun e => ∃ y z : Int, e = .returned (.tuple #[.int .i64 y, .int .i64 z])) (R := fun n r c => Sm (100 + i + 1) n r c ∧ 0 < r.length) (fun Mx hMx htf => tf_addx htf (k : Int) 2 _ (-(i : Int)) (iz_one w6 (-(i : Int)) (Below.refl _ _)) (fun q e => hMx q (.inr (by simp [Value.ownBlock] at e; exact e.symm))) (by unfold InB; omega) HT.out.2.1 (by omega))).mono ?_
                rintro e w' ⟨q, n, r, c, h⟩
                obtain ⟨h1, h2, h3, h4⟩ := h.out
                exact ⟨q, n, r, c, h1, h2.less (fun k e => .inl e), fun k e => (h3 k (.inl e)).trans (ha.block k (HT6.out.lt k e)), (ha.mono HT6.out.size).trans h4⟩
              go_wp2_with fail
              refine (JP.out w6).mono ?_
              rintro e w6' ⟨rfl, rfl⟩
              clear JP cy
              go_wp2_with fail
              refine JA.out.mono ?_
              rintro e w7 ⟨⟨y1, z1, rfl⟩, n7, r7, c7, HK7⟩
              have J18 := hide (HK7.out.2.1.opx (Q := fun e => e = .returned (.int .i64 0)) (R := fun n r c => Sm (100 + i + 1) n r c) (fun Mx _ htf => tf_setx htf 12345 HK7.out.1.2 HK7.out.1.1))
              clear JA
              go_wp2_with fail
              refine J18.out.mono ?_
              rintro e w8 ⟨rfl, n8, r8, c8, HK8⟩
              clear J18
              go_wp2_with fail
              go_meet
              exact ⟨n8, r8, c8, HK8.out.1, HK8.out.2.1, fun k e => (HK8.out.2.2.1 k e).trans (HK7.out.2.2.1 k e), HK7.out.2.2.2.trans HK8.out.2.2.2⟩
          obtain ⟨n1', r1', c1', HK9⟩ := hcut
          obtain ⟨w9, rfl⟩ : ∃ X, X = wc := ⟨_, rfl⟩
          have HAH : Hid (w9.ownsRow wr.heap.size 2 1 (.slice a17 r2.length c17) r2.length (zc l2)) := own_keptN H6.out.1 HK9.out.2.2.1 (fun k e => (HN1.out k).2 e)
          have JC2 : Hid (Calls Try.prog 16 #[.pointer (some ⟨go, 0, none⟩), .int .i64 0] w9 fun e w' => ∃ a cap, e = .returned (.tuple #[.slice a r2.length cap, .int .i64 0]) ∧ Hid (w'.ownsRow w9.heap.size 2 1 (.slice a r2.length cap) r2.length (zc l2) ∧ Below w9.heap.size w9 w' ∧ T2 w0.heap.size N1 w' gx go n1' n2 r1' c1' r2 c2)) := by
            have hc1 := HT.out.2.2.2.2
            refine (t2_col HK9.out.2.1 hc1).mono ?_
            rintro e w' ⟨a, cap, rfl, h⟩
            obtain ⟨h1, h2, h3⟩ := h.out
            rw [HC2.out (by omega)] at h1
            exact ⟨a, cap, rfl, h1, h2, h3⟩
          go_wp2_with fail
          refine JC2.out.mono ?_
          rintro e w10 ⟨a20, c20, rfl, H10⟩
          clear JC2
          have JL2 := hide (t2_len2 H10.out.2.2)
          have t7 : ((r2.length : Int) != (r2.length : Int)) = false := by simp
          go_wp2_with fail
          refine JL2.out.mono ?_
          rintro e w10' ⟨rfl, rfl⟩
          obtain ⟨w10, rfl⟩ : ∃ X, X = w10' := ⟨_, rfl⟩
          clear JL2
          go_upto_block 4 with fail
          go_wp2_with fail
          go_loopw [22] (fun v22 W => ∃ k : Nat, k ≤ r2.length ∧ v22 = .int .i64 (k : Int) ∧ Hid (Below w10.heap.size w10 W)) (fun v22 _ => r2.length - (intOf v22).toNat)
          case atStart => exact ⟨0, by omega, rfl, Below.refl _ _⟩
          case round =>
            obtain ⟨k, hkl, rfl, HKB⟩ := hrel
            obtain ⟨w11, rfl⟩ : ∃ X, X = wr := ⟨_, rfl⟩
            by_cases hk : k < r2.length
            · have t8 : (k : Int) < (r2.length : Int) := by omega
              have hb11 := below_on HKB.out (below_drew w11)
              obtain ⟨ga, gb, z, rfl, rfl, ca, cb⟩ := two_cells (own_later (own_later HAH.out H10.out.2.1) hb11) (own_later H10.out.1 hb11) k hk
              have t9 : (z != z) = false := by simp
              clear hb11
              go_wp2_with fail
              go_region_held3 (fun W => W.cell? ⟨ga, k, none⟩ = some (.int .i64 z) ∧ W.cell? ⟨gb, k, none⟩ = some (.int .i64 z)) (go_keep) (fail)
              all_goals
                go_wp2_with fail
                go_roundw
                case rel => exact ⟨k + 1, by omega, by go_num, below_on HKB.out (below_drew w11)⟩
                case measure => simp [intOf]; omega
            · have t8 : ¬ (k : Int) < (r2.length : Int) := by omega
              have HB11 := HKB
              go_wp2_with fail
              go_roundw
              case rel =>
                have hb := below_on H10.out.2.1 HB11.out
                refine ⟨i + 1, by omega, by omega, by go_num, HBK.out _ _ ⟨n1', n2, r1', c1', r2, c2, (HK9.out.2.1.less (fun k e => (HN1.out k).1 e)).fence hb (fun k e => ⟨.inl e, ?_⟩), HK9.out.1, ⟨by have := HT.out.2.2.1; omega, by have := HT.out.2.2.2.1; omega, HT.out.2.2.2.2⟩⟩, fun k e => ?_, below_on (HB6.out.1.trans HK9.out.2.2.2) hb⟩
                · exact Nat.lt_of_lt_of_le (HK9.out.2.1.lt k ((HN1.out k).1 e)) hb.size
                · exact (hb.block k (HK9.out.2.1.lt k ((HN1.out k).1 e))).trans ((HK9.out.2.2.1 k ((HN1.out k).1 e)).trans (HB6.out.2 k e))
              case measure => simp [intOf]; omega
        · have t2 : ¬ (i : Int) < 60 := by omega
          go_wp2_with fail
          go_meet
          exact ⟨HR.out.2.1, HR.out.2.2⟩
      · have t1 : ¬ (i : Int) < (M.length : Int) := by omega
        go_wp2_with fail
        go_meet
        exact ⟨HR.out.2.1, HR.out.2.2⟩
  have HZ := hcut
  obtain ⟨w20, rfl⟩ : ∃ X, X = wc := ⟨_, rfl⟩
  have HW9 : Hid (w20.ownsRow w0.heap.size 2 1 (.slice a9 L c9) L (zc l0) ∧ w20.ownsRow w0.heap.size 2 1 (.slice a12 L c12) L (zc l0)) := ⟨own_keptN HW.out.1 HZ.out.1 (fun k e => (HN0.out k).1 e), own_keptN HW.out.2 HZ.out.1 (fun k e => (HN0.out k).2 e)⟩
  have HBZ : Hid (Below w.heap.size w w20) := HB0.out.trans (HZ.out.2.mono HB0.out.size)
  have t7 : ((L : Int) != (L : Int)) = false := by simp
  clear HQ HW HN0 HZ
  go_upto_block 6 with fail
  go_wp2_with fail
  go_loopw [23] (fun v23 W => ∃ k : Nat, k ≤ L ∧ v23 = .int .i64 (k : Int) ∧ Hid (Below w20.heap.size w20 W)) (fun v23 _ => L - (intOf v23).toNat)
  case atStart => exact ⟨0, by omega, rfl, Below.refl _ _⟩
  case round =>
    obtain ⟨k, hkl, rfl, HKB⟩ := hrel
    obtain ⟨w11, rfl⟩ : ∃ X, X = wr := ⟨_, rfl⟩
    by_cases hk : k < L
    · have t8 : (k : Int) < (L : Int) := by omega
      have hb11 := below_on HKB.out (below_drew w11)
      obtain ⟨ga, gb, z, rfl, rfl, ca, cb⟩ := two_cells (own_later HW9.out.1 hb11) (own_later HW9.out.2 hb11) k hk
      have t9 : (z != z) = false := by simp
      clear hb11
      go_wp2_with fail
      go_region_held3 (fun W => W.cell? ⟨ga, k, none⟩ = some (.int .i64 z) ∧ W.cell? ⟨gb, k, none⟩ = some (.int .i64 z)) (go_keep) (fail)
      all_goals
        go_wp2_with fail
        go_roundw
        case rel => exact ⟨k + 1, by omega, by go_num, below_on HKB.out (below_drew w11)⟩
        case measure => simp [intOf]; omega
    · have t8 : ¬ (k : Int) < (L : Int) := by omega
      go_wp2_with fail
      go_ret
      exact ⟨rfl, below_on HBZ.out HKB.out⟩
end Go.Proofs.Ytlnjphfkinajdaa
