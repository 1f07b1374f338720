/-
  IdsPlays' walk.
-/
import Derived.Test.YtejbdhbphbgckaaPlMade
import Derived.Test.YtejbdhbphbgckaaStep
namespace Go.Proofs.Ytejbdhbphbgckaa
open Go.RowKit
set_option maxHeartbeats 40000000 in
set_option maxRecDepth 1000000 in
theorem plays_walk (one two : Int) (vs : Value) (n : Nat) (w : World) (hs : Sc w vs n) (ho0 : -9223372036854775808 ≤ one) (ho1 : one ≤ 9223372036854775807) (ht0 : -9223372036854775808 ≤ two) (ht1 : two ≤ 9223372036854775807) :
    Calls Try.prog 3 #[.int .i64 one, .int .i64 two, vs] w fun e w' => e = .returned (.bool true) ∧ Below w.heap.size w w' := by
  obtain ⟨aos, cs, rfl, hs1, hs2, hsc⟩ := hs
  unfold maxLen at hs2
  have HS := hide hsc
  have HSH := hide (shown_any w)
  clear hsc
  go_enter Try.func3, Try.ntmps3
  go_wp2_with fail
  refine HSH.out.mono ?_
  rintro e w0 ⟨rfl, B0⟩
  clear HSH
  go_upto_block 0 with fail
  obtain ⟨w1, hw1⟩ : ∃ X, X = (w0.alloc (.cells #[.pointer none, .pointer none, .pointer none, .pointer none, .slice none 0 0] 32)).alloc (.cells #[.int .i64 one, .int .i64 two] 3) := ⟨_, rfl⟩
  have B1 : Below w0.heap.size w0 w1 := hw1 ▸ below_on (below_alloc w0 _) (below_alloc _ _)
  have hr1 : w1.heap[w0.heap.size]? = some (.cells #[.pointer none, .pointer none, .pointer none, .pointer none, .slice none 0 0] 32 (0, 0)) := by
    rw [hw1]
    exact (heap_alloc_old _ _ (by simp)).trans (heap_alloc_new w0 _)
  have hr2 : w1.heap[w0.heap.size + 1]? = some (.cells #[.int .i64 one, .int .i64 two] 3 (0, 0)) := by
    have := heap_alloc_new (w0.alloc (.cells #[.pointer none, .pointer none, .pointer none, .pointer none, .slice none 0 0] 32)) (.cells #[.int .i64 one, .int .i64 two] 3)
    rw [← hw1] at this
    simpa using this
  rw [← hw1]
  obtain ⟨gw, hgw⟩ : ∃ k, k = w0.heap.size := ⟨_, rfl⟩
  obtain ⟨km, hkm⟩ : ∃ k, k = w0.heap.size + 1 := ⟨_, rfl⟩
  rw [← hgw] at hr1
  rw [← hkm] at hr2
  rw [← hkm, ← hgw]
  have hB : w.heap.size ≤ gw := by rw [hgw]; exact B0.size
  have PQ : Hid (Pq w1 w.heap.size gw 0) := ⟨fun k => if k = gw then 4 else 6, fun _ => (0, 0), fun _ => (0, [], []), (.pointer none, .pointer none, .pointer none, .pointer none), ⟨Nat.le_trans B0.size B1.size, fun k hk => if_neg (by omega)⟩, if_pos rfl, hr1, fun j hj => absurd hj (by omega), fun j hj => absurd hj (by omega), fun h => absurd h (by omega), fun h => absurd h (by omega)⟩
  have HR2 := hide hr2
  have hne : km ≠ gw := by omega
  have C1 : Hid (Below w.heap.size w w1) := below_on B0 B1
  clear hw1 hgw hkm hr1 hr2 B0 B1
  go_cut [10] (fun v10 W => Hid (Pq W w.heap.size gw 2) ∧ Hid (Below w.heap.size w W))
  case first =>
    go_wp2_with fail
    go_loopw [10] (fun v10 W => ∃ i : Nat, i ≤ 2 ∧ v10 = .int .i64 (i : Int) ∧ Hid (Pq W w.heap.size gw i) ∧ Hid (W.heap[km]? = some (.cells #[.int .i64 one, .int .i64 two] 3 (0, 0))) ∧ Hid (Below w.heap.size w W)) (fun v10 _ => 2 - (intOf v10).toNat)
    case atStart => exact ⟨0, by omega, rfl, PQ, HR2, C1⟩
    case round =>
      obtain ⟨i, hi2, rfl, HQ, HM, HB⟩ := hrel
      by_cases hi : i < 2
      · have t1 : (i : Int) < 2 := by omega
        obtain ⟨x, hx0, hx1, hcx⟩ : ∃ x : Int, -9223372036854775808 ≤ x ∧ x ≤ 9223372036854775807 ∧ ∀ W, Below wr.heap.size wr W → W.cell? ⟨km, i, none⟩ = some (.int .i64 x) := by
          have hl := lt_of_block HM.out
          match i, hi with
          | 0, _ => exact ⟨one, ho0, ho1, fun W hb => (hb.cell (p := ⟨km, 0, none⟩) hl).trans (by rw [cell_of_row wr km _ _ 3 (0, 0) HM.out]; rfl)⟩
          | 1, _ => exact ⟨two, ht0, ht1, fun W hb => (hb.cell (p := ⟨km, 1, none⟩) hl).trans (by rw [cell_of_row wr km _ _ 3 (0, 0) HM.out]; rfl)⟩
        have HCX := hide hcx
        have c0 := hcx wr (Below.refl _ _)
        have FIN : Hid (∀ (g r m : Nat) (W2 W3 : World), Pl W2 (fun k => k = g) g m [] [] → Below wr.heap.size wr W2 → wr.heap.size ≤ g → g < W2.heap.size → Dl W3 (fun k => k = r) r m [] [] → Below W2.heap.size W2 W3 → W2.heap.size ≤ r →
            (∃ v1 v2, W3.cell? ⟨gw, i * 2, none⟩ = some v1 ∧ W3.cell? ⟨gw, i * 2 + 1, none⟩ = some v2 ∧ (∀ k, W3.frozen? ⟨gw, k, none⟩ = false) ∧ (∀ v k, (W3.setCell ⟨gw, i * 2, none⟩ v).frozen? ⟨gw, k, none⟩ = false) ∧ ∀ v, (W3.setCell ⟨gw, i * 2, none⟩ v).cell? ⟨gw, i * 2 + 1, none⟩ = some v2) ∧
            Hid (Pq ((W3.setCell ⟨gw, i * 2, none⟩ (.pointer (some ⟨g, 0, none⟩))).setCell ⟨gw, i * 2 + 1, none⟩ (.pointer (some ⟨r, 0, none⟩))) w.heap.size gw (i + 1)) ∧ Hid (((W3.setCell ⟨gw, i * 2, none⟩ (.pointer (some ⟨g, 0, none⟩))).setCell ⟨gw, i * 2 + 1, none⟩ (.pointer (some ⟨r, 0, none⟩))).heap[km]? = some (.cells #[.int .i64 one, .int .i64 two] 3 (0, 0))) ∧ Hid (Below w.heap.size w ((W3.setCell ⟨gw, i * 2, none⟩ (.pointer (some ⟨g, 0, none⟩))).setCell ⟨gw, i * 2 + 1, none⟩ (.pointer (some ⟨r, 0, none⟩))))) := fun g r m W2 W3 hp hb hg1 hg2 hd hb3 hr => by
          have hb13 := below_on hb hb3
          obtain ⟨z1, z2⟩ := HQ.out.place hi (g := g) (r := r) (st := (m, [], [])) hb13 (Pl.later hp hb3) hd (fun k e => by omega) (fun k e => by have := hb.size; omega) (fun k e e' => by omega)
          refine ⟨(HQ.out.later hb13).cells hi, z1, ?_, HB.out.trans z2⟩
          have hm : Mv W3 ((W3.setCell ⟨gw, i * 2, none⟩ (.pointer (some ⟨g, 0, none⟩))).setCell ⟨gw, i * 2 + 1, none⟩ (.pointer (some ⟨r, 0, none⟩))) (fun k => k = gw) := Mv.set (S := fun k => k = gw) (Mv.set (S := fun k => k = gw) (Mv.refl _ _) rfl _ _) rfl _ _
          exact hm.at ((hb13.block km (lt_of_block HM.out)).trans HM.out) hne
        clear hcx
        by_cases hv : 1 ≤ x ∧ x ≤ 200
        · obtain ⟨m, rfl⟩ : ∃ m : Nat, x = (m : Int) := ⟨x.toNat, by omega⟩
          have J1 := hide (new_any m wr (by omega) (by omega))
          go_wp2_with fail
          refine J1.out.mono ?_
          rintro e w2 ⟨rfl, hp2, hb2⟩
          have c1 := HCX.out w2 hb2
          have J2 := hide (dnew_any m w2 (by omega) (by omega))
          have hg2 : wr.heap.size < w2.heap.size := by
            obtain ⟨⟨vg, vl, vf, hm, -⟩, -⟩ := hp2
            exact hm.lt
          have HP2 := hide hp2
          have HB2 := hide hb2
          clear hp2 hb2 c0
          go_wp2_with fail
          refine J2.out.mono ?_
          rintro e w3 ⟨rfl, hd3, hb3⟩
          obtain ⟨⟨v1, v2, k1, k2, k3, k4, k5⟩, Z1, Z2, Z3⟩ := FIN.out _ _ m w2 w3 HP2.out HB2.out (Nat.le_refl _) hg2 hd3 hb3 (Nat.le_refl _)
          clear hd3 hb3 J1 J2 FIN c1
          go_wp2_with fail
          go_roundw
          case rel => exact ⟨i + 1, by omega, by go_num, Z1, Z2, Z3⟩
          case measure => simp [intOf]; omega
        · have hbad : x < 1 ∨ x > 200 := by omega
          have J1 := hide (new_bad x wr hbad)
          have J2 := hide (dnew_bad x wr hbad)
          go_wp2_with fail
          refine J1.out.mono ?_
          rintro e w2 ⟨rfl, rfl⟩
          go_wp2_with fail
          refine J2.out.mono ?_
          rintro e w3 ⟨rfl, rfl⟩
          clear J1 J2 c0
          obtain ⟨wr, rfl⟩ : ∃ X, X = w3 := ⟨_, rfl⟩
          have J3 := hide (new_any 5 wr (by omega) (by omega))
          go_wp2_with fail
          refine J3.out.mono ?_
          rintro e w4 ⟨rfl, hp4, hb4⟩
          have J4 := hide (dnew_any 5 w4 (by omega) (by omega))
          have hg4 : wr.heap.size < w4.heap.size := by
            obtain ⟨⟨vg, vl, vf, hm, -⟩, -⟩ := hp4
            exact hm.lt
          have HP4 := hide hp4
          have HB4 := hide hb4
          clear hp4 hb4
          go_wp2_with fail
          refine J4.out.mono ?_
          rintro e w5 ⟨rfl, hd5, hb5⟩
          obtain ⟨⟨v1, v2, k1, k2, k3, k4, k5⟩, Z1, Z2, Z3⟩ := FIN.out _ _ 5 w4 w5 HP4.out HB4.out (Nat.le_refl _) hg4 hd5 hb5 (Nat.le_refl _)
          clear hd5 hb5 J3 J4 FIN
          go_wp2_with fail
          go_roundw
          case rel => exact ⟨i + 1, by omega, by go_num, Z1, Z2, Z3⟩
          case measure => simp [intOf]; omega
      · obtain rfl : i = 2 := by omega
        have t1 : ¬ ((2 : Nat) : Int) < 2 := by omega
        go_wp2_with fail
        go_meet
        exact ⟨HQ, HB⟩
  obtain ⟨HQ, HB⟩ := hcut
  obtain ⟨w5, rfl⟩ : ∃ X, X = wc := ⟨_, rfl⟩
  obtain ⟨G0, C0, hbu⟩ := HQ.out.done
  have HBU := hide hbu
  clear hbu PQ HQ HR2 C1
  go_wp2_with fail
  go_loopw [15] (fun v15 W => ∃ (i : Nat) (G : Nat → Nat × Nat) (C : Nat → St) (L : List Held), i ≤ 400 ∧ i ≤ n ∧ v15 = .int .i64 (i : Int) ∧ L.length ≤ 8 * i ∧ Hid (Bu W gw w.heap.size G C C L) ∧ Hid (Below w.heap.size w W)) (fun v15 _ => n - (intOf v15).toNat)
  case atStart => exact ⟨0, G0, C0, [], by omega, by omega, rfl, by simp, HBU, HB⟩
  case round =>
    obtain ⟨i, G, C, L, hi4, hin, rfl, hL, HU, HW⟩ := hrel
    clear HBU HB
    by_cases hlt : i < n
    · have t1 : (i : Int) < (n : Int) := by omega
      by_cases h4 : i < 400
      · have t2 : (i : Int) < 400 := by omega
        obtain ⟨g, o, rfl, hop⟩ := HS.out i hlt
        obtain ⟨kd, nn, a, ei, eg, ag, af, ng, cg, nf, cf, GL, FL, ⟨c0, c1, c2, c3, c4, c5, c6⟩, hn, ha, hGL, hFL, hG9, hF9⟩ := hop.on HW.out
        have J := hide (step_any gw w.heap.size G C L wr kd nn a ei eg ag af ng cg nf cf HU.out (by omega) hn.1 hn.2 ha.1 ha.2 GL FL hGL hFL hG9 hF9)
        clear hop hn ha hGL hFL hG9 hF9
        go_wp2_with fail
        refine J.out.mono ?_
        rintro e w6 ⟨rfl, G', C', L', hbu, hl, hbl⟩
        have JL := hide (hbu.looks (by omega))
        have HU6 := hide hbu
        have HB6 := hide hbl
        clear hbu hbl J c0 c1 c2 c3 c4 c5 c6
        go_wp2_with fail
        refine JL.out.mono ?_
        rintro e w7 ⟨rfl, hb7⟩
        clear JL
        have HU7 := hide (HU6.out.later hb7)
        have HB7 : Hid (Below w.heap.size w w7) := (HW.out.trans HB6.out).trans (hb7.mono (HW.out.trans HB6.out).size)
        clear hb7
        go_wp2_with fail
        go_roundw
        case rel => exact ⟨i + 1, G', C', L', by omega, by omega, by go_num, by omega, HU7, HB7⟩
        case measure => simp [intOf]; omega
      · have t2 : ¬ (i : Int) < 400 := by omega
        obtain ⟨g0, g1⟩ := HU.out.pair (i := 0) (by omega)
        unfold ptr at g0 g1
        simp only [Nat.zero_mul, Nat.zero_add] at g0 g1
        obtain ⟨own, hF, hb⟩ := HU.out
        have J := hide (lawstate_any gw 0 w.heap.size own G C C L wr hb (by omega) rfl (by omega) hF)
        clear hF hb
        go_wp2_with fail
        refine J.out.mono ?_
        rintro e w6 ⟨rfl, L', hbu, hl, hbl⟩
        clear g0 g1
        obtain ⟨g0, g1⟩ := hbu.pair (i := 1) (by omega)
        unfold ptr at g0 g1
        simp only [Nat.one_mul] at g0 g1
        obtain ⟨own, hF, hb⟩ := hbu
        have J2 := hide (lawstate_any gw 1 w.heap.size own G C C L' w6 hb (by omega) rfl (by omega) hF)
        have HB6 := hide hbl
        clear hbl J hb hF
        go_wp2_with fail
        refine J2.out.mono ?_
        rintro e w7 ⟨rfl, L2, hbu2, hl2, hbl2⟩
        have HB7 := hide hbl2
        clear hbl2 J2 hbu2 g0 g1
        go_wp2_with fail
        go_ret
        exact ⟨rfl, (HW.out.trans HB6.out).trans HB7.out⟩
    · have t1 : ¬ (i : Int) < (n : Int) := by omega
      obtain ⟨g0, g1⟩ := HU.out.pair (i := 0) (by omega)
      unfold ptr at g0 g1
      simp only [Nat.zero_mul, Nat.zero_add] at g0 g1
      obtain ⟨own, hF, hb⟩ := HU.out
      have J := hide (lawstate_any gw 0 w.heap.size own G C C L wr hb (by omega) rfl (by omega) hF)
      clear hF hb
      go_wp2_with fail
      refine J.out.mono ?_
      rintro e w6 ⟨rfl, L', hbu, hl, hbl⟩
      clear g0 g1
      obtain ⟨g0, g1⟩ := hbu.pair (i := 1) (by omega)
      unfold ptr at g0 g1
      simp only [Nat.one_mul] at g0 g1
      obtain ⟨own, hF, hb⟩ := hbu
      have J2 := hide (lawstate_any gw 1 w.heap.size own G C C L' w6 hb (by omega) rfl (by omega) hF)
      have HB6 := hide hbl
      clear hbl J hb hF
      go_wp2_with fail
      refine J2.out.mono ?_
      rintro e w7 ⟨rfl, L2, hbu2, hl2, hbl2⟩
      have HB7 := hide hbl2
      clear hbl2 J2 hbu2 g0 g1
      go_wp2_with fail
      go_ret
      exact ⟨rfl, (HW.out.trans HB6.out).trans HB7.out⟩
end Go.Proofs.Ytejbdhbphbgckaa
