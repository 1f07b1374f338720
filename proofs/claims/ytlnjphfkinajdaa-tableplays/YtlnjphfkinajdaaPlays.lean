/-
  TablePlays' walk.
-/
import Derived.Test.YtlnjphfkinajdaaStep
import Derived.Test.YtlnjphfkinajdaaShw
namespace Go.Proofs.Ytlnjphfkinajdaa
open Go.RowKit
set_option maxHeartbeats 40000000 in
set_option maxRecDepth 1000000 in
theorem plays_walk (vs : Value) (n : Nat) (w : World) (hs : Sc w vs n) :
    Calls Try.prog 3 #[vs] w fun e w' => e = .returned (.bool true) ∧ Below w.heap.size w w' := by
  obtain ⟨aos, cs, rfl, hs1, hs2, hsc⟩ := hs
  unfold maxLen at hs2
  have HS := hide hsc
  have HSH := hide (shown_any w)
  clear hsc
  go_enter Try.func3, Try.ntmps3
  go_wp2_with fail
  refine HSH.out.mono ?_
  rintro e w0 ⟨rfl, B0⟩
  clear HSH
  go_upto_region 3 with fail
  obtain ⟨w1, hw1⟩ : ∃ X, X = w0.alloc (.cells #[.slice none 0 0, .slice none 0 0, .slice none 0 0] 29) := ⟨_, rfl⟩
  have B1 : Below w0.heap.size w0 w1 := hw1 ▸ below_alloc w0 _
  have hr1 : w1.heap[w0.heap.size]? = some (.cells #[.slice none 0 0, .slice none 0 0, .slice none 0 0] 29 (0, 0)) := hw1 ▸ heap_alloc_new w0 _
  rw [← hw1]
  obtain ⟨gw, hgw⟩ : ∃ k, k = w0.heap.size := ⟨_, rfl⟩
  rw [← hgw] at hr1 ⊢
  have HU0 := hide (Bu.start (w := w) (by rw [hgw]; exact B0.size) hr1)
  have HB1 : Hid (Below w.heap.size w w1) := below_on B0 B1
  have J1 : Hid (Calls Try.prog 7 #[.pointer (some ⟨gw, 0, none⟩), .agg #[.int .i64 1, .int .i64 0, .int .i64 2, .int .i64 0, .int .i64 0, .int .i64 0, .int .i64 0, .slice none 0 0]] w1 fun e w' => e = .returned (.bool true) ∧ Gs w1 gw w.heap.size (0 + 700) (0 + 1) (([] : List Held).length + 4) w') := by
    obtain ⟨own, hF, hb⟩ := HU0.out
    exact step_1 hb hF 0 2 0 0 0 0 none 0 0 (by omega) (by omega) (.inr (by omega))
  clear hw1 hr1 hgw B0 B1 HU0
  go_wp2_with fail
  refine J1.out.mono ?_
  rintro e w2 ⟨rfl, G0, n0, C0, L0, hbu, hn1, hn2, hl0, hbl⟩
  obtain rfl : n0 = 1 := by omega
  obtain ⟨al, cl, d0⟩ := hbu.len
  have HU := hide hbu
  have HB : Hid (Below w.heap.size w w2) := HB1.out.trans hbl
  simp only [List.length_nil] at hl0
  clear hbu hbl J1 HB1 hn1 hn2
  go_wp2_with fail
  clear d0
  go_loopw [6] (fun v6 W => ∃ (i k : Nat) (G : Nat → Nat × Nat) (C : Nat → Ts) (L : List Held), i ≤ 300 ∧ i ≤ n ∧ v6 = .int .i64 (i : Int) ∧ 1 ≤ k ∧ k ≤ i + 1 ∧ L.length ≤ 4 * i + 4 ∧ Hid (Bu W gw w.heap.size (700 * i + 700) G k C C L) ∧ Hid (Below w.heap.size w W)) (fun v6 _ => n - (intOf v6).toNat)
  case atStart => exact ⟨0, 1, G0, C0, L0, by omega, by omega, rfl, by omega, by omega, by omega, HU, HB⟩
  case round =>
    obtain ⟨i, k, G, C, L, hi3, hin, rfl, hk1, hk2, hL, HU1, HB1⟩ := hrel
    clear HU HB
    by_cases hlt : i < n
    · have t1 : (i : Int) < (n : Int) := by omega
      by_cases h3 : i < 300
      · have t2 : (i : Int) < 300 := by omega
        obtain ⟨g, o, rfl, hop⟩ := HS.out i hlt
        obtain ⟨kd, on, row, col, e1, e2, x, av, nv, cv, vals, ⟨c0, c1, c2, c3, c4, c5, c6, c7⟩, ho, hE, hrow, ⟨hv, hv0⟩, hvl⟩ := hop.on HB1.out
        have J := hide (step_any HU1.out kd on row col e1 e2 x av nv cv hk1 (by omega) (by omega) (by omega) ho hE hrow vals hv hv0 hvl)
        clear hop ho hE hrow hv hv0 hvl
        go_wp2_with fail
        refine J.out.mono ?_
        rintro e w6 ⟨rfl, G', k', C', L', hbu, hk1', hk2', hl, hbl⟩
        have JL := hide (hbu.looks (by omega))
        have HU6 := hide hbu
        have HB6 := hide hbl
        clear hbu hbl J c0 c1 c2 c3 c4 c5 c6 c7
        go_wp2_with fail
        refine JL.out.mono ?_
        rintro e w7 ⟨rfl, hb7⟩
        clear JL
        have HU7 : Hid (Bu w7 gw w.heap.size (700 * (i + 1) + 700) G' k' C' C' L') := by
          have := HU6.out.later hb7
          rw [show 700 * (i + 1) + 700 = 700 * i + 700 + 700 by omega]
          exact this
        have HB7 : Hid (Below w.heap.size w w7) := (HB1.out.trans HB6.out).trans (hb7.mono (HB1.out.trans HB6.out).size)
        clear hb7
        go_wp2_with fail
        go_roundw
        case rel => exact ⟨i + 1, k', G', C', L', by omega, by omega, by go_num, hk1', by omega, by omega, HU7, HB7⟩
        case measure => simp [intOf]; omega
      · have t2 : ¬ (i : Int) < 300 := by omega
        go_wp2_with fail
        go_ret
        exact ⟨rfl, HB1.out⟩
    · have t1 : ¬ (i : Int) < (n : Int) := by omega
      go_wp2_with fail
      go_ret
      exact ⟨rfl, HB1.out⟩
end Go.Proofs.Ytlnjphfkinajdaa
