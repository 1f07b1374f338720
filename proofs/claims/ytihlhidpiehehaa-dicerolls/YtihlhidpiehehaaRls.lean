/-
  DiceRolls: the walk.
-/
import Derived.Test.YtihlhidpiehehaaRoll3
import Derived.Test.YtihlhidpiehehaaOwn
namespace Go.Proofs.Ytihlhidpiehehaa
open Go.RowKit
set_option maxRecDepth 100000
/-- Rolls, as they are read. -/
def Ro (w : World) (v : Value) (n : Nat) : Prop :=
  ∃ ao c, v = .slice ao n c ∧ n ≤ c ∧ c ≤ maxLen ∧ ∀ i, i < n → ∃ (g o : Nat) (d0 d1 d2 d3 d4 : Int), ao = some ⟨g, o, none⟩ ∧ (w.cell? ⟨g, o + i * 5, none⟩ = some (.int .i64 d0) ∧ w.cell? ⟨g, o + i * 5 + 1, none⟩ = some (.int .i64 d1) ∧ w.cell? ⟨g, o + i * 5 + 2, none⟩ = some (.int .i64 d2) ∧ w.cell? ⟨g, o + i * 5 + 3, none⟩ = some (.int .i64 d3) ∧ w.cell? ⟨g, o + i * 5 + 4, none⟩ = some (.int .i64 d4)) ∧ I6 d0 ∧ I6 d1 ∧ I6 d2 ∧ I6 d3 ∧ I6 d4
theorem roll_any {w : World} {B : Nat} {own : Nat → Nat} {kb gd gr : Nat} {s : Int} (h : Bo w B own kb) (hB : B ≤ w.heap.size) (hd : Dz w gd s) (hr : Rz w gr s) (o1 : own gd = 0) (o2 : own gr = 0) (hne : gd ≠ gr) (kd on nn a b : Int) (hkd : I6 kd) (ha : I6 a) (hb : I6 b) :
    Calls Try.prog 12 #[.pointer (some ⟨kb, 0, none⟩), .pointer (some ⟨gd, 0, none⟩), .pointer (some ⟨gr, 0, none⟩), .agg #[.int .i64 kd, .int .i64 on, .int .i64 nn, .int .i64 a, .int .i64 b]] w fun e w' => e = .returned (.bool true) ∧ Rolled w B own kb gd gr w' := by
  have hp := pickI_b kd (n := 4) (by omega)
  rcases (by omega : pickI kd 4 = 0 ∨ pickI kd 4 = 1 ∨ pickI kd 4 = 2 ∨ pickI kd 4 = 3) with e | e | e | e
  · exact roll_0 h hd hr o1 o2 hne kd on nn a b hkd ha hb e
  · exact roll_1 h hd hr o1 o2 hne kd on nn a b hkd ha hb e
  · exact roll_2 h hd hr o1 o2 hne kd on nn a b hkd ha hb e
  · exact roll_3 h hd hr o1 o2 hne kd on nn a b hkd ha hb e hB
/-- The book, and two dice with the document's beside them. -/
def Ru (w0 w : World) (own : Nat → Nat) (kk gd ge gr gs : Nat) : Prop :=
  Bo w w0.heap.size own kk ∧ (∃ s, Dz w gd s ∧ Rz w gr s) ∧ (∃ t, Dz w ge t ∧ Rz w gs t) ∧ (own gd = 0 ∧ own ge = 0 ∧ own gr = 0 ∧ own gs = 0) ∧ Below w0.heap.size w0 w ∧ (w0.heap.size ≤ gd ∧ w0.heap.size ≤ ge ∧ w0.heap.size ≤ gr ∧ w0.heap.size ≤ gs) ∧ gd ≠ ge ∧ gd ≠ gr ∧ gd ≠ gs ∧ ge ≠ gr ∧ ge ≠ gs ∧ gr ≠ gs
section
variable {w0 w w' : World} {own : Nat → Nat} {kk gd ge gr gs : Nat}
theorem Bo.later {B : Nat} (h : Bo w B own kk) (hb : Below w.heap.size w w') : Bo w' B own kk := by
  obtain ⟨vl, vw, ls, ms, ρ, hk⟩ := h
  exact ⟨vl, vw, ls, ms, ρ, hk.later hb⟩
theorem Ru.later (h : Ru w0 w own kk gd ge gr gs) (hb : Below w.heap.size w w') : Ru w0 w' own kk gd ge gr gs := by
  obtain ⟨h1, ⟨s, h2, h3⟩, ⟨t, h4, h5⟩, h6, h7, h8⟩ := h
  exact ⟨h1.later hb, ⟨s, h2.later hb, h3.later hb⟩, ⟨t, h4.later hb, h5.later hb⟩, h6, below_on h7 hb, h8⟩
theorem bo_b {B : Nat} (h : Bo w B own kk) : ∀ k, own k ≠ 0 → B ≤ k := by
  obtain ⟨vl, vw, ls, ms, ρ, hk⟩ := h
  exact fun k e => (hk.2.2.2.2.2.1 k e).1
theorem Ru.turn1 (h : Ru w0 w own kk gd ge gr gs) (hr : Rolled w w0.heap.size own kk gd gr w') : ∃ own', Ru w0 w' own' kk gd ge gr gs := by
  obtain ⟨h1, ⟨s, h2, h3⟩, ⟨t, h4, h5⟩, ⟨o1, o2, o3, o4⟩, h7, ⟨b1, b2, b3, b4⟩, n1, n2, n3, n4, n5, n6⟩ := h
  obtain ⟨own', s', r1, r2, r3, r4, r5⟩ := hr
  refine ⟨own', r1, ⟨s', r2, r3⟩, ⟨t, h4.frame r5 (fun e => ?_), h5.frame r5 (fun e => ?_)⟩, ⟨(r4 _ h2.lt).trans o1, (r4 _ h4.lt).trans o2, (r4 _ h3.lt).trans o3, (r4 _ h5.lt).trans o4⟩, h7.trans (r5.below h7.size (fun k e => ?_)), ⟨b1, b2, b3, b4⟩, n1, n2, n3, n4, n5, n6⟩
  · rcases e with e | e | e <;> omega
  · rcases e with e | e | e <;> omega
  · rcases e with e | e | e
    · omega
    · omega
    · exact bo_b h1 k e
theorem Ru.swap (h : Ru w0 w own kk gd ge gr gs) : Ru w0 w own kk ge gd gs gr := by
  obtain ⟨h1, h2, h3, ⟨o1, o2, o3, o4⟩, h7, ⟨b1, b2, b3, b4⟩, n1, n2, n3, n4, n5, n6⟩ := h
  exact ⟨h1, h3, h2, ⟨o2, o1, o4, o3⟩, h7, ⟨b2, b1, b4, b3⟩, n1.symm, n5, n4, n3, n2, n6.symm⟩
end
theorem bo_new (w : World) {B : Nat} (hB : B ≤ w.heap.size) : Bo (w.alloc (.cells #[.slice none 0 0, .slice none 0 0] 36)) B (fun k => if k = w.heap.size then 1 else 0) w.heap.size := by
  refine ⟨_, _, [], [], fun _ => [], heap_alloc_new _ _, ⟨World.ownsRow_nil _ _ _ _, fun i hi => absurd hi (by simp), fun k e => by simp [Value.ownBlock] at e, fun i hi => absurd hi (by simp)⟩, ⟨World.ownsRow_nil _ _ _ _, fun i hi => absurd hi (by simp), fun k e => by simp [Value.ownBlock] at e, fun i hi => absurd hi (by simp)⟩, rfl, if_pos rfl, fun k e => ?_, by simp, fun _ => by simp⟩
  by_cases c : k = w.heap.size
  · rw [c]
    exact ⟨hB, by simp⟩
  · exact absurd (if_neg c) e
set_option maxHeartbeats 8000000 in
theorem rolls_walk (a0 a1 a2 a3 b0 b1 b2 b3 : Int) (v : Value) (n : Nat) (w : World) (hv : Ro w v n) :
    Calls Try.prog 4 #[.agg #[.int .i64 a0, .int .i64 a1, .int .i64 a2, .int .i64 a3], .agg #[.int .i64 b0, .int .i64 b1, .int .i64 b2, .int .i64 b3], v] w fun e w' => e = .returned (.bool true) ∧ Below w.heap.size w w' := by
  obtain ⟨ao, c, rfl, hnc, hcm, hro⟩ := hv
  have hcap : c ≤ 9223372036854775807 := by unfold maxLen at hcm; omega
  have HRO := hide hro
  clear hro
  obtain ⟨w0, hw0⟩ : ∃ W, W = (w.alloc (.cells #[.int .i64 a0, .int .i64 a1, .int .i64 a2, .int .i64 a3] 27)).alloc (.cells #[.int .i64 b0, .int .i64 b1, .int .i64 b2, .int .i64 b3] 27) := ⟨_, rfl⟩
  obtain ⟨ka, hka⟩ : ∃ k, k = w.heap.size := ⟨_, rfl⟩
  have hk0 : w0.heap[ka]? = some (.cells #[.int .i64 a0, .int .i64 a1, .int .i64 a2, .int .i64 a3] 27 (0, 0)) := by rw [hw0, hka]; exact heap_alloc2_old _ _ _
  have hk1 : w0.heap[ka + 1]? = some (.cells #[.int .i64 b0, .int .i64 b1, .int .i64 b2, .int .i64 b3] 27 (0, 0)) := by rw [hw0, hka]; exact heap_alloc2_new _ _ _
  have hb0 : Below w.heap.size w w0 := by rw [hw0]; exact below_on (below_alloc w _) (below_alloc _ _)
  have HCL : Hid (∀ W, Below w0.heap.size w0 W → (W.cell? ⟨ka, 0, none⟩ = some (.int .i64 a0) ∧ W.cell? ⟨ka, 1, none⟩ = some (.int .i64 a1) ∧ W.cell? ⟨ka, 2, none⟩ = some (.int .i64 a2) ∧ W.cell? ⟨ka, 3, none⟩ = some (.int .i64 a3)) ∧ (W.cell? ⟨ka + 1, 0, none⟩ = some (.int .i64 b0) ∧ W.cell? ⟨ka + 1, 1, none⟩ = some (.int .i64 b1) ∧ W.cell? ⟨ka + 1, 2, none⟩ = some (.int .i64 b2) ∧ W.cell? ⟨ka + 1, 3, none⟩ = some (.int .i64 b3))) := fun W hb => by
    have q0 := (hb.block ka (lt_of_block hk0)).trans hk0
    have q1 := (hb.block (ka + 1) (lt_of_block hk1)).trans hk1
    refine ⟨⟨?_, ?_, ?_, ?_⟩, ?_, ?_, ?_, ?_⟩
    iterate 4 rw [cell_of_row W ka _ _ 27 (0, 0) q0]; rfl
    iterate 4 rw [cell_of_row W (ka + 1) _ _ 27 (0, 0) q1]; rfl
  have HB0 := hide hb0
  have JS := hide (shown_any w0)
  have JA := hide (new_any a0 a1 a2 a3)
  have JB := hide (new_any b0 b1 b2 b3)
  have JC := hide (dnew_any a0 a1 a2 a3)
  have JD := hide (dnew_any b0 b1 b2 b3)
  clear hk0 hk1 hb0
  go_enter Try.func4, Try.ntmps4
  go_wp2_with fail
  rw [← hka, ← hw0]
  have HKA := hide hka
  clear hka hw0
  refine JS.out.mono ?_
  rintro e w1 ⟨rfl, hb1⟩
  have HB1 := hide hb1
  obtain ⟨⟨x0, x1, x2, x3⟩, y0, y1, y2, y3⟩ := HCL.out w1 hb1
  clear hb1
  go_wp2_with fail
  refine (JA.out w1).mono ?_
  rintro e w2 ⟨gd, rfl, g0, hd, hb2⟩
  have HD := hide (And.intro g0 (And.intro hd hb2))
  have HB2 := hide (below_on HB1.out hb2)
  obtain ⟨⟨-, -, -, -⟩, z0, z1, z2, z3⟩ := HCL.out w2 HB2.out
  clear x0 x1 x2 x3 y0 y1 y2 y3 hb2 hd g0
  go_wp2_with fail
  refine (JB.out w2).mono ?_
  rintro e w3 ⟨ge, rfl, g0, hd, hb3⟩
  have HE := hide (And.intro g0 (And.intro hd hb3))
  have HB3 := hide (below_on HB2.out hb3)
  obtain ⟨⟨x0, x1, x2, x3⟩, -, -, -, -⟩ := HCL.out w3 HB3.out
  clear z0 z1 z2 z3 hb3 hd g0
  go_wp2_with fail
  refine (JC.out w3).mono ?_
  rintro e w4 ⟨rfl, hr, hb4⟩
  have HR := hide (And.intro hr hb4)
  have HB4 := hide (below_on HB3.out hb4)
  obtain ⟨⟨-, -, -, -⟩, z0, z1, z2, z3⟩ := HCL.out w4 HB4.out
  clear x0 x1 x2 x3 hb4 hr
  obtain ⟨gr, hgr⟩ : ∃ g, g = w3.heap.size := ⟨_, rfl⟩
  rw [← hgr]
  have HGR := hide hgr
  clear hgr
  go_wp2_with fail
  refine (JD.out w4).mono ?_
  rintro e w5 ⟨rfl, hr, hb5⟩
  obtain ⟨gs, hgs⟩ : ∃ g, g = w4.heap.size := ⟨_, rfl⟩
  rw [← hgs]
  have HS := hide (And.intro hr hb5)
  have HB5 := hide (below_on HB4.out hb5)
  have HGS := hide hgs
  clear z0 z1 z2 z3 hb5 hr hgs
  go_wp2_with fail
  obtain ⟨w6, hw6⟩ : ∃ W, W = w5.alloc (.cells #[.slice none 0 0, .slice none 0 0] 36) := ⟨_, rfl⟩
  obtain ⟨kk, hkk⟩ : ∃ k, k = w5.heap.size := ⟨_, rfl⟩
  rw [← hw6, ← hkk]
  have HRU : Hid (Ru w w6 (fun k => if k = kk then 1 else 0) kk gd ge gr gs) := by
    obtain ⟨d1, d2, d3⟩ := HD.out
    obtain ⟨e1, e2, e3⟩ := HE.out
    obtain ⟨r1, r2⟩ := HR.out
    obtain ⟨s1, s2⟩ := HS.out
    rw [← HGR.out] at r1
    rw [← HGS.out] at s1
    have b6 : Below w5.heap.size w5 w6 := hw6 ▸ below_alloc w5 _
    have q0 := HB0.out.size
    have q1 := HB1.out.size
    have q2 := d2.lt
    have q3 := e2.lt
    have q4 := r1.lt
    have q5 := s1.lt
    have q6 := HGR.out
    have q7 := HGS.out
    have p3 := e3.size
    have p4 := r2.size
    have p5 := s2.size
    have p2 := d3.size
    refine ⟨?_, ⟨_, ((((d2.later e3).later r2).later s2).later b6), ((r1.later s2).later b6)⟩, ⟨_, (((e2.later r2).later s2).later b6), s1.later b6⟩, ⟨if_neg (by omega), if_neg (by omega), if_neg (by omega), if_neg (by omega)⟩, below_on (below_on HB0.out HB5.out) b6, ⟨by omega, by omega, by omega, by omega⟩, by omega, by omega, by omega, by omega, by omega, by omega⟩
    rw [hw6, hkk]
    exact bo_new w5 (by omega)
  clear hw6 hkk HD HE HR HS HGR HGS HB1 HB2 HB3 HB4 HB5 JS JA JB JC JD HCL
  go_loopg [13] 300 (fun k v13 wr => ∃ (i : Nat) (own : Nat → Nat), k = 300 - i ∧ i ≤ 300 ∧ v13 = .int .i64 (i : Int) ∧ Hid (Ru w wr own kk gd ge gr gs))
  case atStart => exact ⟨0, _, rfl, by omega, rfl, HRU⟩
  case round =>
    clear HRU
    obtain ⟨i, own, hk, hi, rfl, HU⟩ := hrel
    by_cases hin : i < n
    · have hin' : (i : Int) < (n : Int) := by omega
      by_cases hi3 : i < 300
      · have hi3' : (i : Int) < 300 := by omega
        obtain ⟨g, o, d0, d1, d2, d3, d4, rfl, ⟨c0, c1, c2, c3, c4⟩, f0, f1, f2, f3, f4⟩ := HRO.out i hin
        have HC : Hid (∀ W, Below w.heap.size w W → W.cell? ⟨g, o + i * 5, none⟩ = some (.int .i64 d0) ∧ W.cell? ⟨g, o + i * 5 + 1, none⟩ = some (.int .i64 d1) ∧ W.cell? ⟨g, o + i * 5 + 2, none⟩ = some (.int .i64 d2) ∧ W.cell? ⟨g, o + i * 5 + 3, none⟩ = some (.int .i64 d3) ∧ W.cell? ⟨g, o + i * 5 + 4, none⟩ = some (.int .i64 d4)) := fun W hb =>
          ⟨(hb.cell (World.block_lt_of_cell? _ _ c0)).trans c0, (hb.cell (World.block_lt_of_cell? _ _ c1)).trans c1, (hb.cell (World.block_lt_of_cell? _ _ c2)).trans c2, (hb.cell (World.block_lt_of_cell? _ _ c3)).trans c3, (hb.cell (World.block_lt_of_cell? _ _ c4)).trans c4⟩
        clear c0 c1 c2 c3 c4
        obtain ⟨c0, c1, c2, c3, c4⟩ := HC.out wr HU.out.2.2.2.2.1
        have hp := pickI_b d1 (n := 2) (by omega)
        have JP := hide (pick_any d1 2 wr f1 (by omega) (by omega))
        have hBs := HU.out.2.2.2.2.1.size
        have JT := hide (fun (W : World) (own : Nat → Nat) (h : Bo W w.heap.size own kk) => still_any h)
        by_cases hp0 : pickI d1 2 = 0
        · rw [hp0] at JP
          have HR1 : Hid (Calls Try.prog 12 #[.pointer (some ⟨kk, 0, none⟩), .pointer (some ⟨gd, 0, none⟩), .pointer (some ⟨gr, 0, none⟩), .agg #[.int .i64 d0, .int .i64 d1, .int .i64 d2, .int .i64 d3, .int .i64 d4]] wr fun e w' => e = .returned (.bool true) ∧ Rolled wr w.heap.size own kk gd gr w') := by
            obtain ⟨s', u1, u2⟩ := HU.out.2.1
            exact roll_any HU.out.1 hBs u1 u2 HU.out.2.2.2.1.1 HU.out.2.2.2.1.2.2.1 HU.out.2.2.2.2.2.2.2.1 d0 d1 d2 d3 d4 f0 f3 f4
          clear hp hp0
          go_wp2_with fail
          refine JP.out.mono ?_
          rintro e wp ⟨rfl, rfl⟩
          go_wp2_with fail
          refine HR1.out.mono ?_
          rintro e w7 ⟨rfl, hro⟩
          obtain ⟨own', hru⟩ := HU.out.turn1 hro
          have HU7 := hide hru
          have J7 := hide (JT.out w7 own' hru.1)
          clear hru hro c0 c1 c2 c3 c4
          go_wp2_with fail
          refine J7.out.mono ?_
          rintro e w8 ⟨rfl, hb8⟩
          have HU8 := hide (HU7.out.later hb8)
          clear hb8
          go_wp2_with fail
          go_roundg (300 - (i + 1))
          case measure => omega
          case rel => exact ⟨i + 1, own', rfl, hi3, by simp, HU8⟩
        · have hp1 : pickI d1 2 = 1 := by omega
          rw [hp1] at JP
          have HR1 : Hid (Calls Try.prog 12 #[.pointer (some ⟨kk, 0, none⟩), .pointer (some ⟨ge, 0, none⟩), .pointer (some ⟨gs, 0, none⟩), .agg #[.int .i64 d0, .int .i64 d1, .int .i64 d2, .int .i64 d3, .int .i64 d4]] wr fun e w' => e = .returned (.bool true) ∧ Rolled wr w.heap.size own kk ge gs w') := by
            obtain ⟨s', u1, u2⟩ := HU.out.2.2.1
            exact roll_any HU.out.1 hBs u1 u2 HU.out.2.2.2.1.2.1 HU.out.2.2.2.1.2.2.2 HU.out.2.2.2.2.2.2.2.2.2.2.1 d0 d1 d2 d3 d4 f0 f3 f4
          clear hp hp0 hp1
          go_wp2_with fail
          refine JP.out.mono ?_
          rintro e wp ⟨rfl, rfl⟩
          go_wp2_with fail
          refine HR1.out.mono ?_
          rintro e w7 ⟨rfl, hro⟩
          obtain ⟨own', hru0⟩ := HU.out.swap.turn1 hro
          have hru := hru0.swap
          have HU7 := hide hru
          have J7 := hide (JT.out w7 own' hru.1)
          clear hru hru0 hro c0 c1 c2 c3 c4
          go_wp2_with fail
          refine J7.out.mono ?_
          rintro e w8 ⟨rfl, hb8⟩
          have HU8 := hide (HU7.out.later hb8)
          clear hb8
          go_wp2_with fail
          go_roundg (300 - (i + 1))
          case measure => omega
          case rel => exact ⟨i + 1, own', rfl, hi3, by simp, HU8⟩
      · obtain rfl : i = 300 := by omega
        have JO := hide (owned_any HU.out.1)
        go_wp2_with fail
        refine JO.out.mono ?_
        rintro e w9 ⟨rfl, hm9⟩
        have HB9 := hide (HU.out.2.2.2.2.1.trans (hm9.below HU.out.2.2.2.2.1.size (fun k e => bo_b HU.out.1 k e)))
        clear hm9
        go_wp2_with fail
        go_ret
        exact ⟨rfl, HB9.out⟩
    · have hin' : ¬ (i : Int) < (n : Int) := by omega
      have JO := hide (owned_any HU.out.1)
      go_wp2_with fail
      refine JO.out.mono ?_
      rintro e w9 ⟨rfl, hm9⟩
      have HB9 := hide (HU.out.2.2.2.2.1.trans (hm9.below HU.out.2.2.2.2.1.size (fun k e => bo_b HU.out.1 k e)))
      clear hm9
      go_wp2_with fail
      go_ret
      exact ⟨rfl, HB9.out⟩
end Go.Proofs.Ytihlhidpiehehaa
