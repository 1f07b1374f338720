/-
  StorePlays' walk.
-/
import Derived.Test.YtmceoelafmlpjaaStep
import Derived.Test.YtmceoelafmlpjaaMade
namespace Go.Proofs.Ytmceoelafmlpjaa
open Go.RowKit
theorem bs_block {w : World} {v : Value} {l : List UInt8} (h : Bs w v l) (h0 : 0 < l.length) : ∀ g, v.ownBlock = some g → g < w.heap.size := by
  intro g hg
  obtain ⟨ao, c, rfl, _, _, h3⟩ := h
  obtain ⟨g', o, rfl, hc⟩ := h3 0 h0
  simp only [Value.ownBlock, Option.some.injEq] at hg
  subst hg
  exact World.block_lt_of_cell? w _ hc
/-- A script that came in. -/
def Sc (w : World) (v : Value) (n : Nat) (kd hh q : Nat → Int) (ba : Nat → Option Addr) (bc : Nat → Nat) (b : Nat → List UInt8) : Prop :=
  ∃ ao c, v = .slice ao n c ∧ n ≤ c ∧ c ≤ maxLen ∧ ∀ i, i < n → ∃ g o, ao = some ⟨g, o, none⟩ ∧ (w.cell? ⟨g, o + i * 4, none⟩ = some (.int .i64 (kd i)) ∧ w.cell? ⟨g, o + i * 4 + 1, none⟩ = some (.int .i64 (hh i)) ∧ w.cell? ⟨g, o + i * 4 + 2, none⟩ = some (.int .i64 (q i)) ∧ w.cell? ⟨g, o + i * 4 + 3, none⟩ = some (.slice (ba i) (b i).length (bc i))) ∧ Bs w (.slice (ba i) (b i).length (bc i)) (b i) ∧ NilOr (.slice (ba i) (b i).length (bc i)) ∧ (b i).length ≤ 1048576 ∧ q i ≤ 9223372036854775807
/-- Two pairs beside one another. -/
def Two (B gp gq nk : Nat) (w : World) : Prop := ∃ Sp Sq ga gb gc gd L O off f L' O' off' f', Ps w Sp B gp ga gb nk (fun _ => False) w L O off f ∧ Ps w Sq B gq gc gd nk (fun _ => False) w L' O' off' f' ∧ ∀ k, Sp k → ¬ Sq k
theorem Two.flip {B gp gq nk : Nat} {w : World} (h : Two B gp gq nk w) : Two B gq gp nk w := by
  obtain ⟨Sp, Sq, ga, gb, gc, gd, L, O, off, f, L', O', off', f', h1, h2, h3⟩ := h
  exact ⟨Sq, Sp, gc, gd, ga, gb, L', O', off', f', L, O, off, f, h2, h1, fun k e e' => h3 k e' e⟩
theorem Two.later {B gp gq nk : Nat} {w w' : World} (h : Two B gp gq nk w) (hb : Below w.heap.size w w') : Two B gp gq nk w' := by
  obtain ⟨Sp, Sq, ga, gb, gc, gd, L, O, off, f, L', O', off', f', h1, h2, h3⟩ := h
  have hm : Mv w w' (fun _ => False) := (Mv.refl w _).later hb
  exact ⟨Sp, Sq, ga, gb, gc, gd, L, O, off, f, L', O', off', f', h1.aside hm (fun _ _ e => e), h2.aside hm (fun _ _ e => e), h3⟩
theorem Two.looks {B gp gq nk : Nat} {w : World} (h : Two B gp gq nk w) : Calls Try.prog 9 #[.pointer (some ⟨gp, 0, none⟩)] w fun e w' => e = .returned (.bool true) ∧ Two B gp gq nk w' ∧ Below w.heap.size w w' := by
  have h0 := h
  obtain ⟨Sp, Sq, ga, gb, gc, gd, L, O, off, f, L', O', off', f', h1, h2, h3⟩ := h
  refine h1.looks.mono ?_
  rintro e w' ⟨rfl, hb⟩
  exact ⟨rfl, h0.later hb, hb⟩
/-- A step on the first of them. -/
theorem Two.step {B gp gq nk : Nat} {w : World} (h : Two B gp gq nk w) (kd hh q : Int) (bao : Option Addr) (bc : Nat) (b : List UInt8) (hb : ∀ W, Below B w W → Bs W (.slice bao b.length bc) b) (hnb : NilOr (.slice bao b.length bc)) (hvb : 0 < b.length → ∀ k, (Value.slice bao b.length bc).ownBlock = some k → k < B) (hbl : b.length ≤ 1048576) (hq : q ≤ 9223372036854775807) (hnk : nk ≤ 100000) :
    Calls Try.prog 8 #[.pointer (some ⟨gp, 0, none⟩), .agg #[.int .i64 kd, .int .i64 hh, .int .i64 q, .slice bao b.length bc]] w fun e w' => e = .returned (.bool true) ∧ Two B gp gq (nk + 4) w' ∧ Below B w w' := by
  obtain ⟨Sp, Sq, ga, gb, gc, gd, L, O, off, f, L', O', off', f', h1, h2, h3⟩ := h
  refine (step_walk kd hh q bao bc w h1 hb hnb hvb hbl hq hnk).mono ?_
  rintro e w' ⟨rfl, L2, O2, off2, f2, hp⟩
  have hm := Pw.moved hp
  have h2' := h2.aside hm (fun k e e' => h3 k e' e)
  have hlt : ∀ k, Sq k → k < w.heap.size := fun k e => by
    obtain ⟨_, _, _, _, _, _, _, _, _, _, _, hS0, _⟩ := h2
    exact (hS0 k e).2
  refine ⟨rfl, ⟨_, Sq, ga, gb, gc, gd, L2, O2, off2, f2, L', O', off', f', hp.rebase, Pw.more h2' (by omega), fun k e e' => ?_⟩, Pw.below hp⟩
  rcases e.1 with h | h
  · exact h3 k h e'
  · have := hlt k e'
    omega
set_option maxHeartbeats 8000000 in
set_option maxRecDepth 100000 in
theorem plays_walk (v0 v1 vs : Value) (l0 l1 : List UInt8) (n : Nat) (kd hh q : Nat → Int) (ba : Nat → Option Addr) (bc : Nat → Nat) (b : Nat → List UInt8) (w : World) (h0 : Bs w v0 l0) (hn0 : NilOr v0) (hl0 : l0.length ≤ 1048576) (h1 : Bs w v1 l1) (hn1 : NilOr v1) (hl1 : l1.length ≤ 1048576) (hs : Sc w vs n kd hh q ba bc b) :
    Calls Try.prog 3 #[v0, v1, vs] w fun e w' => e = .returned (.bool true) ∧ Below w.heap.size w w' := by
  obtain ⟨aos, cs, rfl, hs1, hs2, -⟩ := id hs
  unfold maxLen at hs2
  have HS := hide hs
  have H0 := hide h0
  have H1 := hide h1
  have HSH := hide (shown_any w)
  clear hs h0 h1
  go_enter Try.func3, Try.ntmps3
  go_wp2_with fail
  refine HSH.out.mono ?_
  rintro e w1 ⟨rfl, be1⟩
  have HM := hide (made_any v0 l0 w.heap.size w1 (H0.out.on be1) hn0 hl0 be1.size (fun h k e => by have := bs_block H0.out h k e; have := be1.size; omega))
  have BE1 := hide be1
  clear be1 HSH
  go_wp2_with fail
  refine HM.out.mono ?_
  rintro e w2 ⟨gp, rfl, ⟨ga, gb, hp⟩, hb2⟩
  have BE2 := hide (BE1.out.trans (hb2.mono BE1.out.size))
  have hsz1 := BE1.out.size
  have hsz2 := hb2.size
  have HM2 := hide (made_any v1 l1 w.heap.size w2 (H1.out.on BE2.out) hn1 hl1 BE2.out.size (fun h k e => by have := bs_block H1.out h k e; omega))
  have HP := hide hp
  clear HM hb2 hp
  go_wp2_with fail
  refine HM2.out.mono ?_
  rintro e w3 ⟨gq, rfl, ⟨gc, gd, hq3⟩, hb3⟩
  have hsz3 := hb3.size
  have HTW : Hid (Two w.heap.size gp gq 0 w3) := ⟨_, _, ga, gb, gc, gd, l0, [], false, -1, l1, [], false, -1, HP.out.aside ((Mv.refl w2 (fun _ => False)).later hb3) (fun _ _ e => e), hq3, fun k e e' => by omega⟩
  have BE3 := hide (BE2.out.trans (hb3.mono BE2.out.size))
  clear HM2 hb3 hq3 HP BE1 BE2
  go_upto_block 0 with fail
  go_cut [] (fun wx => Hid (Below w.heap.size w wx))
  case first =>
    go_wp2_with fail
    go_loopw [12] (fun v12 wr => ∃ i : Nat, i ≤ n ∧ i ≤ 400 ∧ v12 = .int .i64 i ∧ Hid (Below w.heap.size w wr) ∧ Hid (Two w.heap.size gp gq (4 * i) wr)) (fun v12 _ => n - (intOf v12).toNat)
    case atStart => exact ⟨0, Nat.zero_le _, by omega, rfl, BE3, HTW⟩
    case round =>
      obtain ⟨i, hi, hi4, rfl, HBE, HD⟩ := hrel
      by_cases hlt : i < n ∧ i < 400
      · obtain ⟨hlt, hlt4⟩ := hlt
        obtain ⟨_, _, ee, -, -, hcs⟩ := id HS.out
        simp only [Value.slice.injEq] at ee
        obtain ⟨rfl, -, rfl⟩ := ee
        obtain ⟨gs, os, rfl, ⟨z0, z1, z2, z3⟩, hbs, hnb, hbl, hqi⟩ := hcs i hlt
        clear hcs
        have K : Hid (∀ W, Below w.heap.size w W → W.cell? ⟨gs, os + i * 4, none⟩ = some (.int .i64 (kd i)) ∧ W.cell? ⟨gs, os + i * 4 + 1, none⟩ = some (.int .i64 (hh i)) ∧ W.cell? ⟨gs, os + i * 4 + 2, none⟩ = some (.int .i64 (q i)) ∧ W.cell? ⟨gs, os + i * 4 + 3, none⟩ = some (.slice (ba i) (b i).length (bc i))) := fun W hb =>
          ⟨(hb.cell (p := ⟨gs, os + i * 4, none⟩) (World.block_lt_of_cell? w _ z0)).trans z0, (hb.cell (p := ⟨gs, os + i * 4 + 1, none⟩) (World.block_lt_of_cell? w _ z1)).trans z1, (hb.cell (p := ⟨gs, os + i * 4 + 2, none⟩) (World.block_lt_of_cell? w _ z2)).trans z2, (hb.cell (p := ⟨gs, os + i * 4 + 3, none⟩) (World.block_lt_of_cell? w _ z3)).trans z3⟩
        have HBI : Hid ((∀ W, Below w.heap.size wr W → Bs W (.slice (ba i) (b i).length (bc i)) (b i)) ∧ (0 < (b i).length → ∀ k, (Value.slice (ba i) (b i).length (bc i)).ownBlock = some k → k < w.heap.size)) := ⟨fun W hW => hbs.below (HBE.out.trans hW) (Nat.le_refl _), fun h k e => bs_block hbs h k e⟩
        have e1 : (i : Int) < (n : Int) := by omega
        have e2 : (i : Int) < 400 := by omega
        obtain ⟨c0, c1, c2, c3⟩ := K.out wr HBE.out
        have HNB := hide hnb
        clear z0 z1 z2 z3 hbs hnb HS HTW BE3 K
        obtain ⟨w4, rfl⟩ : ∃ x, x = wr := ⟨_, rfl⟩
        go_upto_if 54 with fail
        go_cut [13] (fun v13 wx => (v13 = .pointer (some ⟨gp, 0, none⟩) ∨ v13 = .pointer (some ⟨gq, 0, none⟩)) ∧ wx = w4)
        case first =>
          go_wp2_with fail
          all_goals
            go_meet
            first | exact ⟨.inl rfl, rfl⟩ | exact ⟨.inr rfl, rfl⟩
        obtain ⟨hof, rfl⟩ := hcut
        obtain ⟨w5, rfl⟩ : ∃ x, x = wc := ⟨_, rfl⟩
        rcases hof with rfl | rfl
        · have HST := hide (Two.step HD.out (kd i) (hh i) (q i) (ba i) (bc i) (b i) HBI.out.1 HNB.out HBI.out.2 hbl hqi (by omega))
          go_wp2_with fail
          refine HST.out.mono ?_
          rintro e w6 ⟨rfl, ht6, hb6⟩
          have HLK := hide ht6.looks
          have HB6 := hide (HBE.out.trans hb6)
          clear HST ht6 hb6 c0 c1 c2 c3 HBI HNB HD
          go_wp2_with fail
          refine HLK.out.mono ?_
          rintro e w7 ⟨rfl, ht7, hb7⟩
          have HB7 := hide (HB6.out.trans (hb7.mono HB6.out.size))
          have HT7 := hide ht7
          clear HLK ht7 hb7 HB6
          go_wp2_with fail
          go_roundw
          case rel => exact ⟨i + 1, by omega, by omega, by go_num, HB7, HT7.out⟩
          case measure => simp [intOf]; omega
        · have HST := hide (Two.step HD.out.flip (kd i) (hh i) (q i) (ba i) (bc i) (b i) HBI.out.1 HNB.out HBI.out.2 hbl hqi (by omega))
          go_wp2_with fail
          refine HST.out.mono ?_
          rintro e w6 ⟨rfl, ht6, hb6⟩
          have HLK := hide ht6.looks
          have HB6 := hide (HBE.out.trans hb6)
          clear HST ht6 hb6 c0 c1 c2 c3 HBI HNB HD
          go_wp2_with fail
          refine HLK.out.mono ?_
          rintro e w7 ⟨rfl, ht7, hb7⟩
          have HB7 := hide (HB6.out.trans (hb7.mono HB6.out.size))
          have HT7 := hide ht7
          clear HLK ht7 hb7 HB6
          go_wp2_with fail
          go_roundw
          case rel => exact ⟨i + 1, by omega, by omega, by go_num, HB7, HT7.out.flip⟩
          case measure => simp [intOf]; omega
      · by_cases hl3 : i < n
        · have e1 : (i : Int) < (n : Int) := by omega
          have e2 : ¬ (i : Int) < 400 := by omega
          go_wp2_with fail
          go_meet
          exact HBE
        · have e1 : ¬ (i : Int) < (n : Int) := by omega
          go_wp2_with fail
          go_meet
          exact HBE
  go_wp2_with fail
  go_ret
  exact ⟨rfl, hcut.out⟩
end Go.Proofs.Ytmceoelafmlpjaa
