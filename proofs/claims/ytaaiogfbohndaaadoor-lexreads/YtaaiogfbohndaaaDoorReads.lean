/-
  LexReads: the walk.
-/
import Derived.Test.YtaaiogfbohndaaaDoorKep
import Derived.Test.YtaaiogfbohndaaaDoorLok
import Derived.Test.YtaaiogfbohndaaaDoorSam
import Derived.Test.YtaaiogfbohndaaaDoorShown
namespace Go.Proofs.YtaaiogfbohndaaaDoor
open Go.RowKit
set_option maxRecDepth 1000000
theorem lex_good (s : ByteArray) (l : List Tk) (hs : s.size ≤ 8000) (hl : lexS s = .ok l) (w : World) (hw : Wd w) : Calls Tryd.prog 9 #[.string s] w fun e w' => Below w.heap.size w w' ∧ Wd w' ∧ ∃ v, e = .returned (.tuple #[v, .nilIface]) ∧ l.length ≤ 8001 ∧ w'.ownsRow w.heap.size 48 3 v l.length (tz s l) := by
  refine (lex_any s w hw).mono ?_
  rintro e w' ⟨h1, h2, ⟨l', v, h3, h4, h5, rfl, h6⟩ | ⟨a, N, er, h3 | h3, _⟩⟩
  · rw [hl] at h4
    injection h4 with h4
    subst h4
    exact ⟨h1, h2, v, rfl, h5, h6⟩
  · rw [hl] at h3; cases h3.2.1
  · omega
/-- What is no program's source: where, and why. -/
def Bad (s : ByteArray) (at1 er : Nat) : Prop := (s.size ≤ 8000 ∧ lexS s = .no at1 ∧ er = 90) ∨ (8000 < s.size ∧ at1 = 8000 ∧ er = 102)
theorem lex_two (s : ByteArray) : (∃ l, s.size ≤ 8000 ∧ lexS s = .ok l) ∨ ∃ at1 er, Bad s at1 er := by
  by_cases h : s.size ≤ 8000
  · cases hl : lexS s with
    | ok l => exact .inl ⟨l, h, rfl⟩
    | no a => exact .inr ⟨a, 90, .inl ⟨h, hl, rfl⟩⟩
  · exact .inr ⟨8000, 102, .inr ⟨by omega, rfl, rfl⟩⟩
theorem lex_bad (s : ByteArray) (at1 er : Nat) (hb : Bad s at1 er) (w : World) (hw : Wd w) : Calls Tryd.prog 9 #[.string s] w fun e w' => Below w.heap.size w w' ∧ Wd w' ∧ ∃ N, e = .returned (.tuple #[.slice none 0 0, .iface 32 (.pointer (some ⟨N, 0, none⟩))]) ∧ w.heap.size ≤ N ∧
    w'.heap[N]? = some (.cells #[.int .i64 (at1 : Nat), .int .i64 (er : Nat)] 36 (0, 0)) := by
  refine (lex_any s w hw).mono ?_
  rintro e w' ⟨h1, h2, ⟨l', v, h3, h4, h5, rfl, h6⟩ | ⟨a, N, er2, h3, rfl, h4, h5⟩⟩
  · rcases hb with ⟨_, q, _⟩ | ⟨q, _⟩
    · rw [h4] at q; cases q
    · omega
  · refine ⟨h1, h2, N, rfl, h4, ?_⟩
    rcases hb with ⟨p1, p2, rfl⟩ | ⟨p1, rfl, rfl⟩ <;> rcases h3 with ⟨q1, q2, rfl⟩ | ⟨q1, rfl, rfl⟩
    · rw [p2] at q2
      injection q2 with q2
      rw [q2]
      exact h5
    · omega
    · omega
    · exact h5
/-- Blocks of the call's own, so far. -/
def Rg (w wr : World) : Nat → Prop := fun k => w.heap.size ≤ k ∧ k < wr.heap.size
section
variable {w wr w1 w2 : World} {vk v : Value} {hs : List (Value × Nat)}
theorem below_two (h : Below w.heap.size w wr) (h2 : Below wr.heap.size wr w1) : Below w.heap.size w w1 := h.trans (h2.mono h.size)
theorem Kept.on (h : Kept wr (Rg w wr) vk hs) (hb : Below wr.heap.size wr w1) : Kept w1 (Rg w wr) vk hs := h.later hb
end
set_option maxHeartbeats 16000000 in
theorem reads_walk (n : Nat) (ao : Option Addr) (cap : Nat) (w : World) (hw : Wd w) (_hcap : n ≤ 9223372036854775807)
    (hc : ∀ i, i < n → ∃ a, ao = some a ∧ ∃ s : ByteArray, w.cell? (a.add i) = some (.string s)) :
    Calls Tryd.prog 3 #[.slice ao n cap] w fun e w' => e = .returned (.bool true) ∧ Below w.heap.size w w' := by
  have HC := hide hc
  have HW := hide hw
  clear hc
  go_enter Tryd.func3, Tryd.ntmps3
  go_wp2_with (go_at_call 8; refine (shown_any w hw).mono ?_; rintro e w1 ⟨rfl, hb1, hw1⟩)
  have HB1 := hide hb1
  clear hb1 hw1 hw
  go_loopg [4, 5] 50 (fun q v4 v5 wr => ∃ (i : Nat) (hs : List (Value × Nat)), q = 50 - i ∧ i ≤ 50 ∧ v5 = .int .i64 (i : Int) ∧ Hid (hs.length = 8 * i) ∧ Hid (Below w.heap.size w wr) ∧ Hid (Kept wr (Rg w wr) v4 hs))
  case atStart => exact ⟨0, [], rfl, by omega, rfl, rfl, HB1, Kept.nil _ _⟩
  case round =>
    obtain ⟨i, hs, hq, hi, rfl, HL, HB, HK⟩ := hrel
    clear HB1
    by_cases hlt : i < n
    · by_cases hlt2 : i < 50
      · have e1 : (i : Int) < (n : Int) := by omega
        have e2 : (i : Int) < 50 := by omega
        obtain ⟨a, rfl, s, hcell⟩ := HC.out i hlt
        have hg := World.block_lt_of_cell? _ _ hcell
        have hwr : Wd wr := HW.out.below HW.out.lt HB.out
        have c0 : wr.cell? (a.add i) = some (.string s) := (HB.out.cell (p := a.add i) hg).trans hcell
        have HG := hide hg
        clear hcell hg
        rcases lex_two s with ⟨l, hs1, hs2⟩ | ⟨at1, er, hbad⟩
        · have c9 := lex_good s l hs1 hs2
          clear HC
          go_upto_region 7 with (go_at_call 9; refine (c9 _ hwr).mono ?_; rintro e w1 ⟨hb1, hw1, v1, rfl, hl1, ho1⟩)
          have c1 : w1.cell? (a.add i) = some (.string s) := (hb1.cell (p := a.add i) (World.block_lt_of_cell? _ _ c0)).trans c0
          go_upto_region 8 with (go_at_call 9; refine (c9 _ hw1).mono ?_; rintro e w2 ⟨hb2, hw2, v2, rfl, _, ho2⟩)
          have c2 : w2.cell? (a.add i) = some (.string s) := (hb2.cell (p := a.add i) (World.block_lt_of_cell? _ _ c1)).trans c1
          have ho1' := own_later ho1 hb2
          have s1 := same_any s w2 v1 .nilIface (.inl ⟨l, hs1, hs2, hl1, rfl, own_zero ho1'⟩)
          clear c9
          go_upto_region 9 with (go_at_call 10; refine s1.mono ?_; rintro e w3 ⟨rfl, hb3⟩)
          have ta := ta_nil
          have hsz1 := hb1.size
          have hsz2 := hb2.size
          have hsz3 := hb3.size
          have hsz0 := HB.out.size
          have hL := HL.out
          have hk3 : Kept w3 (Rg w wr) u4 hs := ((HK.out.on hb1).later hb2).later hb3
          have hx1 : ∀ g, v1.ownBlock = some g → wr.heap.size ≤ g ∧ g < w1.heap.size := fun g e => ho1.lt g e
          have hx2 : ∀ g, v2.ownBlock = some g → w1.heap.size ≤ g ∧ g < w2.heap.size := fun g e => ho2.lt g e
          have k1 := keep_any (Rg w wr) l.length u4 v1 hs (tz s l) w3 hk3 (by omega) (own_zero (own_later ho1' hb3)) (by omega) (fun g e hx => by have := (hx1 g e).1; have := hx.2; omega)
          have HK3 := hide hk3
          have HX1 := hide hx1
          have HX2 := hide hx2
          have HO2 := hide (own_later ho2 hb3)
          have HB3 := hide (below_two (below_two (below_two HB.out hb1) hb2) hb3)
          have HS1 := hide hs1
          have HS2 := hide hs2
          clear hs1 hs2
          have c3 : w3.cell? (a.add i) = some (.string s) := (hb3.cell (p := a.add i) (World.block_lt_of_cell? _ _ c2)).trans c2
          clear hk3 hx1 hx2 ho1 ho2 ho1' s1 hb1 hb2 hb3 c0 c1 c2 hwr hw1 hw2 HK
          go_upto_region 12 with (go_at_call 11; refine k1.mono ?_; rintro e w4 ⟨vk4, hs4, rfl, hl4, hk4, hm4⟩)
          have hb4 : Below w.heap.size w w4 := hm4.below HB3.out HB3.out.size (fun k hk e => by
            rcases e with e | e
            · have := (HX1.out k e).1; omega
            · have := (HK3.out.2.1 k e).1; omega)
          have c4 : w4.cell? (a.add i) = some (.string s) := by
            have hg := HG.out
            have h3 := (HB3.out.cell (p := a.add i) hg)
            have h4 := (hb4.cell (p := a.add i) hg)
            rw [h4, ← h3]
            exact c3
          have ho4 : w4.ownsRow w1.heap.size 48 3 v2 l.length (tz s l) := hm4.own HO2.out (fun g e e' => by
            have := (HX2.out g e).1
            rcases e' with e' | e'
            · have := (HX1.out g e').2; omega
            · have := (HK3.out.2.1 g e').2; omega)
          have s2 := same_any s w4 v2 .nilIface (.inl ⟨l, HS1.out, HS2.out, hl1, rfl, own_zero ho4⟩)
          have HB4 := hide hb4
          have HO4 := hide ho4
          have HK4 := hide hk4
          have hsz4 := hm4.2.2.2.1
          clear hb4 ho4 hk4 hm4 k1 c3
          go_upto_region 17 with (go_at_call 10; refine s2.mono ?_; rintro e w5 ⟨rfl, hb5⟩)
          have hsz5 := hb5.size
          have hk5 := HK4.out.later hb5
          have k2 := keep_any _ l.length vk4 v2 hs4 (tz s l) w5 hk5 (by omega) (own_zero (own_later HO4.out hb5)) (by omega) (fun g e hx => by
            have := HX2.out g e
            rcases hx with hx | hx | hx
            · have := hx.2; omega
            · have := HX1.out g hx; omega
            · omega)
          have HK5 := hide hk5
          have HB5 := hide (below_two HB4.out hb5)
          clear hk5 hb5 s2 c4
          go_upto_region 20 with (go_at_call 11; refine k2.mono ?_; rintro e w6 ⟨vk6, hs6, rfl, hl6, hk6, hm6⟩)
          have hb6 : Below w.heap.size w w6 := hm6.below HB5.out HB5.out.size (fun k hk e => by
            rcases e with e | e
            · have := (HX2.out k e).1; omega
            · rcases HK5.out.2.1 k e with h | h | h
              · have := h.1; omega
              · have := (HX1.out k h).1; omega
              · omega)
          have hk7 : Kept w6 (Rg w w6) vk6 hs6 := hk6.wider (fun k hk hx => by
            refine ⟨?_, hk⟩
            rcases hx with (hx | hx | hx) | hx | hx
            · exact hx.1
            · have := (HX1.out k hx).1; omega
            · omega
            · have := (HX2.out k hx).1; omega
            · omega)
          have lk := looks_any _ vk6 hs6 w6 hk7 (by omega)
          have HB6 := hide hb6
          have HK7 := hide hk7
          clear hb6 hk6 hm6 hk7 k2
          go_wp2_with (go_at_call 12; refine lk.mono ?_; rintro e w7 ⟨rfl, d, rfl⟩)
          go_roundg (50 - (i + 1))
          case measure => omega
          case rel => exact ⟨i + 1, hs6, rfl, by omega, by simp, by simp only [Hid]; omega, below_two HB6.out (below_drewN w6 d), HK7.out.later (below_drewN w6 d)⟩
        · have c9 := lex_bad s at1 er hbad
          clear HC
          go_upto_region 7 with (go_at_call 9; refine (c9 _ hwr).mono ?_; rintro e w1 ⟨hb1, hw1, N1, rfl, hn1, ho1⟩)
          have c1 : w1.cell? (a.add i) = some (.string s) := (hb1.cell (p := a.add i) (World.block_lt_of_cell? _ _ c0)).trans c0
          go_upto_region 8 with (go_at_call 9; refine (c9 _ hw1).mono ?_; rintro e w2 ⟨hb2, hw2, N2, rfl, hn2, ho2⟩)
          have c2 : w2.cell? (a.add i) = some (.string s) := (hb2.cell (p := a.add i) (World.block_lt_of_cell? _ _ c1)).trans c1
          have hN1 : N1 < w1.heap.size := (Array.getElem?_eq_some_iff.1 ho1).1
          have hN2 : N2 < w2.heap.size := (Array.getElem?_eq_some_iff.1 ho2).1
          have ho1' := (hb2.block N1 hN1).trans ho1
          have s1 := same_any s w2 (.slice none 0 0) (.iface 32 (.pointer (some ⟨N1, 0, none⟩))) (.inr ⟨at1, N1, er, hbad, rfl, rfl, ho1'⟩)
          clear c9
          go_upto_region 9 with (go_at_call 10; refine s1.mono ?_; rintro e w3 ⟨rfl, hb3⟩)
          have ta := ta_fault (.pointer (some ⟨N1, 0, none⟩))
          have hsz1 := hb1.size
          have hsz2 := hb2.size
          have hsz3 := hb3.size
          have hsz0 := HB.out.size
          have hL := HL.out
          have hk3 : Kept w3 (Rg w wr) u4 hs := ((HK.out.on hb1).later hb2).later hb3
          have k1 := keep_any (Rg w wr) 0 u4 (.slice none 0 0) hs [] w3 hk3 (by omega) (World.ownsRow_nil _ _ _ _) (by omega) (fun g e => (by cases e))
          have HK3 := hide hk3
          have HO1 := hide ((hb3.block N1 (by omega)).trans ho1')
          have HO2 := hide ((hb3.block N2 hN2).trans ho2)
          have HB3 := hide (below_two (below_two (below_two HB.out hb1) hb2) hb3)
          have HBAD := hide hbad
          have c3 : w3.cell? (a.add i) = some (.string s) := (hb3.cell (p := a.add i) (World.block_lt_of_cell? _ _ c2)).trans c2
          clear hk3 ho1 ho2 ho1' s1 hb1 hb2 hb3 c0 c1 c2 hwr hw1 hw2 HK hbad
          go_upto_region 12 with (go_at_call 11; refine k1.mono ?_; rintro e w4 ⟨vk4, hs4, rfl, hl4, hk4, hm4⟩)
          have hvk : ∀ k, u4.ownBlock = some k → w.heap.size ≤ k ∧ k < wr.heap.size := fun k e => HK3.out.2.1 k e
          have hb4 : Below w.heap.size w w4 := hm4.below HB3.out HB3.out.size (fun k hk e => by
            rcases e with e | e
            · cases e
            · have := (hvk k e).1; omega)
          have c4 : w4.cell? (a.add i) = some (.string s) := by
            have hg := HG.out
            have h3 := (HB3.out.cell (p := a.add i) hg)
            have h4 := (hb4.cell (p := a.add i) hg)
            rw [h4, ← h3]
            exact c3
          have hx1 : w4.heap[N1]? = some (.cells #[.int .i64 (at1 : Nat), .int .i64 (er : Nat)] 36 (0, 0)) := (hm4.2.2.2.2 N1 (by omega) (fun e => by
            rcases e with e | e
            · cases e
            · have := (hvk N1 e).2; omega)).trans HO1.out
          have hx2 : w4.heap[N2]? = some (.cells #[.int .i64 (at1 : Nat), .int .i64 (er : Nat)] 36 (0, 0)) := (hm4.2.2.2.2 N2 (by omega) (fun e => by
            rcases e with e | e
            · cases e
            · have := (hvk N2 e).2; omega)).trans HO2.out
          have y0 : w4.cell? ⟨N1, 0, none⟩ = some (.int .i64 (at1 : Nat)) := (cell_of_row _ _ 0 _ 36 (0, 0) hx1).trans rfl
          have y1 : w4.cell? ⟨N1, 1, none⟩ = some (.int .i64 (er : Nat)) := (cell_of_row _ _ 1 _ 36 (0, 0) hx1).trans rfl
          have z0 : w4.frozen? ⟨N1, 0, none⟩ = false := frozen_of_row _ _ 0 _ 36 hx1
          have z1 : w4.frozen? ⟨N1, 1, none⟩ = false := frozen_of_row _ _ 1 _ 36 hx1
          have hsz4 := hm4.2.2.2.1
          have hgn : (a.add i).block ≠ N1 := by have := HG.out; omega
          have hmm : Mv w4 ((w4.setCell ⟨N1, 0, none⟩ (.int .i64 (-7))).setCell ⟨N1, 1, none⟩ (.int .i64 7)) (fun k => k = N1) := (Mv.set w4 N1 0 _).trans (Mv.set _ N1 1 _) (fun _ _ e => e)
          have hk4' := hk4.frame hmm (fun k hx e => by
            subst e
            rcases hx with hx | hx | hx
            · have := hx.2; omega
            · cases hx
            · omega)
          have hb4' := hmm.below hb4 hb4.size (fun k hk e => by omega)
          have hx2' := (hmm.2.2.2.2 N2 (by omega) (fun e => by omega)).trans hx2
          have c5 : ((w4.setCell ⟨N1, 0, none⟩ (.int .i64 (-7))).setCell ⟨N1, 1, none⟩ (.int .i64 7)).cell? (a.add i) = some (.string s) := (World.cell?_of_block (hmm.2.2.2.2 _ (World.block_lt_of_cell? _ _ c4) hgn)).trans c4
          have hszm := hmm.2.2.2.1
          have HZ := hide (And.intro hk4' (And.intro hb4' (And.intro hx2' (And.intro c5 hszm))))
          clear hk4 hb4 hx1 hx2 hmm hm4 k1 c3 hk4' hb4' hx2' c5 hszm hvk c4
          go_upto_region 16 with fail
          obtain ⟨hk4', hb4', hx2', c5, hszm⟩ := HZ.out
          clear HZ
          generalize (w4.setCell ⟨N1, 0, none⟩ (.int .i64 (-7))).setCell ⟨N1, 1, none⟩ (.int .i64 7) = w5 at *
          have s2 := same_any s w5 (.slice none 0 0) (.iface 32 (.pointer (some ⟨N2, 0, none⟩))) (.inr ⟨at1, N2, er, HBAD.out, rfl, rfl, hx2'⟩)
          have HB4 := hide hb4'
          have HK4 := hide hk4'
          clear hb4' hk4' hx2' y0 y1 z0 z1
          go_upto_region 17 with (go_at_call 10; refine s2.mono ?_; rintro e w6 ⟨rfl, hb5⟩)
          have hsz5 := hb5.size
          have hk5 := HK4.out.later hb5
          have k2 := keep_any _ 0 vk4 (.slice none 0 0) hs4 [] w6 hk5 (by omega) (World.ownsRow_nil _ _ _ _) (by omega) (fun g e => (by cases e))
          have HK5 := hide hk5
          have HB5 := hide (below_two HB4.out hb5)
          clear hk5 hb5 s2 c5
          go_upto_region 20 with (go_at_call 11; refine k2.mono ?_; rintro e w7 ⟨vk6, hs6, rfl, hl6, hk6, hm6⟩)
          have hb6 : Below w.heap.size w w7 := hm6.below HB5.out HB5.out.size (fun k hk e => by
            rcases e with e | e
            · cases e
            · rcases HK5.out.2.1 k e with h | h | h
              · have := h.1; omega
              · cases h
              · omega)
          have hk7 : Kept w7 (Rg w w7) vk6 hs6 := hk6.wider (fun k hk hx => by
            refine ⟨?_, hk⟩
            rcases hx with (hx | hx | hx) | hx | hx
            · exact hx.1
            · cases hx
            · omega
            · cases hx
            · omega)
          have lk := looks_any _ vk6 hs6 w7 hk7 (by omega)
          have HB6 := hide hb6
          have HK7 := hide hk7
          clear hb6 hk6 hm6 hk7 k2
          go_wp2_with (go_at_call 12; refine lk.mono ?_; rintro e w8 ⟨rfl, d, rfl⟩)
          go_roundg (50 - (i + 1))
          case measure => omega
          case rel => exact ⟨i + 1, hs6, rfl, by omega, by simp, by simp only [Hid]; omega, below_two HB6.out (below_drewN w7 d), HK7.out.later (below_drewN w7 d)⟩
      · have e1 : (i : Int) < (n : Int) := by omega
        have e2 : ¬ (i : Int) < 50 := by omega
        go_wp2_with fail
        go_ret
        exact ⟨rfl, HB.out⟩
    · have e1 : ¬ (i : Int) < (n : Int) := by omega
      go_wp2_with fail
      go_ret
      exact ⟨rfl, HB.out⟩
end Go.Proofs.YtaaiogfbohndaaaDoor
