/-
  Plan's law: given, made.
-/
import Derived.Test.YthgjdmomcpcolaaGn
namespace Go.Proofs.Ythgjdmomcpcolaa
open Go.RowKit
set_option maxRecDepth 100000
/-- While the owner writes over what it lent. -/
def Gf (w wn w5 : World) (gp g3 c3 : Nat) (vw : Value) (yw : List Yc) (l : List Sy) (i : Nat) (W : World) : Prop :=
  ∃ ys : List Yc, ys.length = (trs l).length + 8 ∧ Gb W w.heap.size (.slice (some ⟨g3, 0, none⟩) ((trs l).length + 8) c3) ys (trs l) i (trs l).length ∧ (∀ k (h : k < ys.length), i ≤ k → k < (trs l).length → ∀ q, ys[k].2.2.1.ownBlock = some q ∨ ys[k].2.2.2.ownBlock = some q → q < wn.heap.size) ∧ g3 < wn.heap.size ∧ Pl W wn.heap.size gp ((trs l).map setS) ∧ Yo W w5.heap.size vw yw (trs l) ∧ Below w.heap.size w W
theorem Gb.past {W : World} {N : Nat} {v : Value} {ys : List Yc} {L : List Sy} (h : Gb W N v ys L L.length L.length) (a : Nat) (ha : L.length ≤ a) : Gb W N v ys L a L.length := by
  obtain ⟨h1, h2, h3, h4, h5, h6, h7⟩ := h
  exact ⟨h1, h2, fun k _ _ _ h => by omega, fun k k' _ _ _ _ h => by omega, h5, fun k _ _ h => by omega, h7⟩
theorem Gf.past {w wn w5 : World} {gp g3 c3 : Nat} {vw : Value} {yw : List Yc} {l : List Sy} {i : Nat} {W : World} (h : Gf w wn w5 gp g3 c3 vw yw l i W) (hi : (trs l).length ≤ i) : Gf w wn w5 gp g3 c3 vw yw l (i + 1) W := by
  obtain ⟨ys, h1, ⟨g1, g2, g3', g4, g5, g6, g7⟩, h3, h4⟩ := h
  exact ⟨ys, h1, ⟨g1, g2, fun k _ _ _ h => by omega, fun k k' _ _ _ _ h => by omega, g5, fun k _ _ h => by omega, g7⟩, fun k _ _ h => by omega, h4⟩
/-- The plan's systems. -/
def sysL (l : List Sy) : List Sy := (trs l).map setS
set_option maxHeartbeats 16000000 in
theorem given_any {w : World} {v : Value} {l : List Sy} (h : Sa w v l) : Calls Try.prog 7 #[v] w fun e w' => ∃ g, e = .returned (.pointer (some ⟨g, 0, none⟩)) ∧ Pl w' w.heap.size g (sysL l) ∧ Below w.heap.size w w' := by
  have H := hide h
  have JS := hide (systems_any h)
  obtain ⟨ao, c, vs0, rfl, hc1, hc2, -⟩ := h
  obtain ⟨i0, hi0, hz0, hz1, hz2⟩ := info_parts info56
  have HLN : Hid ((trs l).length ≤ 200) := by unfold Hid; rw [trs_len]; omega
  go_enter Try.func7, Try.ntmps7
  go_wp2_with fail
  refine JS.out.mono ?_
  rintro e w1 ⟨v1, ys, rfl, h1, b1⟩
  have hyl := h1.2.1
  obtain ⟨a1, c1, rfl⟩ := own_len h1.1
  rw [hyl]
  have G0 : Hid (∃ ys : List Yc, ys.length = (trs l).length ∧ Gb w1 w.heap.size (.slice a1 (trs l).length c1) ys (trs l) 0 0 ∧ Below w.heap.size w w1) := ⟨ys, hyl, hyl ▸ Gb.of h1, b1⟩
  clear h1 b1 JS hyl
  go_wp2_with fail
  go_loopw [5] (fun v5 W => ∃ i : Nat, i ≤ (trs l).length ∧ v5 = .int .i64 (i : Int) ∧ Hid (∃ ys : List Yc, ys.length = (trs l).length ∧ Gb W w.heap.size (.slice a1 (trs l).length c1) ys (trs l) 0 i ∧ Below w.heap.size w W)) (fun v5 _ => (trs l).length - (intOf v5).toNat)
  case atStart => exact ⟨0, Nat.zero_le _, rfl, G0.out⟩
  case round =>
    obtain ⟨i, hi, rfl, HG⟩ := hrel
    clear G0
    obtain ⟨ys, hyl, hG, hB⟩ := HG.out
    by_cases hlt : i < (trs l).length
    · have t1 : (i : Int) < ((trs l).length : Int) := by omega
      have hiy : i < ys.length := by omega
      obtain ⟨gv, cv', e0, hd1, hd2⟩ := own_form hG.1 (by omega)
      simp only [Value.slice.injEq] at e0
      obtain ⟨rfl, -, rfl⟩ := e0
      have hAc := hG.2.2.2.2.1 i hiy hlt (Nat.le_refl _)
      have hrow : wr.ownsRow w.heap.size 56 8 (.slice (some ⟨gv, 0, none⟩) (trs l).length c1) (trs l).length (yc ys) := by
        have := hG.1
        rw [hyl] at this
        exact this
      have hcell : ∀ k, k < 8 → wr.cell? ⟨gv, i * 8 + k, none⟩ = (y8 ys[i])[k]? := fun k hk => by
        rw [hrow.cellAt (i * 8 + k) (by omega), yc_at ys i hiy k hk]
      have p2 := hcell 2 (by omega)
      have p3 := hcell 3 (by omega)
      simp only [y8, List.getElem?_cons_zero, List.getElem?_cons_succ] at p2 p3
      obtain ⟨y, hy⟩ : ∃ y, y = ys[i] := ⟨_, rfl⟩
      rw [← hy] at p2 p3 hAc
      obtain ⟨yw, yo, yr, yx⟩ := y
      dsimp only at p2 p3 hAc
      have JA := hide (listed_any (Rl.of hAc.1) hAc.2.2.2.2.1)
      obtain ⟨x1, z1, rfl⟩ := own_len hAc.1
      obtain ⟨x2, z2, rfl⟩ := own_len hAc.2.1
      have fz : ∀ W, Below wr.heap.size wr W → W.frozen? ⟨gv, i * 8 + 2, none⟩ = false ∧ W.cell? ⟨gv, i * 8 + 2, none⟩ = some (.slice x1 (trs l)[i].1.length z1) ∧ W.cell? ⟨gv, i * 8 + 3, none⟩ = some (.slice x2 (trs l)[i].2.length z2) := fun W hW => ⟨(own_later hrow hW).frozenAt _, (World.cell?_of_block (hW.block gv (World.block_lt_of_cell? wr _ p2))).trans p2, (World.cell?_of_block (hW.block gv (World.block_lt_of_cell? wr _ p3))).trans p3⟩
      have FZ := hide fz
      have HAC := hide hAc
      have HY := hide hy
      have HG' : Hid (Gb wr w.heap.size (.slice (some ⟨gv, 0, none⟩) (trs l).length c1) ys (trs l) 0 i ∧ Below w.heap.size w wr) := ⟨hG, hB⟩
      clear hG hB hcell fz hAc hrow
      go_wp2_with fail
      refine JA.out.mono ?_
      rintro e w2 ⟨v2, rfl, h2, b2⟩
      obtain ⟨f1, f2, f3⟩ := FZ.out w2 b2
      obtain ⟨a2, c2, e2⟩ : ∃ a c, v2 = .slice a (trs l)[i].1.length c := by
        obtain ⟨g, c, e, -⟩ := h2
        exact ⟨_, _, e⟩
      subst e2
      have hb2 : Below wr.heap.size wr (w2.setCell ⟨gv, i * 8 + 2, none⟩ (.slice a2 (trs l)[i].1.length c2)) → True := fun _ => trivial
      clear hb2
      have hgv : gv < w2.heap.size := World.block_lt_of_cell? w2 _ f2
      -- the second row, as it lies behind the first store
      have mv2 : Mv wr (w2.setCell ⟨gv, i * 8 + 2, none⟩ (.slice a2 (trs l)[i].1.length c2)) (fun q => q = gv) := (Mv.of_below b2 (fun q => q = gv)).set (g := gv) rfl _ _
      have hw3 : Rw (w2.setCell ⟨gv, i * 8 + 2, none⟩ (.slice a2 (trs l)[i].1.length c2)) w.heap.size (.slice x2 (trs l)[i].2.length z2) (trs l)[i].2 := mv2.own HAC.out.2.1 (fun q hq e => own_apart HG'.out.1.1 HAC.out.2.1 (by decide) q (by rw [e]; rfl) hq)
      have JB := hide (listed_any (Rl.of hw3) HAC.out.2.2.2.2.2)
      have q3 : (w2.setCell ⟨gv, i * 8 + 2, none⟩ (.slice a2 (trs l)[i].1.length c2)).cell? ⟨gv, i * 8 + 3, none⟩ = some (.slice x2 (trs l)[i].2.length z2) := by
        have ho : w2.ownsRow w.heap.size 56 8 (.slice (some ⟨gv, 0, none⟩) ys.length c1) ys.length (yc ys) := by
          have := own_later HG'.out.1.1 b2
          rw [← hyl] at this
          exact this
        have := ((ho.stored (i * 8 + 2) (.slice a2 (trs l)[i].1.length c2)).1).cellAt (i * 8 + 3) (by omega)
        rw [this, List.getElem?_set_ne (by omega), yc_at ys i hiy 3 (by omega), ← hy]
        rfl
      have q4 : ∀ W, Below (w2.setCell ⟨gv, i * 8 + 2, none⟩ (.slice a2 (trs l)[i].1.length c2)).heap.size (w2.setCell ⟨gv, i * 8 + 2, none⟩ (.slice a2 (trs l)[i].1.length c2)) W → W.cell? ⟨gv, i * 8 + 3, none⟩ = some (.slice x2 (trs l)[i].2.length z2) ∧ W.frozen? ⟨gv, i * 8 + 3, none⟩ = false := fun W hW => by
        have ho : (w2.setCell ⟨gv, i * 8 + 2, none⟩ (.slice a2 (trs l)[i].1.length c2)).ownsRow w.heap.size 56 8 (.slice (some ⟨gv, 0, none⟩) ys.length c1) ys.length ((yc ys).set (i * 8 + 2) (.slice a2 (trs l)[i].1.length c2)) := by
          have := own_later HG'.out.1.1 b2
          rw [← hyl] at this
          exact (this.stored (i * 8 + 2) _).1
        exact ⟨(World.cell?_of_block (hW.block gv (by simpa using hgv))).trans q3, (own_later ho hW).frozenAt _⟩
      have Q4 := hide q4
      have HY2 := hide h2
      have HB2 := hide b2
      clear h2 b2 q4 hw3 mv2 hgv JA FZ
      go_wp2_with fail
      refine JB.out.mono ?_
      rintro e w4 ⟨v4, rfl, h4, b4⟩
      obtain ⟨r1, r2⟩ := Q4.out w4 b4
      obtain ⟨a4, c4, e4⟩ : ∃ a c, v4 = .slice a (trs l)[i].2.length c := by
        obtain ⟨g, c, e, -⟩ := h4
        exact ⟨_, _, e⟩
      subst e4
      have HN : Hid (∃ ys : List Yc, ys.length = (trs l).length ∧ Gb (w4.setCell ⟨gv, i * 8 + 3, none⟩ (.slice a4 (trs l)[i].2.length c4)) w.heap.size (.slice (some ⟨gv, 0, none⟩) (trs l).length c1) ys (trs l) 0 (i + 1) ∧ Below w.heap.size w (w4.setCell ⟨gv, i * 8 + 3, none⟩ (.slice a4 (trs l)[i].2.length c4))) := by
        have hg1 : w.heap.size ≤ gv := (HG'.out.1.1.lt gv rfl).1
        refine ⟨_, ?_, HG'.out.1.lend hlt HG'.out.2.size HB2.out HY2.out b4 h4 (yw, yo, .slice x1 (trs l)[i].1.length z1, .slice x2 (trs l)[i].2.length z2) (fun _ => hy.symm), ?_⟩
        · simpa using hyl
        · have m1 : Mv wr (w2.setCell ⟨gv, i * 8 + 2, none⟩ (.slice a2 (trs l)[i].1.length c2)) (fun q => q = gv) := (Mv.of_below HB2.out (fun q => q = gv)).set (g := gv) rfl _ _
          have m4 : Mv wr (w4.setCell ⟨gv, i * 8 + 3, none⟩ (.slice a4 (trs l)[i].2.length c4)) (fun q => q = gv) := (m1.later b4).set (g := gv) rfl _ _
          exact HG'.out.2.trans (m4.below HG'.out.2.size (fun q e => by rw [e]; exact hg1))
      clear h4 b4 HY2 HB2 Q4 JB q3 p2 p3 f1 f2 f3
      go_wp2_with fail
      go_roundw
      case rel => exact ⟨i + 1, by omega, rfl, HN.out⟩
      case measure => simp only [intOf]; omega
    · have t1 : ¬ (i : Int) < ((trs l).length : Int) := by omega
      obtain rfl : i = (trs l).length := by omega
      have G1 : Hid (∃ ys : List Yc, ys.length = (trs l).length + 0 ∧ Gb wr w.heap.size (.slice a1 (trs l).length c1) ys (trs l) 0 (trs l).length ∧ Below w.heap.size w wr) := ⟨ys, hyl, hG, hB⟩
      clear hG hB hyl HG hlt t1 hi
      go_wp2_with fail
      go_loopw [3, 6] (fun v3 v6 W => ∃ j : Nat, j ≤ 8 ∧ v6 = .int .i64 (j : Int) ∧ Hid (∃ ys : List Yc, ys.length = (trs l).length + j ∧ Gb W w.heap.size v3 ys (trs l) 0 (trs l).length ∧ Below w.heap.size w W)) (fun _ v6 _ => 8 - (intOf v6).toNat)
      case atStart => exact ⟨0, by omega, rfl, G1.out⟩
      case round =>
        obtain ⟨j, hj, rfl, HG⟩ := hrel
        clear G1
        obtain ⟨ys, hyl, hG, hB⟩ := HG.out
        by_cases hlt : j < 8
        · have t1 : (j : Int) < 8 := by omega
          obtain ⟨a3, c3, rfl⟩ := own_len hG.1
          have HG' := hide hG
          have HB' := hide hB
          have HYL := hide hyl
          clear hG hB hyl HG
          go_wp2_with (at_builtin; refine wpList_append_own_at _ rfl _ _ 29 rfl w.heap.size 56 i0 (.agg #[.slice none 0 0, .slice none 0 0, .slice none 0 0, .slice none 0 0, .string ByteArray.empty, .int .i64 0, .int .i64 0, .slice none 0 0]) 8 152 Try.underlying29 hi0 hz0 hz1 hz2 rfl (by decide) (.slice a3 ys.length c3) ys.length (yc ys) rfl ?p1 ⟨wr.heap.size + 1, 0, none⟩ 1 1 (y8 (.slice none 0 0, .slice none 0 0, .slice none 0 0, .slice (some ⟨wr.heap.size, 0, none⟩) 3 3)) rfl rfl ?p2 ?p3 ?p4 ?p5 ?p6 ?_)
          case p1 => exact own_later HG'.out.1 (below_on (below_alloc wr _) (below_alloc _ _))
          case p2 =>
            intro k u hk
            rw [WideShapes.add_plain, cell_of_row _ _ _ _ 56 (0, 0) (heap_alloc2_new wr _ _), Nat.zero_add, ← hk]
            simp [y8]
            rfl
          case p3 => exact y8_one ⟨_, _, _, rfl⟩ ⟨_, _, _, rfl⟩ ⟨_, _, _, rfl⟩ ⟨_, _, _, rfl⟩
          case p4 => have := HYL.out; have := HLN.out; unfold maxLen; omega
          case p5 => have := HYL.out; have := HLN.out; omega
          case p6 => have := HB'.out.size; simp; omega
          intro v9 w9 ho9 hg9 _ _
          have HN : Hid (∃ ys : List Yc, ys.length = (trs l).length + (j + 1) ∧ Gb w9 w.heap.size v9 ys (trs l) 0 (trs l).length ∧ Below w.heap.size w w9) := by
            have hb := below_on (below_alloc wr (.cells #[.int .i64 1, .int .i64 2, .int .i64 3] 3)) (below_alloc _ (.cells #[.slice none 0 0, .slice none 0 0, .slice none 0 0, .slice (some ⟨wr.heap.size, 0, none⟩) 3 3, .string ⟨#[]⟩, .int .i64 0, .int .i64 0, .slice none 0 0] 56))
            refine ⟨_, ?_, (HG'.out.later hb).push hg9 ho9, ?_⟩
            · rw [List.length_append, List.length_singleton, HYL.out]
              omega
            · exact (below_on HB'.out hb).grown hg9 (below_on HB'.out hb).size (fun k e => (HG'.out.1.lt k e).1)
          obtain ⟨a9, c9, rfl⟩ := own_len ho9
          clear ho9 hg9
          go_wp2_with fail
          go_roundw
          case rel => exact ⟨j + 1, by omega, rfl, HN.out⟩
          case measure => simp only [intOf]; omega
        · have t1 : ¬ (j : Int) < 8 := by omega
          obtain rfl : j = 8 := by omega
          obtain ⟨wn, rfl⟩ : ∃ X, X = wr := ⟨_, rfl⟩
          obtain ⟨g3, c3, rfl, hd1, hd2⟩ := own_form hG.1 (by omega)
          rw [hyl] at hd1 ⊢
          have t2 : ((trs l).length : Int) ≤ (c3 : Int) := by omega
          have hG8 : Gb wn w.heap.size (.slice (some ⟨g3, 0, none⟩) ((trs l).length + 8) c3) ys (trs l) 0 (trs l).length := hyl ▸ hG
          have JN := hide (new_any (hG8.ys (trs_ok H.out)) (by have := HLN.out; omega))
          have HG8 := hide hG8
          have HB8 := hide hB
          have HYL := hide hyl
          clear hG hG8 hB hyl HG hlt t1 hj
          go_wp2_with fail
          refine JN.out.mono ?_
          rintro e w5 ⟨gp, rfl, hP, b5⟩
          have HP := hide hP
          have B5 := hide b5
          have JW := hide (systems_any (H.out.later (below_on HB8.out b5)))
          clear hP b5 JN
          go_wp2_with fail
          refine JW.out.mono ?_
          rintro e w6 ⟨vw, yw, rfl, hW, b6⟩
          have hwl := hW.2.1
          obtain ⟨aw, cw, rfl⟩ := own_len hW.1
          have hcw := own_cap hW.1
          rw [hwl] at hcw ⊢
          obtain ⟨hcw1, hcw2⟩ := hcw
          have F0 : Hid (Gf w wn w5 gp g3 c3 (.slice aw (trs l).length cw) yw l 0 w6) := by
            have hb := below_on B5.out b6
            refine ⟨ys, HYL.out, HG8.out.later hb, fun k hk _ hk2 q hq => ?_, (HG8.out.1.lt g3 rfl).2, HP.out.later b6, hwl ▸ hW, below_on HB8.out hb⟩
            have := HG8.out.2.2.1 k hk hk2 (Nat.zero_le _) hk2
            rcases hq with hq | hq
            · exact (this.1.lt q hq).2
            · exact (this.2.1.lt q hq).2
          have HSZ : Hid (w.heap.size ≤ wn.heap.size ∧ wn.heap.size ≤ w5.heap.size) := ⟨HB8.out.size, B5.out.size⟩
          clear hW b6 JW HG8 HP B5 HB8 HYL hwl t2
          go_wp2_with fail
          go_loopw [9, 10] (fun v9 v10 W => ∃ i : Nat, i ≤ (trs l).length + 8 ∧ v10 = .int .i64 (i : Int) ∧ v9 = .bool true ∧ Hid (Gf w wn w5 gp g3 c3 (.slice aw (trs l).length cw) yw l i W)) (fun _ v10 _ => (trs l).length + 8 - (intOf v10).toNat)
          case atStart => exact ⟨0, by omega, rfl, rfl, F0.out⟩
          case round =>
            obtain ⟨i, hi, rfl, rfl, HF⟩ := hrel
            clear F0
            obtain ⟨ys, hyl, hG, hBd, hg3, hP, hY, hB⟩ := HF.out
            by_cases hlt : i < (trs l).length + 8
            · have t1 : (i : Int) < ((trs l).length : Int) + 8 := by omega
              have hiy : i < ys.length := by omega
              have hrow : wr.ownsRow w.heap.size 56 8 (.slice (some ⟨g3, 0, none⟩) ((trs l).length + 8) c3) ((trs l).length + 8) (yc ys) := by
                have := hG.1
                rw [hyl] at this
                exact this
              have hcell : ∀ k, k < 8 → wr.cell? ⟨g3, i * 8 + k, none⟩ = (y8 ys[i])[k]? := fun k hk => by
                rw [hrow.cellAt (i * 8 + k) (by omega), yc_at ys i hiy k hk]
              have p0 := hcell 0 (by omega)
              have p1 := hcell 1 (by omega)
              have p2 := hcell 2 (by omega)
              have p3 := hcell 3 (by omega)
              by_cases hin : (trs l).length ≤ i
              · have t2 : (i : Int) ≥ ((trs l).length : Int) := by omega
                obtain ⟨aq, cq, eq⟩ := hG.2.2.2.2.2.2 i hiy hin
                rw [eq] at p0 p1 p2 p3
                simp only [y8, List.getElem?_cons_zero, List.getElem?_cons_succ] at p0 p1 p2 p3
                have HN := hide (HF.out.past hin)
                clear hG hBd hg3 hP hY hB hrow hcell HF
                go_wp2_with fail
                go_roundw
                case rel => exact ⟨i + 1, by omega, rfl, rfl, HN.out⟩
                case measure => simp only [intOf]; omega
              · have hil : i < (trs l).length := by omega
                have t2 : ¬ (i : Int) ≥ ((trs l).length : Int) := by omega
                have t3 : (i : Int) < ((trs l).length : Int) := by omega
                obtain ⟨lr, lx, hap⟩ := hG.2.2.1 i hiy hil (Nat.le_refl _) hil
                obtain ⟨⟨ya, yac, ey1⟩, yb, ybc, ey2⟩ := hG.2.2.2.2.2.1 i hiy (Nat.le_refl _) hil
                have hbdi := hBd i hiy (Nat.le_refl _) hil
                simp only [y8, List.getElem?_cons_zero, List.getElem?_cons_succ] at p0 p1 p2 p3
                rw [ey1] at p0
                rw [ey2] at p1
                obtain ⟨y, hy⟩ : ∃ y, y = ys[i] := ⟨_, rfl⟩
                rw [← hy] at p2 p3 lr lx hap hbdi
                have LR := hide lr
                have LX := hide lx
                obtain ⟨gR, cR, eR, hR⟩ := lr
                obtain ⟨gX, cX, eX, hX⟩ := lx
                -- what was
                have hywl := hY.2.1
                have hiw : i < yw.length := by omega
                obtain ⟨gw, cw', e0, -⟩ := own_form hY.1 (by omega)
                simp only [Value.slice.injEq] at e0
                obtain ⟨rfl, -, rfl⟩ := e0
                have hroww : wr.ownsRow w5.heap.size 56 8 (.slice (some ⟨gw, 0, none⟩) (trs l).length cw) (trs l).length (yc yw) := by
                  have := hY.1
                  rw [hywl] at this
                  exact this
                have hcw : ∀ k, k < 8 → wr.cell? ⟨gw, i * 8 + k, none⟩ = (y8 yw[i])[k]? := fun k hk => by
                  rw [hroww.cellAt (i * 8 + k) (by omega), yc_at yw i hiw k hk]
                have o2 := hcw 2 (by omega)
                have o3 := hcw 3 (by omega)
                simp only [y8, List.getElem?_cons_zero, List.getElem?_cons_succ] at o2 o3
                have hAw := hY.2.2.1 i hiw hil
                obtain ⟨u1, d1, eu1⟩ := own_len hAw.1
                obtain ⟨u2, d2, eu2⟩ := own_len hAw.2.1
                rw [eu1] at o2 hAw
                rw [eu2] at o3 hAw
                rw [eR] at p2
                rw [eX] at p3
                have hL1 : (trs l)[i].1.length ≤ 1000 ∧ (trs l)[i].2.length ≤ 1000 := (trs_ok H.out _ (List.getElem_mem hil)).2.2
                have CC : Hid (∀ V, Below wr.heap.size wr V → (V.cell? ⟨g3, i * 8, none⟩ = some (.slice ya 2 yac) ∧ V.cell? ⟨g3, i * 8 + 1, none⟩ = some (.slice yb 1 ybc) ∧ V.cell? ⟨g3, i * 8 + 2, none⟩ = some (.slice (some ⟨gR, 0, none⟩) (trs l)[i].1.length cR) ∧ V.cell? ⟨g3, i * 8 + 3, none⟩ = some (.slice (some ⟨gX, 0, none⟩) (trs l)[i].2.length cX)) ∧ V.cell? ⟨gw, i * 8 + 2, none⟩ = some (.slice u1 (trs l)[i].1.length d1) ∧ V.cell? ⟨gw, i * 8 + 3, none⟩ = some (.slice u2 (trs l)[i].2.length d2)) := fun V hV => ⟨⟨(World.cell?_of_block (hV.block g3 (World.block_lt_of_cell? wr _ p0))).trans p0, (World.cell?_of_block (hV.block g3 (World.block_lt_of_cell? wr _ p1))).trans p1, (World.cell?_of_block (hV.block g3 (World.block_lt_of_cell? wr _ p2))).trans p2, (World.cell?_of_block (hV.block g3 (World.block_lt_of_cell? wr _ p3))).trans p3⟩, (World.cell?_of_block (hV.block gw (World.block_lt_of_cell? wr _ o2))).trans o2, (World.cell?_of_block (hV.block gw (World.block_lt_of_cell? wr _ o3))).trans o3⟩
                have J1 : Hid (∀ V, Below wr.heap.size wr V → Calls Try.prog 24 #[.slice (some ⟨gR, 0, none⟩) (trs l)[i].1.length cR, .slice u1 (trs l)[i].1.length d1] V fun e w' => e = .returned (.bool true) ∧ Below V.heap.size V w') := fun V hV => still_any (B := w.heap.size) ⟨gR, cR, rfl, own_later hR hV⟩ (Rl.of (own_later hAw.1 hV)) hL1.1
                have J2 : Hid (∀ V, Below wr.heap.size wr V → Calls Try.prog 24 #[.slice (some ⟨gX, 0, none⟩) (trs l)[i].2.length cX, .slice u2 (trs l)[i].2.length d2] V fun e w' => e = .returned (.bool true) ∧ Below V.heap.size V w') := fun V hV => still_any (B := w.heap.size) ⟨gX, cX, rfl, own_later hX hV⟩ (Rl.of (own_later hAw.2.1 hV)) hL1.2
                have S0 := hide (CC.out wr (Below.refl _ _))
                have HRX : Hid (Rw wr w.heap.size (.slice (some ⟨gR, 0, none⟩) ((trs l)[i].1 ++ List.replicate 8 77).length cR) ((trs l)[i].1 ++ List.replicate 8 77) ∧ Rw wr w.heap.size (.slice (some ⟨gX, 0, none⟩) ((trs l)[i].2 ++ List.replicate 8 77).length cX) ((trs l)[i].2 ++ List.replicate 8 77) ∧ gR ≠ gX ∧ gR ≠ g3 ∧ gX ≠ g3 ∧ gR < wn.heap.size ∧ gX < wn.heap.size) := by
                  refine ⟨hR, hX, fun e => hap gR (by rw [eR]; rfl) (by rw [eX, e]; rfl), fun e => own_apart hG.1 hR (by decide) g3 rfl (by rw [← e]; rfl), fun e => own_apart hG.1 hX (by decide) g3 rfl (by rw [← e]; rfl), hbdi gR (.inl (by rw [eR]; rfl)), hbdi gX (.inr (by rw [eX]; rfl))⟩
                have HTT : Hid (∀ h : i < ys.length, ys[i].2.2.1.ownBlock = some gR ∧ ys[i].2.2.2.ownBlock = some gX) := fun h => by rw [← hy, eR, eX]; exact ⟨rfl, rfl⟩
                have HFX := hide (And.intro hyl (And.intro hG (And.intro hBd (And.intro hg3 (And.intro hP (And.intro hY hB))))))
                clear hG hBd hg3 hP hY hB hrow hcell hroww hcw hAw hap hbdi hR hX eR eX ey1 ey2 hy LR LX eu1 eu2 hL1
                clear p0 p1 p2 p3 o2 o3
                obtain ⟨⟨p0, p1, p2, p3⟩, o2, o3⟩ := S0.out
                go_wp2_with fail
                have hs := S0.out
                go_region_held3 (fun V => (V.cell? ⟨g3, i * 8, none⟩ = some (.slice ya 2 yac) ∧ V.cell? ⟨g3, i * 8 + 1, none⟩ = some (.slice yb 1 ybc) ∧ V.cell? ⟨g3, i * 8 + 2, none⟩ = some (.slice (some ⟨gR, 0, none⟩) (trs l)[i].1.length cR) ∧ V.cell? ⟨g3, i * 8 + 3, none⟩ = some (.slice (some ⟨gX, 0, none⟩) (trs l)[i].2.length cX)) ∧ V.cell? ⟨gw, i * 8 + 2, none⟩ = some (.slice u1 (trs l)[i].1.length d1) ∧ V.cell? ⟨gw, i * 8 + 3, none⟩ = some (.slice u2 (trs l)[i].2.length d2)) (first | exact S0.out | exact S7) ((go_at_call 24; refine (J1.out _ (below_drew wr)).mono ?_; rintro e w7 ⟨rfl, b7⟩; have B7 := hide (below_on (below_drew wr) b7); have S7 := CC.out w7 B7.out; clear b7))
                have S7' := hide S7
                clear S7 hs p0 p1 p2 p3 o2 o3 S0
                obtain ⟨⟨p0, p1, p2, p3⟩, o2, o3⟩ := S7'.out
                go_wp2_with fail
                have hs := S7'.out
                go_region_held3 (fun V => (V.cell? ⟨g3, i * 8, none⟩ = some (.slice ya 2 yac) ∧ V.cell? ⟨g3, i * 8 + 1, none⟩ = some (.slice yb 1 ybc) ∧ V.cell? ⟨g3, i * 8 + 2, none⟩ = some (.slice (some ⟨gR, 0, none⟩) (trs l)[i].1.length cR) ∧ V.cell? ⟨g3, i * 8 + 3, none⟩ = some (.slice (some ⟨gX, 0, none⟩) (trs l)[i].2.length cX)) ∧ V.cell? ⟨gw, i * 8 + 2, none⟩ = some (.slice u1 (trs l)[i].1.length d1) ∧ V.cell? ⟨gw, i * 8 + 3, none⟩ = some (.slice u2 (trs l)[i].2.length d2)) (first | exact S7'.out | exact S8) ((go_at_call 24; refine (J2.out _ (below_on B7.out (below_drew w7))).mono ?_; rintro e w8 ⟨rfl, b8⟩; have B8 := hide (below_on (below_on B7.out (below_drew w7)) b8); have S8 := CC.out w8 B8.out; clear b8))
                have S8' := hide S8
                clear S8 hs p0 p1 p2 p3 o2 o3 S7'
                obtain ⟨⟨p0, p1, p2, p3⟩, -, -⟩ := S8'.out
                have hRX := HRX.out
                have R8 := hide (own_later hRX.1 B8.out)
                have X8 := hide (own_later hRX.2.1 B8.out)
                have hlen1 : ((trs l)[i].1 ++ List.replicate 8 (77 : Int)).length = (trs l)[i].1.length + 8 := by simp
                have hlen2 : ((trs l)[i].2 ++ List.replicate 8 (77 : Int)).length = (trs l)[i].2.length + 8 := by simp
                rw [hlen1] at R8
                rw [hlen2] at X8
                obtain ⟨hcr1, hcr2⟩ := own_cap R8.out
                obtain ⟨hcx1, hcx2⟩ := own_cap X8.out
                clear hRX hlen1 hlen2
                obtain ⟨wo, rfl⟩ : ∃ X, X = wr := ⟨_, rfl⟩
                go_wp2_with fail
                go_loopw [13] (fun v13 W => ∃ k : Nat, k ≤ (trs l)[i].1.length ∧ v13 = .int .i64 (k : Int) ∧ Hid ((∃ xs, W.ownsRow w.heap.size 3 1 (.slice (some ⟨gR, 0, none⟩) ((trs l)[i].1.length + 8) cR) ((trs l)[i].1.length + 8) xs) ∧ Mv w8 W (fun q => q = gR))) (fun v13 _ => (trs l)[i].1.length - (intOf v13).toNat)
                case atStart => exact ⟨0, Nat.zero_le _, rfl, ⟨_, R8.out⟩, Mv.refl _ _⟩
                case round =>
                  obtain ⟨k, hk, rfl, HK⟩ := hrel
                  obtain ⟨⟨xs, hxs⟩, hmk⟩ := HK.out
                  have n2 := hmk.cell p2 (fun e => HRX.out.2.2.2.1 e.symm)
                  by_cases hkl : k < (trs l)[i].1.length
                  · have t4 : (k : Int) < ((trs l)[i].1.length : Int) := by omega
                    have e1 := hxs.cellAt k (by omega)
                    rw [List.getElem?_eq_getElem (by have := hxs.1; omega)] at e1
                    obtain ⟨uu, huu⟩ : ∃ u, wr.cell? ⟨gR, k, none⟩ = some u := ⟨_, e1⟩
                    have fz := hxs.frozenAt k
                    have HN : Hid ((∃ xs, (wr.setCell ⟨gR, k, none⟩ (.int .i64 1)).ownsRow w.heap.size 3 1 (.slice (some ⟨gR, 0, none⟩) ((trs l)[i].1.length + 8) cR) ((trs l)[i].1.length + 8) xs) ∧ Mv w8 (wr.setCell ⟨gR, k, none⟩ (.int .i64 1)) (fun q => q = gR)) := ⟨⟨_, (hxs.stored k _).1⟩, hmk.set (g := gR) rfl _ _⟩
                    clear e1 hxs hmk HK
                    go_wp2_with fail
                    go_roundw
                    case rel => exact ⟨k + 1, by omega, rfl, HN.out⟩
                    case measure => simp only [intOf]; omega
                  · have t4 : ¬ (k : Int) < ((trs l)[i].1.length : Int) := by omega
                    obtain ⟨w9, rfl⟩ : ∃ X, X = wr := ⟨_, rfl⟩
                    have M9 := hide hmk
                    have X9 : Hid (w9.ownsRow w.heap.size 3 1 (.slice (some ⟨gX, 0, none⟩) ((trs l)[i].2.length + 8) cX) ((trs l)[i].2.length + 8) (zc ((trs l)[i].2 ++ List.replicate 8 77))) := hmk.own X8.out (fun q hq e => by
                      simp only [Value.ownBlock, Option.some.injEq] at hq
                      exact HRX.out.2.2.1 (by rw [hq, e]))
                    have n3 := hmk.cell p3 (fun e => HRX.out.2.2.2.1 e.symm)
                    clear hxs hmk HK hkl hk
                    go_wp2_with fail
                    go_loopw [14] (fun v14 W => ∃ k : Nat, k ≤ (trs l)[i].2.length ∧ v14 = .int .i64 (k : Int) ∧ Hid ((∃ xs, W.ownsRow w.heap.size 3 1 (.slice (some ⟨gX, 0, none⟩) ((trs l)[i].2.length + 8) cX) ((trs l)[i].2.length + 8) xs) ∧ Mv w9 W (fun q => q = gX))) (fun v14 _ => (trs l)[i].2.length - (intOf v14).toNat)
                    case atStart => exact ⟨0, Nat.zero_le _, rfl, ⟨_, X9.out⟩, Mv.refl _ _⟩
                    case round =>
                      obtain ⟨k, hk, rfl, HK⟩ := hrel
                      obtain ⟨⟨xs, hxs⟩, hmk⟩ := HK.out
                      have n4 := hmk.cell n3 (fun e => HRX.out.2.2.2.2.1 e.symm)
                      by_cases hkl : k < (trs l)[i].2.length
                      · have t5 : (k : Int) < ((trs l)[i].2.length : Int) := by omega
                        have e1 := hxs.cellAt k (by omega)
                        rw [List.getElem?_eq_getElem (by have := hxs.1; omega)] at e1
                        obtain ⟨uu, huu⟩ : ∃ u, wr.cell? ⟨gX, k, none⟩ = some u := ⟨_, e1⟩
                        have fz := hxs.frozenAt k
                        have HN : Hid ((∃ xs, (wr.setCell ⟨gX, k, none⟩ (.int .i64 1)).ownsRow w.heap.size 3 1 (.slice (some ⟨gX, 0, none⟩) ((trs l)[i].2.length + 8) cX) ((trs l)[i].2.length + 8) xs) ∧ Mv w9 (wr.setCell ⟨gX, k, none⟩ (.int .i64 1)) (fun q => q = gX)) := ⟨⟨_, (hxs.stored k _).1⟩, hmk.set (g := gX) rfl _ _⟩
                        clear e1 hxs hmk HK
                        go_wp2_with fail
                        go_roundw
                        case rel => exact ⟨k + 1, by omega, rfl, HN.out⟩
                        case measure => simp only [intOf]; omega
                      · have t5 : ¬ (k : Int) < ((trs l)[i].2.length : Int) := by omega
                        have M10 := hide hmk
                        have hmo : Mv wo wr (fun q => q = gR ∨ q = gX) := ((Mv.of_below B8.out (fun q => q = gR ∨ q = gX)).trans (M9.out.mono (fun q _ e => .inl e)) (fun q _ e => e)).trans (hmk.mono (fun q _ e => .inr e)) (fun q _ e => e)
                        obtain ⟨hzl, hG, hBd, hg3, hP, hY, hB⟩ := HFX.out
                        have hrow : wr.ownsRow w.heap.size 56 8 (.slice (some ⟨g3, 0, none⟩) ((trs l).length + 8) c3) ((trs l).length + 8) (yc ys) := by
                          have := hG.1
                          rw [hzl] at this
                          exact hmo.own this (fun q hq e => by
                            simp only [Value.ownBlock, Option.some.injEq] at hq
                            subst hq
                            rcases e with e | e
                            · exact HRX.out.2.2.2.1 e.symm
                            · exact HRX.out.2.2.2.2.1 e.symm)
                        have hiz : i < ys.length := by omega
                        have hcl : ∀ o k, k < 8 → ∃ u, (wr.alloc o).cell? ⟨g3, i * 8 + k, none⟩ = some u := fun o k hk => by
                          have := (own_later hrow (below_alloc wr o)).cellAt (i * 8 + k) (by omega)
                          rw [yc_at ys i hiz k hk] at this
                          exact ⟨(y8 ys[i])[k]'(by simpa [y8] using hk), by rw [this, List.getElem?_eq_getElem]⟩
                        obtain ⟨m0, h0⟩ := hcl (.cells #[.int .i64 1] 3) 0 (by omega)
                        obtain ⟨m1, h1⟩ := hcl (.cells #[.int .i64 1] 3) 1 (by omega)
                        obtain ⟨m2, h2⟩ := hcl (.cells #[.int .i64 1] 3) 2 (by omega)
                        obtain ⟨m3, h3⟩ := hcl (.cells #[.int .i64 1] 3) 3 (by omega)
                        obtain ⟨m4, h4⟩ := hcl (.cells #[.int .i64 1] 3) 4 (by omega)
                        obtain ⟨m5, h5⟩ := hcl (.cells #[.int .i64 1] 3) 5 (by omega)
                        obtain ⟨m6, h6⟩ := hcl (.cells #[.int .i64 1] 3) 6 (by omega)
                        obtain ⟨m7, h7⟩ := hcl (.cells #[.int .i64 1] 3) 7 (by omega)
                        rw [Nat.add_zero] at h0
                        have hfz : ∀ k, (wr.alloc (.cells #[.int .i64 1] 3)).frozen? ⟨g3, k, none⟩ = false := fun k => (own_later hrow (below_alloc wr _)).frozenAt k
                        have HN : Hid (Gf w wn w5 gp g3 c3 (.slice (some ⟨gw, 0, none⟩) (trs l).length cw) yw l (i + 1) (set8 (wr.alloc (.cells #[.int .i64 1] 3)) g3 i (.slice (some ⟨wr.heap.size, 0, none⟩) 1 1))) := by
                          have hmT : Mv wo (set8 (wr.alloc (.cells #[.int .i64 1] 3)) g3 i (.slice (some ⟨wr.heap.size, 0, none⟩) 1 1)) (fun q => q = g3 ∨ q = gR ∨ q = gX) := set8_mv ((hmo.mono (S' := fun q => q = g3 ∨ q = gR ∨ q = gX) (fun q _ e => .inr e)).later (below_alloc wr _)) (.inl rfl) i _
                          have hrX := HRX.out
                          have hlow : ∀ q, (q = g3 ∨ q = gR ∨ q = gX) → w.heap.size ≤ q ∧ q < wn.heap.size := fun q e => by
                            rcases e with rfl | rfl | rfl
                            · exact ⟨(hrow.lt _ rfl).1, hg3⟩
                            · exact ⟨(hrX.1.lt _ rfl).1, hrX.2.2.2.2.2.1⟩
                            · exact ⟨(hrX.2.1.lt _ rfl).1, hrX.2.2.2.2.2.2⟩
                          have how := set8_own (own_later hrow (below_alloc wr (.cells #[.int .i64 1] 3))) i hiz (.slice (some ⟨wr.heap.size, 0, none⟩) 1 1)
                          refine ⟨ys.set i (.slice none 0 0, .slice none 0 0, .slice none 0 0, .slice (some ⟨wr.heap.size, 0, none⟩) 1 1), by simpa using hzl, hG.mv hil hmT (fun h q e => ?_) (by rw [List.length_set, hzl]; exact how) (by simp) (fun k k1 k2 hk => by rw [List.getElem_set_ne (by omega)]), fun k hk hk1 hk2 q hq => ?_, hg3, hP.base hmT (fun q e => (hlow q e).2), hY.base hmT (fun q e => Nat.lt_of_lt_of_le (hlow q e).2 HSZ.out.2), ?_⟩
                          · rcases e with e | e | e
                            · exact .inl e
                            · exact .inr (.inl (by rw [e]; exact (HTT.out h).1))
                            · exact .inr (.inr (by rw [e]; exact (HTT.out h).2))
                          · rw [List.getElem_set_ne (by omega)] at hq
                            exact hBd k (by simpa using hk) (by omega) hk2 q hq
                          · exact hB.trans (hmT.below hB.size (fun q e => (hlow q e).1))
                        unfold set8 at HN
                        clear hG hBd hP hY hB hrow hcl hmo hxs hmk HK hkl hk HF M9
                        go_wp2_with fail
                        exact ⟨⟨i + 1, by omega, rfl, rfl, HN.out⟩, by simp only [intOf]; omega⟩
            · have t1 : ¬ (i : Int) < ((trs l).length : Int) + 8 := by omega
              have HP := hide (hP.lower HSZ.out.1)
              have HB := hide hB
              clear hG hBd hg3 hP hY hB HF
              go_wp2_with fail
              go_ret
              exact ⟨gp, rfl, HP.out, HB.out⟩
theorem made_any {w : World} {v : Value} {l : List Sy} (h : Sa w v l) : Calls Try.prog 17 #[v] w fun e w' => ∃ g, e = .returned (.pointer (some ⟨g, 0, none⟩)) ∧ Pl w' w.heap.size g (sysL l) ∧ Below w.heap.size w w' := by
  have J := hide (given_any h)
  obtain ⟨ao, c, vs0, rfl, -⟩ := h
  go_enter Try.func17, Try.ntmps17
  go_wp2_with fail
  refine J.out.mono ?_
  rintro e w1 ⟨g, rfl, hP, hB⟩
  have HP := hide hP
  have HB := hide hB
  clear hP hB
  go_wp2_with fail
  go_ret
  exact ⟨g, rfl, HP.out, HB.out⟩
end Go.Proofs.Ythgjdmomcpcolaa
