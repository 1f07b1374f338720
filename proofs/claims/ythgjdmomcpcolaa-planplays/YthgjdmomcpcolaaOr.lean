/-
  Plan: Order.
-/
import Derived.Test.YthgjdmomcpcolaaOm
import Derived.Test.YthgjdmomcpcolaaCo
namespace Go.Proofs.Ythgjdmomcpcolaa
open Go.RowKit
set_option maxRecDepth 100000
/-- What Order hands back. -/
def OrOut (w : World) (r : Option (List Nat)) (e : Ending) (w' : World) : Prop :=
  (match r with
    | none => e = .returned (.tuple #[.slice none 0 0, .int .i64 180])
    | some o => ∃ v, e = .returned (.tuple #[v, .int .i64 0]) ∧ Rw w' w.heap.size v (up o)) ∧ Below w.heap.size w w'
theorem OrOut.none {w w' : World} (hb : Below w.heap.size w w') : OrOut w none (.returned (.tuple #[.slice none 0 0, .int .i64 180])) w' := ⟨rfl, hb⟩
theorem OrOut.some {w w' : World} {o : List Nat} {v : Value} (hr : Rw w' w.heap.size v (up o)) (hb : Below w.heap.size w w') : OrOut w (some o) (.returned (.tuple #[v, .int .i64 0])) w' := ⟨⟨v, rfl, hr⟩, hb⟩
theorem range_getD (st : List Nat) : ((List.range st.length).map fun q => st.getD q 0) = st := by
  apply List.ext_getElem
  · simp
  · intro i h1 h2
    rw [List.getElem_map, List.getElem_range, List.getD_eq_getElem?_getD, List.getElem?_eq_getElem h2]
    rfl
/-- Inside a stage: the order so far, and who is left. -/
def Oi (w : World) (vo vr : Value) (gr cr n : Nat) (acc : List Nat) (pl : List Nat) (W : World) : Prop :=
  Ov w vo acc W ∧ vr = .slice (some ⟨gr, 0, none⟩) (n + 1) cr ∧ (∃ l, Rw W w.heap.size vr l ∧ Fw l n pl) ∧ vo.ownBlock ≠ some gr ∧ pl.Pairwise (· < ·) ∧ ∀ x ∈ pl, x < n
set_option maxHeartbeats 8000000 in
theorem order_any {w : World} {B g : Nat} {L : List Sy} {vp : Value} {ps : List Int} (h : Pl w B g L) (hp : Rl w vp ps) : Calls Try.prog 19 #[.pointer (some ⟨g, 0, none⟩), vp] w fun e w' => ∃ sts, StOf L L.length sts ∧ OrOut w (ordR sts L.length ps) e w' := by
  obtain ⟨ao, c, rs, sts, c1, hS, hSt, hrl, hfew, hL, hc1, hc2⟩ := h.stages
  obtain ⟨aa, ca, vs, c0, -, hvl, hca1, hca2⟩ := h.cell
  refine Calls.mono (R := fun e w' => OrOut w (ordR sts L.length ps) e w') ?_ (fun e w' he => ⟨sts, hSt, he⟩)
  have HC : Hid (∀ W, Below w.heap.size w W → W.cell? ⟨g, 0, none⟩ = some (.slice aa L.length ca) ∧ W.cell? ⟨g, 1, none⟩ = some (.slice ao rs.length c)) := fun W hb => ⟨(World.cell?_of_block (hb.block g (World.block_lt_of_cell? w _ c0))).trans c0, (World.cell?_of_block (hb.block g (World.block_lt_of_cell? w _ c1))).trans c1⟩
  have HS := hide hS
  have HST := hide hSt
  have HRL := hide hrl
  have HL := hide hL
  have HP := hide hp
  obtain ⟨ap, cp, rfl, hp1, hp2, -⟩ := hp
  obtain ⟨i0, hi0, hz0, hzz1, hz2⟩ := info_parts info3
  clear h hS hSt hrl hfew hL c1 hvl
  by_cases hps : ps = []
  · have hR : ordR sts L.length ps = ordS sts (List.replicate L.length 0) := by
      rw [ordR, if_pos hps, if_pos (by simp)]
    rw [hR]
    have h0 : ps.length = 0 := by rw [hps]; rfl
    rw [h0]
    obtain ⟨pz, hpz⟩ : ∃ X, X = List.replicate L.length (0 : Int) := ⟨_, rfl⟩
    rw [← hpz]
    clear hR hps HP hp1 h0
    go_enter Try.func19, Try.ntmps19
    go_wp2_with (at_make; refine wpList_make_full _ rfl _ _ 23 rfl w.heap.size 3 i0 (.int .i64 0) 1 Try.underlying23 hi0 hz0 hzz1 .i64 .i64 _ _ L.length rfl rfl ?c1 ?c2 ?c3 ?c4 ?c5 ?_)
    case c1 => rfl
    case c2 => rfl
    case c3 => have := HL.out; rw [hz2]; omega
    case c4 => have := HL.out; unfold maxLen; omega
    case c5 => omega
    intro w1 hown hgrow
    rw [toList_madeCells_one] at hown
    have hb1 : Below w.heap.size w w1 := (Below.refl _ w).grown hgrow (Nat.le_refl _) (fun k e => by cases e)
    have HP : Hid (Rl w1 (.slice (some ⟨w.heap.size, 0, none⟩) L.length L.length) (List.replicate L.length 0)) := by
      refine Rl.of (B := w.heap.size) ?_
      unfold Rw
      rw [List.length_replicate]
      simpa [zc] using hown
    have B1 := hide hb1
    have hpl : pz.length = L.length := by rw [hpz]; simp
    obtain ⟨ap, hap⟩ : ∃ X, X = some (⟨w.heap.size, 0, none⟩ : Addr) := ⟨_, rfl⟩
    have HP : Hid (Rl w1 (.slice ap L.length L.length) pz) := by rw [hap, hpz]; exact HP.out
    rw [← hap]
    have hcpp : L.length ≤ 9223372036854775807 := by have := HL.out; omega
    have HPL := hide hpl
    clear hap hpz hgrow hown hb1 hpl
    obtain ⟨k0, k1⟩ := HC.out w1 B1.out
    go_wp2_with (at_make; refine wpList_make_cap _ rfl _ _ 23 rfl 3 i0 (.int .i64 0) Try.underlying23 hi0 hz0 .i64 .i64 _ _ 0 L.length rfl rfl ?dA1 ?dA2 ?dA3 ?dA4 ?dA5 ?_)
    case dA1 => rfl
    case dA2 => rfl
    case dA3 => omega
    case dA4 => have := HL.out; rw [hz2]; omega
    case dA5 => have := HL.out; unfold maxLen; omega
    intro w2 hcells hgrow2
    have b2 : Below w1.heap.size w1 w2 := (Below.refl _ w1).grown hgrow2 (Nat.le_refl _) (fun k e => by cases e)
    have O0 : Hid (Ov w1 (.slice (some ⟨w1.heap.size, 0, none⟩) 0 L.length) [] w2) := by
      refine ⟨⟨rfl, .inr ⟨w1.heap.size, L.length, _, rfl, Nat.le_refl _, hcells.out, Nat.zero_le _, by have := HL.out; unfold maxLen; omega, ?_, by simp [up, zc]⟩⟩, b2⟩
      simp [madeCells]
    obtain ⟨m0, m1⟩ := HC.out w2 (below_on B1.out b2)
    clear hcells hgrow2 b2 k0 k1
    go_wp2_with fail
    have R0 : Hid (res (sts.drop 0) pz [] = ordS sts pz ∧ (sts.drop 0).flatten.length + ([] : List Nat).length = pz.length) := by
      refine ⟨?_, ?_⟩
      · rw [List.drop_zero, res, List.length_nil, List.drop_zero]
        cases ordS sts pz <;> simp
      · rw [List.drop_zero, HST.out.flat_len, List.length_nil, HPL.out]
        rfl
    obtain ⟨vo0, hvo0⟩ : ∃ X, X = Value.slice (some ⟨w1.heap.size, 0, none⟩) 0 L.length := ⟨_, rfl⟩
    rw [← hvo0] at O0 ⊢
    clear hvo0 m0 m1
    go_loopw [6, 40] (fun v6 v40 W => ∃ (j : Nat) (acc : List Nat), j ≤ rs.length ∧ v40 = .int .i64 (j : Int) ∧ Hid (Ov w1 v6 acc W ∧ (res (sts.drop j) pz acc = ordS sts pz ∧ (sts.drop j).flatten.length + acc.length = pz.length))) (fun _ v40 _ => rs.length - (intOf v40).toNat)
    case atStart => exact ⟨0, [], Nat.zero_le _, rfl, O0.out, R0.out⟩
    case round =>
      obtain ⟨j, acc, hj, rfl, HO⟩ := hrel
      obtain ⟨wo, rfl⟩ : ∃ X, X = wr := ⟨_, rfl⟩
      clear O0 R0
      by_cases hlt : j < rs.length
      · have t1 : (j : Int) < (rs.length : Int) := by omega
        have hjs : j < sts.length := by have := HRL.out; omega
        obtain ⟨hOv, hr1, hr2⟩ := HO.out
        have hSW := HS.out.later (below_on B1.out hOv.2)
        have hS1 := HS.out.later B1.out
        obtain ⟨gv, cv', e0, -⟩ := own_form hSW.1 (by omega)
        simp only [Value.slice.injEq] at e0
        obtain ⟨rfl, -, rfl⟩ := e0
        have e1 := hSW.1.cellAt j (by omega)
        rw [List.getElem?_eq_getElem hlt] at e1
        have hrow := hSW.2.2.1 j hlt hjs
        have hlen : sts[j].length ≤ 1000 := Nat.le_trans (HST.out.short hjs) HL.out
        have JA := hide (allleft_any sts[j].length wo hlen)
        have hdrop : sts.drop j = sts[j] :: sts.drop (j + 1) := List.drop_eq_getElem_cons hjs
        rw [hdrop] at hr1 hr2
        rw [res_cons] at hr1
        rw [List.flatten_cons, List.length_append] at hr2
        obtain ⟨ar, cr, hv⟩ := own_len hrow
        rw [hv] at e1
        have HRW : Hid (Rl w1 (.slice ar sts[j].length cr) (up sts[j])) := by
          have := Rl.of (hS1.2.2.1 j hlt hjs)
          rw [hv, up_len] at this
          exact this
        rw [up_len] at e1
        have hcr : sts[j].length ≤ cr ∧ cr ≤ 9223372036854775807 := by
          have := own_cap (hv ▸ hrow)
          rw [up_len] at this
          exact this
        obtain ⟨hcr1, hcr2⟩ := hcr
        have HLN := hide hlen
        have HOV := hide hOv
        have HR1 := hide hr1
        have HR2 := hide hr2
        have HDR := hide hdrop
        obtain ⟨st, hst⟩ : ∃ X, X = sts[j] := ⟨_, rfl⟩
        rw [← hst] at e1 JA HRW hcr1 HLN HR1 HR2
        clear hSW hS1 hrow hlen hdrop hv hOv hr1 hr2 hst HO
        go_wp2_with fail
        refine JA.out.mono ?_
        rintro e w3 ⟨v3, l3, rfl, h3, hF3, b3⟩
        obtain ⟨g3, c3, rfl, hg3a, hg3b⟩ := own_form h3 (by have := hF3.1; omega)
        rw [hF3.1] at hg3a
        have I0 : Hid (Oi w1 u6 (.slice (some ⟨g3, 0, none⟩) (st.length + 1) c3) g3 c3 st.length acc (List.range st.length) w3) := by
          refine ⟨HOV.out.later b3, rfl, ⟨l3, ?_, hF3⟩, fun e => ?_, List.pairwise_lt_range, fun x hx => List.mem_range.1 hx⟩
          · have := own_lower h3 HOV.out.2.size
            rw [hF3.1] at this
            unfold Rw
            rw [hF3.1]
            exact this
          · have h8 := (HOV.out.1.lt g3 e).2
            have h9 := (h3.lt g3 rfl).1
            omega
        have I1 : Hid (res1 ((List.range st.length).map fun q => st.getD q 0) (sts.drop (j + 1)) pz acc = ordS sts pz ∧ st.length + (sts.drop (j + 1)).flatten.length + acc.length = pz.length) := by
          refine ⟨?_, by have := HR2.out; omega⟩
          rw [range_getD]
          exact HR1.out
        have hll : l3.length = st.length + 1 := hF3.1
        rw [hll]
        have HG3 : Hid (w1.heap.size ≤ g3) := Nat.le_trans HOV.out.2.size (h3.lt g3 rfl).1
        clear h3 hF3 b3 JA hll
        have e1 : True := trivial
        go_wp2_with fail
        go_loopw [6, 10] (fun v6 v10 W => ∃ (acc' pl : List Nat), v10 = .int .i64 (pl.length : Int) ∧ Hid (Oi w1 v6 (.slice (some ⟨g3, 0, none⟩) (st.length + 1) c3) g3 c3 st.length acc' pl W ∧ res1 (pl.map fun q => st.getD q 0) (sts.drop (j + 1)) pz acc' = ordS sts pz ∧ pl.length + (sts.drop (j + 1)).flatten.length + acc'.length = pz.length)) (fun _ v10 _ => (intOf v10).toNat)
        case atStart => exact ⟨acc, List.range st.length, by rw [List.length_range], I0.out, I1.out.1, by rw [List.length_range]; exact I1.out.2⟩
        case round =>
          obtain ⟨acc', pl, rfl, HI⟩ := hrel
          clear I0 I1
          by_cases hm : 0 < pl.length
          · have t2 : (pl.length : Int) > 0 := by omega
            obtain ⟨⟨hOv, -, ⟨l, hl, hF⟩, hne, hpw, hpb⟩, hi1, hi2⟩ := HI.out
            obtain ⟨a6, c6, rfl⟩ := own_len hOv.1
            have hcx := own_cap hOv.1
            rw [up_len] at hOv hne hcx ⊢
            obtain ⟨hcx1, hcx2⟩ := hcx
            have hacc : acc'.length < pz.length := by omega
            have hrp := HP.out.later hOv.2
            obtain ⟨ap', cp', ep, hpa, hpb', hpc⟩ := hrp
            simp only [Value.slice.injEq] at ep
            obtain ⟨rfl, -, rfl⟩ := ep
            obtain ⟨gp, op, rfl, hpcell⟩ := hpc (by omega)
            have e2 := hpcell acc'.length hacc
            have hplen : pl.length ≤ 1000 := Nat.le_trans (asc_len hpw hpb) HLN.out
            have hlm : (pl.map fun q => st.getD q 0).length = pl.length := by simp
            have HBAD : Hid (¬ (0 ≤ pz[acc'.length] ∧ pz[acc'.length] < pl.length) → ordS sts pz = none) := fun hh => by
              rw [← hi1]
              exact res1_bad hacc (by rw [hlm]; exact hm) (by rw [hlm]; exact hh)
            have HSTEP : Hid (∀ k : Nat, pz[acc'.length] = (k : Int) → ∀ hk : k < pl.length, res1 ((pl.eraseIdx k).map fun q => st.getD q 0) (sts.drop (j + 1)) pz (acc' ++ [st.getD pl[k] 0]) = ordS sts pz) := fun k h1 h2 => by
              rw [← hi1, res1_step hacc (by rw [hlm]; exact hm) k h1 (by rw [hlm]; exact h2), map_erase, List.getElem_map]
            have tA : (acc'.length : Int) < (L.length : Int) := by have := HPL.out; omega
            have tA2 : acc'.length < L.length := by have := HPL.out; omega
            have HOV6 := hide hOv
            have HI' : Hid (pl.length + (sts.drop (j + 1)).flatten.length + acc'.length = pz.length) := hi2
            have HNE := hide hne
            have JT : Hid (∀ k : Nat, ∀ hk : k < pl.length, Calls Try.prog 42 #[.slice (some ⟨g3, 0, none⟩) (st.length + 1) c3, .int .i64 (k : Int)] wr fun e w' => ∃ l', e = .returned (.int .i64 (pl[k] : Int)) ∧ Rw w' w1.heap.size (.slice (some ⟨g3, 0, none⟩) (st.length + 1) c3) l' ∧ Fw l' st.length (pl.eraseIdx k) ∧ Mv wr w' (fun k => k = g3)) := fun k hk => take_any hl hF HLN.out hpw hpb k hk
            have HSW : Hid (pl.Pairwise (· < ·) ∧ (∀ x ∈ pl, x < st.length) ∧ pl.length ≤ 1000) := ⟨hpw, hpb, hplen⟩
            obtain ⟨z, hz⟩ : ∃ z, z = pz[acc'.length] := ⟨_, rfl⟩
            rw [← hz] at e2 HBAD HSTEP
            clear hl hF hne hpw hpb hi1 hi2 hOv HI hlm hpcell hz hplen hpc
            by_cases hz1 : z < 0
            · have HN := hide (HBAD.out (fun h => by omega))
              go_wp2_with fail
              go_ret2
              rw [HN.out]
              exact OrOut.none (below_on B1.out HOV6.out.2)
            · by_cases hz2' : z ≥ (pl.length : Int)
              · have HN := hide (HBAD.out (fun h => by omega))
                go_wp2_with fail
                go_ret2
                rw [HN.out]
                exact OrOut.none (below_on B1.out HOV6.out.2)
              · obtain ⟨k, rfl⟩ : ∃ k : Nat, z = (k : Int) := ⟨z.toNat, by omega⟩
                have hk : k < pl.length := by omega
                have JTk := hide (JT.out k hk)
                have HSTk := hide (HSTEP.out k rfl hk)
                have hpk : pl[k] < st.length := HSW.out.2.1 _ (List.getElem_mem hk)
                have HPK : Hid (∀ V, Below w1.heap.size w1 V → Rl V (.slice ar st.length cr) (up st)) := fun V hV => HRW.out.later hV
                have HERR : Hid ((pl.eraseIdx k).Pairwise (· < ·) ∧ (∀ x ∈ pl.eraseIdx k, x < st.length) ∧ (pl.eraseIdx k).length = pl.length - 1) := ⟨HSW.out.1.sublist (List.eraseIdx_sublist _ _), fun x hx => HSW.out.2.1 x (List.mem_of_mem_eraseIdx hx), List.length_eraseIdx_of_lt hk⟩
                obtain ⟨pk, hpke⟩ : ∃ X, X = pl[k] := ⟨_, rfl⟩
                rw [← hpke] at JTk HSTk hpk
                obtain ⟨pl2, hpl2⟩ : ∃ X, X = pl.eraseIdx k := ⟨_, rfl⟩
                rw [← hpl2] at JTk HSTk HERR
                have HW : Hid (st.length ≤ 1000 ∧ pl.length ≤ 1000) := ⟨HLN.out, HSW.out.2.2⟩
                clear hpke hpl2 HSTEP HBAD JT hz1
                go_wp2_with fail
                refine JTk.out.mono ?_
                rintro e w5 ⟨l', rfl, h5, hF5, hm5⟩
                -- the order and the stage as they lie behind that
                have hOv5 : Ov w1 (.slice a6 acc'.length c6) acc' w5 := by
                  refine ⟨hm5.own HOV6.out.1 (fun q hq e => HNE.out (by rw [hq, e])), ?_⟩
                  exact HOV6.out.2.trans (hm5.below HOV6.out.2.size (fun q e => by rw [e]; exact HG3.out))
                obtain ⟨ar', cr', er, her1, her2, herc⟩ := HPK.out w5 hOv5.2
                rw [up_len] at er her1
                simp only [Value.slice.injEq, true_and] at er
                obtain ⟨rfl, rfl⟩ := er
                obtain ⟨gs, os, rfl, hscell⟩ := herc (by rw [up_len]; omega)
                have e5 := hscell pk (by rw [up_len]; exact hpk)
                have hup : (up st)[pk]'(by rw [up_len]; exact hpk) = ((st.getD pk 0 : Nat) : Int) := by
                  simp only [up, List.getElem_map, List.getD_eq_getElem?_getD, List.getElem?_eq_getElem hpk, Option.getD_some]
                rw [hup] at e5
                have tC : (pk : Int) < (st.length : Int) := by omega
                have OV5 := hide hOv5
                have H5 : Hid (Rw w5 w1.heap.size (.slice (some ⟨g3, 0, none⟩) (st.length + 1) c3) l' ∧ Fw l' st.length pl2) := ⟨h5, hF5⟩
                clear hOv5 h5 hF5 hm5 herc hscell hup
                obtain ⟨sx, hsx⟩ : ∃ X, X = st.getD pk 0 := ⟨_, rfl⟩
                rw [← hsx] at e5 HSTk
                clear hsx
                have hrow6 : w5.ownsRow w1.heap.size 3 1 (.slice a6 acc'.length c6) acc'.length (zc (up acc')) := by
                  have := OV5.out.1
                  unfold Rw at this
                  rw [up_len] at this
                  exact this
                have HR6 := hide hrow6
                clear hrow6
                go_wp2_with (at_builtin; refine wpList_append_own_at _ rfl _ _ 23 rfl w1.heap.size 3 i0 (.int .i64 0) 1 8 Try.underlying23 hi0 hz0 hzz1 hz2 rfl (by decide) (.slice a6 acc'.length c6) acc'.length (zc (up acc')) rfl ?fA1 ⟨w5.heap.size, 0, none⟩ 1 1 [.int .i64 (sx : Int)] rfl rfl ?fA2 ?fA3 ?fA4 ?fA5 ?fA6 ?_)
                case fA1 => exact own_later HR6.out (below_alloc w5 _)
                case fA2 =>
                  intro j u hj
                  have : j = 0 := by
                    have := (List.getElem?_eq_some_iff.1 hj).1
                    simpa using this
                  subst this
                  simp only [List.getElem?_cons_zero, Option.some.injEq] at hj
                  subst hj
                  rw [WideShapes.add_plain, cell_of_row _ _ _ _ 3 (0, 0) (heap_alloc_new w5 _)]
                  rfl
                case fA3 => intro u hu; rw [List.mem_singleton.1 hu]; rfl
                case fA4 => have := HI'.out; have := HPL.out; have := HL.out; unfold maxLen; omega
                case fA5 => have := HI'.out; have := HPL.out; have := HL.out; omega
                case fA6 => have := OV5.out.2.size; simp; omega
                intro v9 w9 ho9 hg9 _ hn9
                have HNX : Hid (Oi w1 v9 (.slice (some ⟨g3, 0, none⟩) (st.length + 1) c3) g3 c3 st.length (acc' ++ [sx]) pl2 w9 ∧ res1 (pl2.map fun q => st.getD q 0) (sts.drop (j + 1)) pz (acc' ++ [sx]) = ordS sts pz ∧ pl2.length + (sts.drop (j + 1)).flatten.length + (acc' ++ [sx]).length = pz.length) := by
                  have hb6 := below_alloc w5 (.cells #[.int .i64 (sx : Int)] 3)
                  have ho6 := own_later HR6.out hb6
                  refine ⟨⟨⟨?_, ?_⟩, rfl, ⟨l', own_kept (own_later H5.out.1 hb6) hg9 (fun q hq e => ?_), H5.out.2⟩, fun e => ?_, HERR.out.1, HERR.out.2.1⟩, HSTk.out, ?_⟩
                  · unfold Rw
                    rw [up_add, zc_append, List.length_append, up_len]
                    exact ho9
                  · exact (below_on OV5.out.2 hb6).grown hg9 (below_on OV5.out.2 hb6).size (fun q e => (ho6.lt q e).1)
                  · simp only [Value.ownBlock, Option.some.injEq] at hq
                    subst hq
                    exact HNE.out e
                  · rcases hn9 with h | h
                    · rw [h] at e
                      exact HNE.out e
                    · rw [h] at e
                      have := (H5.out.1.lt g3 rfl).2
                      simp only [Option.some.injEq] at e
                      omega
                  · have h1 := HERR.out.2.2
                    have h2 := HI'.out
                    rw [List.length_append, List.length_singleton, h1]
                    omega
                obtain ⟨a9, c9, rfl⟩ := own_len ho9
                have hl2 : (pl.length : Int) - 1 = (pl2.length : Int) := by have := HERR.out.2.2; omega
                have HL2 := hide hl2
                have hbx : pl.length ≤ 9223372036854775807 := by have := HW.out; omega
                clear ho9 hg9 hn9 hl2
                go_wp2_with fail
                go_roundw
                case rel => exact ⟨acc' ++ [sx], pl2, by rw [HL2.out], HNX.out⟩
                case measure => simp only [intOf]; rw [HL2.out]; have := HERR.out.2.2; omega
          · obtain rfl : pl = [] := List.eq_nil_of_length_eq_zero (by omega)
            obtain ⟨⟨hOv, -⟩, hi1, hi2⟩ := HI.out
            rw [List.map_nil, res1_nil] at hi1
            have HNX : Hid (Ov w1 u6 acc' wr ∧ (res (sts.drop (j + 1)) pz acc' = ordS sts pz ∧ (sts.drop (j + 1)).flatten.length + acc'.length = pz.length)) := ⟨hOv, hi1, by simpa using hi2⟩
            clear hOv hi1 hi2 HI
            simp only [List.length_nil]
            go_wp2_with fail
            go_roundw
            case rel => exact ⟨j + 1, acc', by omega, rfl, HNX.out⟩
            case measure => simp only [intOf]; omega
      · have t1 : ¬ (j : Int) < (rs.length : Int) := by omega
        obtain rfl : j = rs.length := by omega
        obtain ⟨hOv, hr1, hr2⟩ := HO.out
        have HOV := hide hOv
        obtain ⟨a6, c6, rfl⟩ := own_len hOv.1
        rw [HRL.out, List.drop_length, res_nil] at hr1
        have HR1 := hide hr1
        clear hOv hr1 hr2 HO
        go_wp2_with fail
        go_ret2
        rw [← HR1.out]
        exact OrOut.some (own_lower HOV.out.1 B1.out.size) (below_on B1.out HOV.out.2)
  · have hne0 : 0 < ps.length := by
      rcases Nat.eq_zero_or_pos ps.length with h | h
      · exact absurd (List.eq_nil_of_length_eq_zero h) hps
      · exact h
    have tz : ¬ (ps.length : Int) = 0 := by omega
    by_cases hn : ps.length = L.length
    · have hR : ordR sts L.length ps = ordS sts ps := by
        rw [ordR, if_neg hps, if_pos hn]
      rw [hR]
      have HPL := hide hn
      rw [hn] at HP hp1 tz ⊢
      have B1 : Hid (Below w.heap.size w w) := Below.refl _ _
      obtain ⟨k0, k1⟩ := HC.out w B1.out
      have hcpp : L.length ≤ 9223372036854775807 := by have := HL.out; omega
      clear hR hps hn hne0 c0
      go_enter Try.func19, Try.ntmps19
      go_wp2_with (at_make; refine wpList_make_cap _ rfl _ _ 23 rfl 3 i0 (.int .i64 0) Try.underlying23 hi0 hz0 .i64 .i64 _ _ 0 L.length rfl rfl ?dB1 ?dB2 ?dB3 ?dB4 ?dB5 ?_)
      case dB1 => rfl
      case dB2 => rfl
      case dB3 => omega
      case dB4 => have := HL.out; rw [hz2]; omega
      case dB5 => have := HL.out; unfold maxLen; omega
      intro w2 hcells hgrow2
      have b2 : Below w.heap.size w w2 := (Below.refl _ w).grown hgrow2 (Nat.le_refl _) (fun k e => by cases e)
      have O0 : Hid (Ov w (.slice (some ⟨w.heap.size, 0, none⟩) 0 L.length) [] w2) := by
        refine ⟨⟨rfl, .inr ⟨w.heap.size, L.length, _, rfl, Nat.le_refl _, hcells.out, Nat.zero_le _, by have := HL.out; unfold maxLen; omega, ?_, by simp [up, zc]⟩⟩, b2⟩
        simp [madeCells]
      obtain ⟨m0, m1⟩ := HC.out w2 (below_on B1.out b2)
      clear hcells hgrow2 b2 k0 k1
      go_wp2_with fail
      have R0 : Hid (res (sts.drop 0) ps [] = ordS sts ps ∧ (sts.drop 0).flatten.length + ([] : List Nat).length = ps.length) := by
        refine ⟨?_, ?_⟩
        · rw [List.drop_zero, res, List.length_nil, List.drop_zero]
          cases ordS sts ps <;> simp
        · rw [List.drop_zero, HST.out.flat_len, List.length_nil, HPL.out]
          rfl
      obtain ⟨vo0, hvo0⟩ : ∃ X, X = Value.slice (some ⟨w.heap.size, 0, none⟩) 0 L.length := ⟨_, rfl⟩
      rw [← hvo0] at O0 ⊢
      clear hvo0 m0 m1
      go_loopw [6, 40] (fun v6 v40 W => ∃ (j : Nat) (acc : List Nat), j ≤ rs.length ∧ v40 = .int .i64 (j : Int) ∧ Hid (Ov w v6 acc W ∧ (res (sts.drop j) ps acc = ordS sts ps ∧ (sts.drop j).flatten.length + acc.length = ps.length))) (fun _ v40 _ => rs.length - (intOf v40).toNat)
      case atStart => exact ⟨0, [], Nat.zero_le _, rfl, O0.out, R0.out⟩
      case round =>
        obtain ⟨j, acc, hj, rfl, HO⟩ := hrel
        obtain ⟨wo, rfl⟩ : ∃ X, X = wr := ⟨_, rfl⟩
        clear O0 R0
        by_cases hlt : j < rs.length
        · have t1 : (j : Int) < (rs.length : Int) := by omega
          have hjs : j < sts.length := by have := HRL.out; omega
          obtain ⟨hOv, hr1, hr2⟩ := HO.out
          have hSW := HS.out.later (below_on B1.out hOv.2)
          have hS1 := HS.out.later B1.out
          obtain ⟨gv, cv', e0, -⟩ := own_form hSW.1 (by omega)
          simp only [Value.slice.injEq] at e0
          obtain ⟨rfl, -, rfl⟩ := e0
          have e1 := hSW.1.cellAt j (by omega)
          rw [List.getElem?_eq_getElem hlt] at e1
          have hrow := hSW.2.2.1 j hlt hjs
          have hlen : sts[j].length ≤ 1000 := Nat.le_trans (HST.out.short hjs) HL.out
          have JA := hide (allleft_any sts[j].length wo hlen)
          have hdrop : sts.drop j = sts[j] :: sts.drop (j + 1) := List.drop_eq_getElem_cons hjs
          rw [hdrop] at hr1 hr2
          rw [res_cons] at hr1
          rw [List.flatten_cons, List.length_append] at hr2
          obtain ⟨ar, cr, hv⟩ := own_len hrow
          rw [hv] at e1
          have HRW : Hid (Rl w (.slice ar sts[j].length cr) (up sts[j])) := by
            have := Rl.of (hS1.2.2.1 j hlt hjs)
            rw [hv, up_len] at this
            exact this
          rw [up_len] at e1
          have hcr : sts[j].length ≤ cr ∧ cr ≤ 9223372036854775807 := by
            have := own_cap (hv ▸ hrow)
            rw [up_len] at this
            exact this
          obtain ⟨hcr1, hcr2⟩ := hcr
          have HLN := hide hlen
          have HOV := hide hOv
          have HR1 := hide hr1
          have HR2 := hide hr2
          have HDR := hide hdrop
          obtain ⟨st, hst⟩ : ∃ X, X = sts[j] := ⟨_, rfl⟩
          rw [← hst] at e1 JA HRW hcr1 HLN HR1 HR2
          clear hSW hS1 hrow hlen hdrop hv hOv hr1 hr2 hst HO
          go_wp2_with fail
          refine JA.out.mono ?_
          rintro e w3 ⟨v3, l3, rfl, h3, hF3, b3⟩
          obtain ⟨g3, c3, rfl, hg3a, hg3b⟩ := own_form h3 (by have := hF3.1; omega)
          rw [hF3.1] at hg3a
          have I0 : Hid (Oi w u6 (.slice (some ⟨g3, 0, none⟩) (st.length + 1) c3) g3 c3 st.length acc (List.range st.length) w3) := by
            refine ⟨HOV.out.later b3, rfl, ⟨l3, ?_, hF3⟩, fun e => ?_, List.pairwise_lt_range, fun x hx => List.mem_range.1 hx⟩
            · have := own_lower h3 HOV.out.2.size
              rw [hF3.1] at this
              unfold Rw
              rw [hF3.1]
              exact this
            · have h8 := (HOV.out.1.lt g3 e).2
              have h9 := (h3.lt g3 rfl).1
              omega
          have I1 : Hid (res1 ((List.range st.length).map fun q => st.getD q 0) (sts.drop (j + 1)) ps acc = ordS sts ps ∧ st.length + (sts.drop (j + 1)).flatten.length + acc.length = ps.length) := by
            refine ⟨?_, by have := HR2.out; omega⟩
            rw [range_getD]
            exact HR1.out
          have hll : l3.length = st.length + 1 := hF3.1
          rw [hll]
          have HG3 : Hid (w.heap.size ≤ g3) := Nat.le_trans HOV.out.2.size (h3.lt g3 rfl).1
          clear h3 hF3 b3 JA hll
          have e1 : True := trivial
          go_wp2_with fail
          go_loopw [6, 10] (fun v6 v10 W => ∃ (acc' pl : List Nat), v10 = .int .i64 (pl.length : Int) ∧ Hid (Oi w v6 (.slice (some ⟨g3, 0, none⟩) (st.length + 1) c3) g3 c3 st.length acc' pl W ∧ res1 (pl.map fun q => st.getD q 0) (sts.drop (j + 1)) ps acc' = ordS sts ps ∧ pl.length + (sts.drop (j + 1)).flatten.length + acc'.length = ps.length)) (fun _ v10 _ => (intOf v10).toNat)
          case atStart => exact ⟨acc, List.range st.length, by rw [List.length_range], I0.out, I1.out.1, by rw [List.length_range]; exact I1.out.2⟩
          case round =>
            obtain ⟨acc', pl, rfl, HI⟩ := hrel
            clear I0 I1
            by_cases hm : 0 < pl.length
            · have t2 : (pl.length : Int) > 0 := by omega
              obtain ⟨⟨hOv, -, ⟨l, hl, hF⟩, hne, hpw, hpb⟩, hi1, hi2⟩ := HI.out
              obtain ⟨a6, c6, rfl⟩ := own_len hOv.1
              have hcx := own_cap hOv.1
              rw [up_len] at hOv hne hcx ⊢
              obtain ⟨hcx1, hcx2⟩ := hcx
              have hacc : acc'.length < ps.length := by omega
              have hrp := HP.out.later hOv.2
              obtain ⟨ap', cp', ep, hpa, hpb', hpc⟩ := hrp
              simp only [Value.slice.injEq] at ep
              obtain ⟨rfl, -, rfl⟩ := ep
              obtain ⟨gp, op, rfl, hpcell⟩ := hpc (by omega)
              have e2 := hpcell acc'.length hacc
              have hplen : pl.length ≤ 1000 := Nat.le_trans (asc_len hpw hpb) HLN.out
              have hlm : (pl.map fun q => st.getD q 0).length = pl.length := by simp
              have HBAD : Hid (¬ (0 ≤ ps[acc'.length] ∧ ps[acc'.length] < pl.length) → ordS sts ps = none) := fun hh => by
                rw [← hi1]
                exact res1_bad hacc (by rw [hlm]; exact hm) (by rw [hlm]; exact hh)
              have HSTEP : Hid (∀ k : Nat, ps[acc'.length] = (k : Int) → ∀ hk : k < pl.length, res1 ((pl.eraseIdx k).map fun q => st.getD q 0) (sts.drop (j + 1)) ps (acc' ++ [st.getD pl[k] 0]) = ordS sts ps) := fun k h1 h2 => by
                rw [← hi1, res1_step hacc (by rw [hlm]; exact hm) k h1 (by rw [hlm]; exact h2), map_erase, List.getElem_map]
              have tA : (acc'.length : Int) < (L.length : Int) := by have := HPL.out; omega
              have tA2 : acc'.length < L.length := by have := HPL.out; omega
              have HOV6 := hide hOv
              have HI' : Hid (pl.length + (sts.drop (j + 1)).flatten.length + acc'.length = ps.length) := hi2
              have HNE := hide hne
              have JT : Hid (∀ k : Nat, ∀ hk : k < pl.length, Calls Try.prog 42 #[.slice (some ⟨g3, 0, none⟩) (st.length + 1) c3, .int .i64 (k : Int)] wr fun e w' => ∃ l', e = .returned (.int .i64 (pl[k] : Int)) ∧ Rw w' w.heap.size (.slice (some ⟨g3, 0, none⟩) (st.length + 1) c3) l' ∧ Fw l' st.length (pl.eraseIdx k) ∧ Mv wr w' (fun k => k = g3)) := fun k hk => take_any hl hF HLN.out hpw hpb k hk
              have HSW : Hid (pl.Pairwise (· < ·) ∧ (∀ x ∈ pl, x < st.length) ∧ pl.length ≤ 1000) := ⟨hpw, hpb, hplen⟩
              obtain ⟨z, hz⟩ : ∃ z, z = ps[acc'.length] := ⟨_, rfl⟩
              rw [← hz] at e2 HBAD HSTEP
              clear hl hF hne hpw hpb hi1 hi2 hOv HI hlm hpcell hz hplen hpc
              by_cases hz1 : z < 0
              · have HN := hide (HBAD.out (fun h => by omega))
                go_wp2_with fail
                go_ret2
                rw [HN.out]
                exact OrOut.none (below_on B1.out HOV6.out.2)
              · by_cases hz2' : z ≥ (pl.length : Int)
                · have HN := hide (HBAD.out (fun h => by omega))
                  go_wp2_with fail
                  go_ret2
                  rw [HN.out]
                  exact OrOut.none (below_on B1.out HOV6.out.2)
                · obtain ⟨k, rfl⟩ : ∃ k : Nat, z = (k : Int) := ⟨z.toNat, by omega⟩
                  have hk : k < pl.length := by omega
                  have JTk := hide (JT.out k hk)
                  have HSTk := hide (HSTEP.out k rfl hk)
                  have hpk : pl[k] < st.length := HSW.out.2.1 _ (List.getElem_mem hk)
                  have HPK : Hid (∀ V, Below w.heap.size w V → Rl V (.slice ar st.length cr) (up st)) := fun V hV => HRW.out.later hV
                  have HERR : Hid ((pl.eraseIdx k).Pairwise (· < ·) ∧ (∀ x ∈ pl.eraseIdx k, x < st.length) ∧ (pl.eraseIdx k).length = pl.length - 1) := ⟨HSW.out.1.sublist (List.eraseIdx_sublist _ _), fun x hx => HSW.out.2.1 x (List.mem_of_mem_eraseIdx hx), List.length_eraseIdx_of_lt hk⟩
                  obtain ⟨pk, hpke⟩ : ∃ X, X = pl[k] := ⟨_, rfl⟩
                  rw [← hpke] at JTk HSTk hpk
                  obtain ⟨pl2, hpl2⟩ : ∃ X, X = pl.eraseIdx k := ⟨_, rfl⟩
                  rw [← hpl2] at JTk HSTk HERR
                  have HW : Hid (st.length ≤ 1000 ∧ pl.length ≤ 1000) := ⟨HLN.out, HSW.out.2.2⟩
                  clear hpke hpl2 HSTEP HBAD JT hz1
                  go_wp2_with fail
                  refine JTk.out.mono ?_
                  rintro e w5 ⟨l', rfl, h5, hF5, hm5⟩
                  -- the order and the stage as they lie behind that
                  have hOv5 : Ov w (.slice a6 acc'.length c6) acc' w5 := by
                    refine ⟨hm5.own HOV6.out.1 (fun q hq e => HNE.out (by rw [hq, e])), ?_⟩
                    exact HOV6.out.2.trans (hm5.below HOV6.out.2.size (fun q e => by rw [e]; exact HG3.out))
                  obtain ⟨ar', cr', er, her1, her2, herc⟩ := HPK.out w5 hOv5.2
                  rw [up_len] at er her1
                  simp only [Value.slice.injEq, true_and] at er
                  obtain ⟨rfl, rfl⟩ := er
                  obtain ⟨gs, os, rfl, hscell⟩ := herc (by rw [up_len]; omega)
                  have e5 := hscell pk (by rw [up_len]; exact hpk)
                  have hup : (up st)[pk]'(by rw [up_len]; exact hpk) = ((st.getD pk 0 : Nat) : Int) := by
                    simp only [up, List.getElem_map, List.getD_eq_getElem?_getD, List.getElem?_eq_getElem hpk, Option.getD_some]
                  rw [hup] at e5
                  have tC : (pk : Int) < (st.length : Int) := by omega
                  have OV5 := hide hOv5
                  have H5 : Hid (Rw w5 w.heap.size (.slice (some ⟨g3, 0, none⟩) (st.length + 1) c3) l' ∧ Fw l' st.length pl2) := ⟨h5, hF5⟩
                  clear hOv5 h5 hF5 hm5 herc hscell hup
                  obtain ⟨sx, hsx⟩ : ∃ X, X = st.getD pk 0 := ⟨_, rfl⟩
                  rw [← hsx] at e5 HSTk
                  clear hsx
                  have hrow6 : w5.ownsRow w.heap.size 3 1 (.slice a6 acc'.length c6) acc'.length (zc (up acc')) := by
                    have := OV5.out.1
                    unfold Rw at this
                    rw [up_len] at this
                    exact this
                  have HR6 := hide hrow6
                  clear hrow6
                  go_wp2_with (at_builtin; refine wpList_append_own_at _ rfl _ _ 23 rfl w.heap.size 3 i0 (.int .i64 0) 1 8 Try.underlying23 hi0 hz0 hzz1 hz2 rfl (by decide) (.slice a6 acc'.length c6) acc'.length (zc (up acc')) rfl ?fB1 ⟨w5.heap.size, 0, none⟩ 1 1 [.int .i64 (sx : Int)] rfl rfl ?fB2 ?fB3 ?fB4 ?fB5 ?fB6 ?_)
                  case fB1 => exact own_later HR6.out (below_alloc w5 _)
                  case fB2 =>
                    intro j u hj
                    have : j = 0 := by
                      have := (List.getElem?_eq_some_iff.1 hj).1
                      simpa using this
                    subst this
                    simp only [List.getElem?_cons_zero, Option.some.injEq] at hj
                    subst hj
                    rw [WideShapes.add_plain, cell_of_row _ _ _ _ 3 (0, 0) (heap_alloc_new w5 _)]
                    rfl
                  case fB3 => intro u hu; rw [List.mem_singleton.1 hu]; rfl
                  case fB4 => have := HI'.out; have := HPL.out; have := HL.out; unfold maxLen; omega
                  case fB5 => have := HI'.out; have := HPL.out; have := HL.out; omega
                  case fB6 => have := OV5.out.2.size; simp; omega
                  intro v9 w9 ho9 hg9 _ hn9
                  have HNX : Hid (Oi w v9 (.slice (some ⟨g3, 0, none⟩) (st.length + 1) c3) g3 c3 st.length (acc' ++ [sx]) pl2 w9 ∧ res1 (pl2.map fun q => st.getD q 0) (sts.drop (j + 1)) ps (acc' ++ [sx]) = ordS sts ps ∧ pl2.length + (sts.drop (j + 1)).flatten.length + (acc' ++ [sx]).length = ps.length) := by
                    have hb6 := below_alloc w5 (.cells #[.int .i64 (sx : Int)] 3)
                    have ho6 := own_later HR6.out hb6
                    refine ⟨⟨⟨?_, ?_⟩, rfl, ⟨l', own_kept (own_later H5.out.1 hb6) hg9 (fun q hq e => ?_), H5.out.2⟩, fun e => ?_, HERR.out.1, HERR.out.2.1⟩, HSTk.out, ?_⟩
                    · unfold Rw
                      rw [up_add, zc_append, List.length_append, up_len]
                      exact ho9
                    · exact (below_on OV5.out.2 hb6).grown hg9 (below_on OV5.out.2 hb6).size (fun q e => (ho6.lt q e).1)
                    · simp only [Value.ownBlock, Option.some.injEq] at hq
                      subst hq
                      exact HNE.out e
                    · rcases hn9 with h | h
                      · rw [h] at e
                        exact HNE.out e
                      · rw [h] at e
                        have := (H5.out.1.lt g3 rfl).2
                        simp only [Option.some.injEq] at e
                        omega
                    · have h1 := HERR.out.2.2
                      have h2 := HI'.out
                      rw [List.length_append, List.length_singleton, h1]
                      omega
                  obtain ⟨a9, c9, rfl⟩ := own_len ho9
                  have hl2 : (pl.length : Int) - 1 = (pl2.length : Int) := by have := HERR.out.2.2; omega
                  have HL2 := hide hl2
                  have hbx : pl.length ≤ 9223372036854775807 := by have := HW.out; omega
                  clear ho9 hg9 hn9 hl2
                  go_wp2_with fail
                  go_roundw
                  case rel => exact ⟨acc' ++ [sx], pl2, by rw [HL2.out], HNX.out⟩
                  case measure => simp only [intOf]; rw [HL2.out]; have := HERR.out.2.2; omega
            · obtain rfl : pl = [] := List.eq_nil_of_length_eq_zero (by omega)
              obtain ⟨⟨hOv, -⟩, hi1, hi2⟩ := HI.out
              rw [List.map_nil, res1_nil] at hi1
              have HNX : Hid (Ov w u6 acc' wr ∧ (res (sts.drop (j + 1)) ps acc' = ordS sts ps ∧ (sts.drop (j + 1)).flatten.length + acc'.length = ps.length)) := ⟨hOv, hi1, by simpa using hi2⟩
              clear hOv hi1 hi2 HI
              simp only [List.length_nil]
              go_wp2_with fail
              go_roundw
              case rel => exact ⟨j + 1, acc', by omega, rfl, HNX.out⟩
              case measure => simp only [intOf]; omega
        · have t1 : ¬ (j : Int) < (rs.length : Int) := by omega
          obtain rfl : j = rs.length := by omega
          obtain ⟨hOv, hr1, hr2⟩ := HO.out
          have HOV := hide hOv
          obtain ⟨a6, c6, rfl⟩ := own_len hOv.1
          rw [HRL.out, List.drop_length, res_nil] at hr1
          have HR1 := hide hr1
          clear hOv hr1 hr2 HO
          go_wp2_with fail
          go_ret2
          rw [← HR1.out]
          exact OrOut.some (own_lower HOV.out.1 B1.out.size) (below_on B1.out HOV.out.2)
    · have hR : ordR sts L.length ps = none := by
        rw [ordR, if_neg hps, if_neg hn]
      rw [hR]
      have tn : ¬ (ps.length : Int) = (L.length : Int) := by omega
      clear hR hps hn hne0
      go_enter Try.func19, Try.ntmps19
      go_wp2_with fail
      go_ret2
      exact OrOut.none (Below.refl _ _)
end Go.Proofs.Ythgjdmomcpcolaa
