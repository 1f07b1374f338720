/-
  The document's plan: Order.
-/
import Derived.Test.YthgjdmomcpcolaaDf
namespace Go.Proofs.Ythgjdmomcpcolaa
open Go.RowKit
set_option maxRecDepth 100000
theorem StOf.ex (L : List Sy) : ∀ n, n ≤ L.length → ∃ sts, StOf L n sts
  | 0, _ => ⟨[], StOf.nil L⟩
  | n + 1, h => by
    obtain ⟨sts, hs⟩ := StOf.ex L n (by omega)
    exact ⟨_, hs.add (sg_bound hs (by omega))⟩
theorem Rl.frame {W W' : World} {v : Value} {l : List Int} {T : Nat → Prop} (h : Rl W v l) (hm : Mv W W' T) (hT : ∀ k, v.ownBlock = some k → ¬ T k) : Rl W' v l := by
  obtain ⟨ao, c, rfl, h2, h3, h4⟩ := h
  refine ⟨ao, c, rfl, h2, h3, fun h0 => ?_⟩
  obtain ⟨g, o, rfl, h5⟩ := h4 h0
  exact ⟨g, o, rfl, fun i hi => hm.cell (h5 i hi) (hT g rfl)⟩
theorem Rl.fore {W : World} {a : Option Addr} {n c : Nat} {l : List Int} (h : Rl W (.slice a n c) l) {k : Nat} (hk : k ≤ l.length) : Rl W (.slice a k c) (l.take k) := by
  obtain ⟨ao, c', e, h2, h3, h4⟩ := h
  simp only [Value.slice.injEq] at e
  obtain ⟨rfl, rfl, rfl⟩ := e
  have hl : (l.take k).length = k := by rw [List.length_take]; omega
  refine ⟨a, c, by rw [hl], by omega, h3, fun h0 => ?_⟩
  obtain ⟨g, o, rfl, h5⟩ := h4 (by omega)
  refine ⟨g, o, rfl, fun i hi => ?_⟩
  rw [h5 i (by omega), List.getElem_take]
theorem Rl.rear {W : World} {g o n c : Nat} {l : List Int} (h : Rl W (.slice (some ⟨g, o, none⟩) n c) l) {k : Nat} (hk : k ≤ l.length) {ao : Option Addr} (ha : k < l.length → ao = some ⟨g, o + k, none⟩) : Rl W (.slice ao (l.length - k) (c - k)) (l.drop k) := by
  obtain ⟨ao', c', e, h2, h3, h4⟩ := h
  simp only [Value.slice.injEq] at e
  obtain ⟨rfl, rfl, rfl⟩ := e
  have hl : (l.drop k).length = l.length - k := List.length_drop
  refine ⟨ao, c - k, by rw [hl], by omega, by omega, fun h0 => ?_⟩
  obtain ⟨g', o', e2, h5⟩ := h4 (by omega)
  cases e2
  refine ⟨g, o + k, ha (by omega), fun i hi => ?_⟩
  rw [Nat.add_assoc, h5 (k + i) (by omega), List.getElem_drop]
theorem up_erase (l : List Nat) (k : Nat) : up (l.eraseIdx k) = (up l).take k ++ (up l).drop (k + 1) := by
  unfold up
  rw [map_erase, List.eraseIdx_eq_take_drop_succ]
theorem up_at (l : List Nat) (k : Nat) (h : k < l.length) : (up l)[k]'(by rw [up_len]; exact h) = (l[k] : Int) := by simp [up]
set_option maxHeartbeats 16000000 in
theorem dorder_any {w : World} {B g : Nat} {L : List Sy} {vp : Value} {ps : List Int} (h : Dp w B g L) (hp : Rl w vp ps) (hps : ps.length * 8 ≤ 140737488355328) : Calls Try.prog 26 #[.pointer (some ⟨g, 0, none⟩), vp] w fun e w' => ∃ sts, StOf L L.length sts ∧ OrOut w (ordR sts L.length ps) e w' := by
  have H := hide h
  have HP := hide (dcopied_any hp hps)
  obtain ⟨n, hn⟩ : ∃ n, n = L.length := ⟨_, rfl⟩
  obtain ⟨vr, vw, rs0, ws0, k1, k2, k3, k4, k5, k6, k7, k8⟩ := h
  obtain ⟨aw, cw, rfl⟩ := own_len k3
  have e1 : w.cell? ⟨g, 1, none⟩ = some (.slice aw n cw) := by
    rw [cell_of_row _ _ _ _ 58 (0, 0) k1, hn, ← k5]
    rfl
  have hn1 : n ≤ 1000 := by omega
  have HN := hide hn
  have HN1 := hide hn1
  have hnb : (n : Int) ≤ 9223372036854775806 := by omega
  obtain ⟨ap, cp, rfl, hp1, hp2, hp3⟩ := hp
  obtain ⟨i0, hi0, hz0, hzz1, hz2⟩ := info_parts info3
  have HPS := hide hps
  have hpb : (ps.length : Int) ≤ 17592186044416 := by omega
  clear k1 k2 k3 k4 k5 k6 k7 k8 hn hn1 hp3 hps
  by_cases hc0 : ps = []
  · have hpl : ps.length = 0 := by rw [hc0]; rfl
    have HPL := hide hpl
    have HR : Hid (∀ sts, ordR sts L.length ps = ordS sts (List.replicate n 0)) := fun sts => by
      unfold ordR
      rw [if_pos hc0, if_pos (by simp), HN.out]
    rw [hpl] at HP hp1 ⊢
    clear hc0 hpl hpb
    go_enter Try.func26, Try.ntmps26
    go_wp2_with fail
    refine HP.out.mono ?_
    rintro e w1 ⟨v1, rfl, h1, b1⟩
    unfold Rw at h1
    rw [HPL.out] at h1
    obtain ⟨a1, c1, rfl⟩ := own_len h1
    have B1 := hide b1
    clear h1 b1 HP e1
    go_wp2_with (at_make; refine wpList_make_full _ rfl _ _ 23 rfl w.heap.size 3 i0 (.int .i64 0) 1 Try.underlying23 hi0 hz0 hzz1 .i64 .i64 _ _ n rfl rfl ?c1 ?c2 ?c3 ?c4 ?c5 ?_)
    case c1 => rfl
    case c2 => rfl
    case c3 => have := HN1.out; rw [hz2]; omega
    case c4 => have := HN1.out; unfold maxLen; omega
    case c5 => exact B1.out.size
    intro w2 hown hgrow
    rw [toList_madeCells_one] at hown
    have BW : Hid (Below w.heap.size w w2) := B1.out.grown hgrow B1.out.size (fun k e => by cases e)
    have HLR0 : Hid (∀ W, Below w2.heap.size w2 W → W.ownsRow w.heap.size 3 1 (.slice (some ⟨w1.heap.size, 0, none⟩) n n) n (zc (List.replicate n 0))) := fun W hW => by
      have := own_later hown hW
      simpa [zc] using this
    have HQL0 : Hid ((List.replicate n (0 : Int)).length = n) := by
      unfold Hid
      simp
    clear hown hgrow B1
    have HQL : Hid ((List.replicate n (0 : Int)).length = n) := HQL0.out
    have JS := hide (dstages_any (H.out.later BW.out))
    go_wp2_with fail
    refine JS.out.mono ?_
    rintro e w3 ⟨v9, rs, sts, rfl, hS, hSt, b3⟩
    have HST := hide hSt
    obtain ⟨a9, c9, rfl⟩ := own_len hS.1
    obtain ⟨hc91, hc92⟩ := own_cap hS.1
    obtain ⟨m9, hm9⟩ : ∃ m, m = rs.length := ⟨_, rfl⟩
    have HM9 : Hid (m9 = rs.length ∧ rs.length = sts.length) := ⟨hm9, hS.2.1⟩
    have HSW : Hid (∀ W, Below w3.heap.size w3 W → Ss W w2.heap.size (.slice a9 m9 c9) rs sts) := fun W hW => by
      have := hS.later hW
      rw [hm9]
      exact this
    have HLR : Hid (∀ W, Below w3.heap.size w3 W → W.ownsRow w.heap.size 3 1 (.slice (some ⟨w1.heap.size, 0, none⟩) n n) n (zc (List.replicate n (0 : Int)))) := fun W hW => HLR0.out W (below_on b3 hW)
    have HBL : Hid (Below w.heap.size w w3 ∧ ∀ r ∈ rs, ∀ k, r.ownBlock = some k → k < w3.heap.size) := ⟨below_on BW.out b3, hS.lt.2⟩
    have HFL : Hid (sts.flatten.length = n) := by
      unfold Hid
      rw [hSt.flat_len]
      exact HN.out.symm
    have hmb : (m9 : Int) ≤ 9223372036854775806 := by
      have h1 := hSt.few
      have h2 := hS.2.1
      have h3 := HN1.out
      have h4 := HN.out
      omega
    rw [← hm9] at hc91 ⊢
    clear hS hSt b3 hm9 JS HLR0 HQL0 BW
    go_wp2_with fail
    go_loopw [8, 10] (fun v8 v10 W => ∃ s : Nat, ∃ acc : List Nat, s ≤ m9 ∧ v10 = .int .i64 (s : Int) ∧ Hid (res (sts.drop s) (List.replicate n (0 : Int)) acc = ordS sts (List.replicate n (0 : Int)) ∧ acc.length + (sts.drop s).flatten.length = n ∧ W.ownsRow w3.heap.size 3 1 v8 acc.length (zc (up acc)) ∧ Below w3.heap.size w3 W)) (fun _ v10 _ => m9 - (intOf v10).toNat)
    case atStart => exact ⟨0, [], Nat.zero_le _, rfl, by simp [res], by simpa using HFL.out, World.ownsRow_nil _ _ _ _, Below.refl _ _⟩
    case round =>
      obtain ⟨s, acc, hs, rfl, HI⟩ := hrel
      obtain ⟨X0, rfl⟩ : ∃ X, X = wr := ⟨_, rfl⟩
      obtain ⟨q1, q2, q3, q4⟩ := HI.out
      obtain ⟨a8, c8, rfl⟩ := own_len q3
      by_cases hlt : s < m9
      · have t1 : (s : Int) < (m9 : Int) := by omega
        have hss : s < sts.length := by have := HM9.out; omega
        have hsr : s < rs.length := by have := HM9.out; omega
        have hS := HSW.out X0 q4
        have hS1 := hS.1
        rw [← HM9.out.1] at hS1
        obtain ⟨g9, c9', e9, -, -⟩ := own_form hS1 (by omega)
        simp only [Value.slice.injEq, true_and] at e9
        obtain ⟨rfl, rfl⟩ := e9
        have d1 : X0.cell? ⟨g9, s, none⟩ = some rs[s] := by rw [hS1.cellAt s (by omega), List.getElem?_eq_getElem hsr]
        have Q0 : Hid (∃ left acc', res1 left (sts.drop (s + 1)) (List.replicate n (0 : Int)) acc' = ordS sts (List.replicate n (0 : Int)) ∧ acc'.length + left.length + (sts.drop (s + 1)).flatten.length = n ∧ X0.ownsRow w3.heap.size 3 1 (.slice a8 acc.length c8) acc'.length (zc (up acc')) ∧ Rl X0 rs[s] (up left) ∧ (∀ k, rs[s].ownBlock = some k → (Value.slice a8 acc.length c8).ownBlock ≠ some k) ∧ Below w3.heap.size w3 X0) := by
          rw [List.drop_eq_getElem_cons hss] at q1 q2
          refine ⟨sts[s], acc, by rw [← res_cons]; exact q1, by rw [List.flatten_cons, List.length_append] at q2; omega, q3, Rl.of (hS.2.2.1 s hsr hss), fun k e1 e2 => ?_, q4⟩
          have := HBL.out.2 _ (List.getElem_mem hsr) k e1
          have := (q3.lt k e2).1
          omega
        generalize rs[s] = r at d1 Q0
        clear q1 q2 q3 q4 HI hS hS1
        go_wp2_with fail
        clear d1
        go_loopw [8, 11] (fun v8 v11 W => Hid (∃ left acc, res1 left (sts.drop (s + 1)) (List.replicate n (0 : Int)) acc = ordS sts (List.replicate n (0 : Int)) ∧ acc.length + left.length + (sts.drop (s + 1)).flatten.length = n ∧ W.ownsRow w3.heap.size 3 1 v8 acc.length (zc (up acc)) ∧ Rl W v11 (up left) ∧ (∀ k, v11.ownBlock = some k → v8.ownBlock ≠ some k) ∧ Below w3.heap.size w3 W)) (fun _ v11 _ => slen v11)
        case atStart => 
          exact Q0.out
        case round =>
          obtain ⟨left, acc1, q1, q2, q3, q4, q5, q6⟩ := hrel
          clear Q0
          obtain ⟨a8', c8', rfl⟩ := own_len q3
          have HQ4 := hide q4
          obtain ⟨a11, c11, rfl, hc11, hc12, hq4⟩ := q4
          rw [up_len] at hc11
          have hq4' : 0 < left.length → ∃ g o, a11 = some ⟨g, o, none⟩ ∧ ∀ i (h : i < left.length), wr.cell? ⟨g, o + i, none⟩ = some (.int .i64 (left[i] : Int)) := fun h0 => by
            obtain ⟨g, o, e, hc⟩ := hq4 (by rw [up_len]; exact h0)
            exact ⟨g, o, e, fun i h => by rw [hc i (by rw [up_len]; exact h), up_at]⟩
          have HA : Hid (Rl wr (.slice a11 left.length c11) (up left)) := by
            have := HQ4.out
            rw [up_len] at this
            exact this
          rw [up_len] at q5 ⊢
          have HQ1 := hide q1
          have HQ2 := hide q2
          have HQ3 := hide q3
          have HQ5 := hide q5
          have HQ6 := hide q6
          have hal : acc1.length ≤ n := by omega
          have HAL := hide hal
          clear q1 q2 q3 q5 q6 HQ4 hal hq4
          by_cases hl0 : 0 < left.length
          · have t2 : (0 : Int) < (left.length : Int) := by omega
            obtain ⟨g11, o11, rfl, hcells⟩ := hq4' hl0
            have han : acc1.length < n := by have := HQ2.out; omega
            have haq : acc1.length < (List.replicate n (0 : Int)).length := by rw [HQL.out]; exact han
            have hrl := HLR.out wr HQ6.out
            obtain ⟨gq, cq, eq', -, -⟩ := own_form hrl (by omega)
            simp only [Value.slice.injEq, true_and] at eq'
            obtain ⟨eqa, eqc⟩ := eq'
            have d1 : wr.cell? ⟨gq, acc1.length, none⟩ = some (.int .i64 (List.replicate n (0 : Int))[acc1.length]) := by
              rw [eqa] at hrl
              rw [hrl.cellAt acc1.length (by omega), zc_at _ _ haq]
            obtain ⟨kz, hkz⟩ : ∃ kz, kz = (List.replicate n (0 : Int))[acc1.length] := ⟨_, rfl⟩
            rw [← hkz] at d1
            have t3 : (acc1.length : Int) < (n : Int) := by omega
            by_cases hbad : kz < 0 ∨ kz ≥ (left.length : Int)
            · have HE : Hid (ordS sts (List.replicate n (0 : Int)) = none) := by
                unfold Hid
                rw [← HQ1.out]
                exact res1_bad haq hl0 (by rw [← hkz]; omega)
              have HBW := hide (below_on HBL.out.1 HQ6.out)
              clear hkz hcells hrl eqc
              simp only [Option.some.injEq, Addr.mk.injEq, and_true] at eqa; rw [← eqa] at d1; clear eqa
              by_cases hneg : kz < 0
              · have f1 : decide (kz < 0) = true := decide_eq_true hneg
                go_wp2_with fail
                go_ret2
                exact ⟨sts, HST.out, by rw [HR.out sts, HE.out]; exact OrOut.none HBW.out⟩
              · have hge : kz ≥ (left.length : Int) := by omega
                have f1 : decide (kz < 0) = false := decide_eq_false hneg
                have f2 : (left.length : Int) ≤ kz := hge
                go_wp2_with fail
                go_ret2
                exact ⟨sts, HST.out, by rw [HR.out sts, HE.out]; exact OrOut.none HBW.out⟩
            · obtain ⟨k, hk⟩ : ∃ k : Nat, kz = (k : Int) := ⟨kz.toNat, by omega⟩
              have hkl : k < left.length := by omega
              have HST2 : Hid (res1 (left.eraseIdx k) (sts.drop (s + 1)) (List.replicate n (0 : Int)) (acc1 ++ [left[k]]) = ordS sts (List.replicate n (0 : Int))) := by
                unfold Hid
                rw [← HQ1.out]
                exact (res1_step haq hl0 k (by rw [← hkz]; exact hk) hkl).symm
              have d2 : wr.cell? ⟨g11, o11 + k, none⟩ = some (.int .i64 (left[k] : Int)) := by
                rw [hcells k hkl]
              have f1 : ¬ kz < 0 := by omega
              have f2 : ¬ kz ≥ (left.length : Int) := by omega
              subst hk
              have f3 : decide ((k : Int) < 0) = false := decide_eq_false (by omega)
              have f4 : ¬ (left.length : Int) ≤ (k : Int) := by omega
              have t4 : (k : Int) < (left.length : Int) := by omega
              obtain ⟨y, hy⟩ : ∃ y, y = left[k] := ⟨_, rfl⟩
              rw [← hy] at d2
              have HY := hide hy
              rw [← hy] at HST2
              clear hkz hcells hrl eqc hbad f1 f2 hy
              simp only [Option.some.injEq, Addr.mk.injEq, and_true] at eqa; rw [← eqa] at d1; clear eqa
              go_wp2_with (at_builtin; refine wpList_append_nums rfl _ _ rfl w3.heap.size (.slice a8' acc1.length c8') acc1.length (zc (up acc1)) rfl ?p1 (.slice (some ⟨wr.heap.size, 0, none⟩) 1 1) [(y : Int)] rfl (Rl.lit wr _) ?p2 ?p3 ?_)
              case p1 => exact own_later HQ3.out (below_alloc wr _)
              case p2 => have := HAL.out; have := HN1.out; simp; omega
              case p3 => have := HQ6.out.size; simp; omega
              intro v12 w12 h12 hg12 hb12'
              have hb12 : v12.ownBlock = (Value.slice a8' acc1.length c8').ownBlock ∨ v12.ownBlock = some (wr.alloc (.cells #[.int .i64 (y : Int)] 3)).heap.size := by rw [alloc_size]; exact hb12'
              have hA12 : Rl w12 (.slice (some ⟨g11, o11, none⟩) left.length c11) (up left) := (HA.out.later (below_alloc wr (.cells #[.int .i64 (y : Int)] 3))).frame (T := fun k => (Value.slice a8' acc1.length c8').ownBlock = some k) ((Mv.refl _ _).grown hg12 (fun _ _ e => e)) (fun k e x => HQ5.out k e x)
              have hb3 : Below w3.heap.size w3 w12 := by
                have hb := below_on HQ6.out (below_alloc wr (.cells #[.int .i64 (y : Int)] 3))
                exact ⟨hg12.1.trans hb.os, hg12.2.trans hb.tape, hg12.3.trans hb.output, Nat.le_trans hb.size hg12.size, fun q hq => (hg12.block q (Nat.lt_of_lt_of_le hq hb.size) (fun e => by
                  have := (HQ3.out.lt q e.symm).1
                  omega)).trans (hb.block q hq)⟩
              have hlt11 : g11 < w12.heap.size := by
                obtain ⟨_, _, e, _, _, h5⟩ := hA12
                obtain ⟨g', o', e2, h6⟩ := h5 (by rw [up_len]; exact hl0)
                simp only [Value.slice.injEq] at e
                obtain ⟨rfl, -, -⟩ := e
                cases e2
                exact World.block_lt_of_cell? _ _ (h6 0 (by rw [up_len]; exact hl0))
              have HL12 : Hid (w12.ownsRow w3.heap.size 3 1 v12 (acc1.length + 1) (zc (up (acc1 ++ [y]))) ∧ Below w3.heap.size w3 w12 ∧ (∀ q, v12.ownBlock = some q → q < w12.heap.size) ∧ g11 < w12.heap.size) := by
                refine ⟨?_, hb3, fun q e => (h12.lt q e).2, hlt11⟩
                rw [up_add, zc_append]
                exact h12
              have HA12 := hide hA12
              have hk2 : k ≤ (up left).length := by rw [up_len]; omega
              have J25 := hide (dcopied_any (hA12.fore hk2) (by rw [List.length_take]; have := HN1.out; have := HQ2.out; omega))
              have t5 : (k : Int) ≤ (c11 : Int) := by omega
              obtain ⟨a12, c12, rfl⟩ := own_len h12
              clear h12 hg12 hb12 hb12' hA12 hb3 hlt11 HA HQ3 HQ5 HQ6 d1 d2 hk2
              go_wp2_with fail
              refine J25.out.mono ?_
              rintro e w13 ⟨v13, rfl, h13, b13⟩
              unfold Rw at h13
              have hkk : ((up left).take k).length = k := by rw [List.length_take, up_len]; omega
              rw [hkk] at h13
              obtain ⟨a13, c13, rfl⟩ := own_len h13
              have HW13 : Hid (w13.ownsRow w12.heap.size 3 1 (.slice a13 k c13) k (zc ((up left).take k)) ∧ Below w12.heap.size w12 w13) := ⟨h13, b13⟩
              have t6 : (k : Int) + 1 ≤ (left.length : Int) := by omega
              have t7 : (k : Int) + 1 ≤ (c11 : Int) := by omega
              have t8 : (left.length : Int) ≤ (c11 : Int) := by omega
              clear h13 b13 hkk J25
              by_cases hcc : c11 = k + 1
              · subst hcc
                go_wp2_with (at_builtin; refine wpList_append_nums rfl _ _ rfl w12.heap.size (.slice a13 k c13) k (zc ((up left).take k)) rfl ?p1 _ ((up left).drop (k + 1)) rfl ?pR ?p2 ?p3 ?_)
                case p1 => exact HW13.out.1
                case pR => 
                  have hh := HA12.out.later HW13.out.2
                  have := hh.rear (k := k + 1) (ao := some ⟨g11, o11, none⟩) (by rw [up_len]; omega) (fun h => by rw [up_len] at h; omega)
                  have hz : left.length - (k + 1) = 0 := by omega
                  rw [up_len, Nat.sub_self, hz] at this
                  exact this
                case p2 => have := HN1.out; have := HQ2.out; rw [List.length_drop, up_len]; omega
                case p3 => exact HW13.out.2.size
                intro v14 w14 h14 hg14 hb14
                have hdl : k + ((up left).length - (k + 1)) = (left.eraseIdx k).length := by rw [up_len, List.length_eraseIdx_of_lt hkl]; omega
                rw [hdl] at h14
                have HF : Hid (∃ left' acc', res1 left' (sts.drop (s + 1)) (List.replicate n (0 : Int)) acc' = ordS sts (List.replicate n (0 : Int)) ∧ acc'.length + left'.length + (sts.drop (s + 1)).flatten.length = n ∧ w14.ownsRow w3.heap.size 3 1 (.slice a12 (acc1.length + 1) c12) acc'.length (zc (up acc')) ∧ Rl w14 v14 (up left') ∧ (∀ q, v14.ownBlock = some q → (Value.slice a12 (acc1.length + 1) c12).ownBlock ≠ some q) ∧ Below w3.heap.size w3 w14) := by
                  obtain ⟨g1, g2, g3, g4⟩ := HL12.out
                  have hb14b : Below w12.heap.size w12 w14 := by
                    have hb := HW13.out.2
                    exact ⟨hg14.1.trans hb.os, hg14.2.trans hb.tape, hg14.3.trans hb.output, Nat.le_trans hb.size hg14.size, fun q hq => (hg14.block q (Nat.lt_of_lt_of_le hq hb.size) (fun e => by
                      have := (HW13.out.1.lt q e.symm).1
                      omega)).trans (hb.block q hq)⟩
                  refine ⟨left.eraseIdx k, acc1 ++ [y], HST2.out, ?_, ?_, ?_, fun q e1 e2 => ?_, below_on g2 hb14b⟩
                  · have := HQ2.out
                    rw [List.length_append, List.length_singleton, List.length_eraseIdx_of_lt hkl]
                    omega
                  · have := own_later g1 hb14b
                    rw [List.length_append, List.length_singleton]
                    exact this
                  · refine Rl.of (B := w12.heap.size) ?_
                    unfold Rw
                    rw [up_len, up_erase, zc_append]
                    exact h14
                  · have := (h14.lt q e1).1
                    have := g3 q e2
                    omega
                obtain ⟨a14, c14, rfl⟩ := own_len h14
                have hdd : (left.eraseIdx k).length < left.length := by rw [List.length_eraseIdx_of_lt hkl]; omega
                have HDD := hide hdd
                clear h14 hg14 hb14 hdl hdd
                go_wp2_with fail
                exact ⟨HF.out, HDD.out⟩
              · have hci : ¬ (c11 : Int) = (k : Int) + 1 := by omega
                go_wp2_with (at_builtin; refine wpList_append_nums rfl _ _ rfl w12.heap.size (.slice a13 k c13) k (zc ((up left).take k)) rfl ?p1 _ ((up left).drop (k + 1)) rfl ?pR ?p2 ?p3 ?_)
                case p1 => exact HW13.out.1
                case pR => 
                  have hh := HA12.out.later HW13.out.2
                  have := hh.rear (k := k + 1) (ao := some ⟨g11, o11 + (k + 1), none⟩) (by rw [up_len]; omega) (fun _ => rfl)
                  rw [up_len] at this
                  exact this
                case p2 => have := HN1.out; have := HQ2.out; rw [List.length_drop, up_len]; omega
                case p3 => exact HW13.out.2.size
                intro v14 w14 h14 hg14 hb14
                have hdl : k + ((up left).length - (k + 1)) = (left.eraseIdx k).length := by rw [up_len, List.length_eraseIdx_of_lt hkl]; omega
                rw [hdl] at h14
                have HF : Hid (∃ left' acc', res1 left' (sts.drop (s + 1)) (List.replicate n (0 : Int)) acc' = ordS sts (List.replicate n (0 : Int)) ∧ acc'.length + left'.length + (sts.drop (s + 1)).flatten.length = n ∧ w14.ownsRow w3.heap.size 3 1 (.slice a12 (acc1.length + 1) c12) acc'.length (zc (up acc')) ∧ Rl w14 v14 (up left') ∧ (∀ q, v14.ownBlock = some q → (Value.slice a12 (acc1.length + 1) c12).ownBlock ≠ some q) ∧ Below w3.heap.size w3 w14) := by
                  obtain ⟨g1, g2, g3, g4⟩ := HL12.out
                  have hb14b : Below w12.heap.size w12 w14 := by
                    have hb := HW13.out.2
                    exact ⟨hg14.1.trans hb.os, hg14.2.trans hb.tape, hg14.3.trans hb.output, Nat.le_trans hb.size hg14.size, fun q hq => (hg14.block q (Nat.lt_of_lt_of_le hq hb.size) (fun e => by
                      have := (HW13.out.1.lt q e.symm).1
                      omega)).trans (hb.block q hq)⟩
                  refine ⟨left.eraseIdx k, acc1 ++ [y], HST2.out, ?_, ?_, ?_, fun q e1 e2 => ?_, below_on g2 hb14b⟩
                  · have := HQ2.out
                    rw [List.length_append, List.length_singleton, List.length_eraseIdx_of_lt hkl]
                    omega
                  · have := own_later g1 hb14b
                    rw [List.length_append, List.length_singleton]
                    exact this
                  · refine Rl.of (B := w12.heap.size) ?_
                    unfold Rw
                    rw [up_len, up_erase, zc_append]
                    exact h14
                  · have := (h14.lt q e1).1
                    have := g3 q e2
                    omega
                obtain ⟨a14, c14, rfl⟩ := own_len h14
                have hdd : (left.eraseIdx k).length < left.length := by rw [List.length_eraseIdx_of_lt hkl]; omega
                have HDD := hide hdd
                clear h14 hg14 hb14 hdl hdd
                go_wp2_with fail
                exact ⟨HF.out, HDD.out⟩
          · have t2 : ¬ (0 : Int) < (left.length : Int) := by omega
            have HNX : Hid (res (sts.drop (s + 1)) (List.replicate n (0 : Int)) acc1 = ordS sts (List.replicate n (0 : Int)) ∧ acc1.length + (sts.drop (s + 1)).flatten.length = n ∧ wr.ownsRow w3.heap.size 3 1 (.slice a8' acc1.length c8') acc1.length (zc (up acc1)) ∧ Below w3.heap.size w3 wr) := by
              obtain rfl : left = [] := List.eq_nil_of_length_eq_zero (by omega)
              refine ⟨by rw [← res1_nil]; exact HQ1.out, by have := HQ2.out; rw [List.length_nil] at this; omega, HQ3.out, HQ6.out⟩
            clear hq4' HA HQ1 HQ2 HQ3 HQ5 HQ6
            go_wp2_with fail
            go_roundw
            case rel => exact ⟨s + 1, acc1, by omega, rfl, HNX.out⟩
            case measure => simp only [intOf]; omega
      · have t1 : ¬ (s : Int) < (m9 : Int) := by omega
        obtain rfl : s = m9 := by omega
        have HE : Hid (ordS sts (List.replicate n (0 : Int)) = some acc ∧ X0.ownsRow w.heap.size 3 1 (.slice a8 acc.length c8) acc.length (zc (up acc)) ∧ Below w.heap.size w X0) := by
          rw [List.drop_eq_nil_of_le (by have := HM9.out; omega)] at q1
          rw [res_nil] at q1
          exact ⟨q1.symm, own_lower q3 HBL.out.1.size, below_on HBL.out.1 q4⟩
        clear q1 q2 q3 q4 HI
        go_wp2_with fail
        go_ret2
        refine ⟨sts, HST.out, ?_⟩
        rw [HR.out sts, HE.out.1]
        refine OrOut.some ?_ HE.out.2.2
        unfold Rw
        rw [up_len]
        exact HE.out.2.1
  · have hpl : ¬ ps.length = 0 := fun e => hc0 (List.eq_nil_of_length_eq_zero e)
    have hpi : ¬ (ps.length : Int) = 0 := by omega
    by_cases hc1 : ps.length = n
    · have HR : Hid (∀ sts, ordR sts L.length ps = ordS sts ps) := fun sts => by
        unfold ordR
        rw [if_neg hc0, if_pos (by rw [hc1]; exact HN.out)]
      clear hc0
      have HQL0 : Hid (ps.length = n) := hc1
      have hnz : ¬ (n : Int) = 0 := by omega
      clear hc1 hpl hpi hpb
      go_enter Try.func26, Try.ntmps26
      go_wp2_with fail
      refine HP.out.mono ?_
      rintro e w2 ⟨v1, rfl, h1, b1⟩
      unfold Rw at h1
      rw [HQL0.out] at h1
      obtain ⟨a1, c1, rfl⟩ := own_len h1
      obtain ⟨hc11, hc12⟩ := own_cap h1
      have BW := hide b1
      have HLR0 : Hid (∀ W, Below w2.heap.size w2 W → W.ownsRow w.heap.size 3 1 (.slice a1 n c1) n (zc ps)) := fun W hW => own_later h1 hW
      clear h1 b1 HP e1
      have HQL : Hid ((ps).length = n) := HQL0.out
      have JS := hide (dstages_any (H.out.later BW.out))
      go_wp2_with fail
      refine JS.out.mono ?_
      rintro e w3 ⟨v9, rs, sts, rfl, hS, hSt, b3⟩
      have HST := hide hSt
      obtain ⟨a9, c9, rfl⟩ := own_len hS.1
      obtain ⟨hc91, hc92⟩ := own_cap hS.1
      obtain ⟨m9, hm9⟩ : ∃ m, m = rs.length := ⟨_, rfl⟩
      have HM9 : Hid (m9 = rs.length ∧ rs.length = sts.length) := ⟨hm9, hS.2.1⟩
      have HSW : Hid (∀ W, Below w3.heap.size w3 W → Ss W w2.heap.size (.slice a9 m9 c9) rs sts) := fun W hW => by
        have := hS.later hW
        rw [hm9]
        exact this
      have HLR : Hid (∀ W, Below w3.heap.size w3 W → W.ownsRow w.heap.size 3 1 (.slice a1 n c1) n (zc (ps))) := fun W hW => HLR0.out W (below_on b3 hW)
      have HBL : Hid (Below w.heap.size w w3 ∧ ∀ r ∈ rs, ∀ k, r.ownBlock = some k → k < w3.heap.size) := ⟨below_on BW.out b3, hS.lt.2⟩
      have HFL : Hid (sts.flatten.length = n) := by
        unfold Hid
        rw [hSt.flat_len]
        exact HN.out.symm
      have hmb : (m9 : Int) ≤ 9223372036854775806 := by
        have h1 := hSt.few
        have h2 := hS.2.1
        have h3 := HN1.out
        have h4 := HN.out
        omega
      rw [← hm9] at hc91 ⊢
      clear hS hSt b3 hm9 JS HLR0 HQL0 BW
      go_wp2_with fail
      go_loopw [8, 10] (fun v8 v10 W => ∃ s : Nat, ∃ acc : List Nat, s ≤ m9 ∧ v10 = .int .i64 (s : Int) ∧ Hid (res (sts.drop s) (ps) acc = ordS sts (ps) ∧ acc.length + (sts.drop s).flatten.length = n ∧ W.ownsRow w3.heap.size 3 1 v8 acc.length (zc (up acc)) ∧ Below w3.heap.size w3 W)) (fun _ v10 _ => m9 - (intOf v10).toNat)
      case atStart => exact ⟨0, [], Nat.zero_le _, rfl, by simp [res], by simpa using HFL.out, World.ownsRow_nil _ _ _ _, Below.refl _ _⟩
      case round =>
        obtain ⟨s, acc, hs, rfl, HI⟩ := hrel
        obtain ⟨X0, rfl⟩ : ∃ X, X = wr := ⟨_, rfl⟩
        obtain ⟨q1, q2, q3, q4⟩ := HI.out
        obtain ⟨a8, c8, rfl⟩ := own_len q3
        by_cases hlt : s < m9
        · have t1 : (s : Int) < (m9 : Int) := by omega
          have hss : s < sts.length := by have := HM9.out; omega
          have hsr : s < rs.length := by have := HM9.out; omega
          have hS := HSW.out X0 q4
          have hS1 := hS.1
          rw [← HM9.out.1] at hS1
          obtain ⟨g9, c9', e9, -, -⟩ := own_form hS1 (by omega)
          simp only [Value.slice.injEq, true_and] at e9
          obtain ⟨rfl, rfl⟩ := e9
          have d1 : X0.cell? ⟨g9, s, none⟩ = some rs[s] := by rw [hS1.cellAt s (by omega), List.getElem?_eq_getElem hsr]
          have Q0 : Hid (∃ left acc', res1 left (sts.drop (s + 1)) (ps) acc' = ordS sts (ps) ∧ acc'.length + left.length + (sts.drop (s + 1)).flatten.length = n ∧ X0.ownsRow w3.heap.size 3 1 (.slice a8 acc.length c8) acc'.length (zc (up acc')) ∧ Rl X0 rs[s] (up left) ∧ (∀ k, rs[s].ownBlock = some k → (Value.slice a8 acc.length c8).ownBlock ≠ some k) ∧ Below w3.heap.size w3 X0) := by
            rw [List.drop_eq_getElem_cons hss] at q1 q2
            refine ⟨sts[s], acc, by rw [← res_cons]; exact q1, by rw [List.flatten_cons, List.length_append] at q2; omega, q3, Rl.of (hS.2.2.1 s hsr hss), fun k e1 e2 => ?_, q4⟩
            have := HBL.out.2 _ (List.getElem_mem hsr) k e1
            have := (q3.lt k e2).1
            omega
          generalize rs[s] = r at d1 Q0
          clear q1 q2 q3 q4 HI hS hS1
          go_wp2_with fail
          clear d1
          go_loopw [8, 11] (fun v8 v11 W => Hid (∃ left acc, res1 left (sts.drop (s + 1)) (ps) acc = ordS sts (ps) ∧ acc.length + left.length + (sts.drop (s + 1)).flatten.length = n ∧ W.ownsRow w3.heap.size 3 1 v8 acc.length (zc (up acc)) ∧ Rl W v11 (up left) ∧ (∀ k, v11.ownBlock = some k → v8.ownBlock ≠ some k) ∧ Below w3.heap.size w3 W)) (fun _ v11 _ => slen v11)
          case atStart => 
            exact Q0.out
          case round =>
            obtain ⟨left, acc1, q1, q2, q3, q4, q5, q6⟩ := hrel
            clear Q0
            obtain ⟨a8', c8', rfl⟩ := own_len q3
            have HQ4 := hide q4
            obtain ⟨a11, c11, rfl, hc11, hc12, hq4⟩ := q4
            rw [up_len] at hc11
            have hq4' : 0 < left.length → ∃ g o, a11 = some ⟨g, o, none⟩ ∧ ∀ i (h : i < left.length), wr.cell? ⟨g, o + i, none⟩ = some (.int .i64 (left[i] : Int)) := fun h0 => by
              obtain ⟨g, o, e, hc⟩ := hq4 (by rw [up_len]; exact h0)
              exact ⟨g, o, e, fun i h => by rw [hc i (by rw [up_len]; exact h), up_at]⟩
            have HA : Hid (Rl wr (.slice a11 left.length c11) (up left)) := by
              have := HQ4.out
              rw [up_len] at this
              exact this
            rw [up_len] at q5 ⊢
            have HQ1 := hide q1
            have HQ2 := hide q2
            have HQ3 := hide q3
            have HQ5 := hide q5
            have HQ6 := hide q6
            have hal : acc1.length ≤ n := by omega
            have HAL := hide hal
            clear q1 q2 q3 q5 q6 HQ4 hal hq4
            by_cases hl0 : 0 < left.length
            · have t2 : (0 : Int) < (left.length : Int) := by omega
              obtain ⟨g11, o11, rfl, hcells⟩ := hq4' hl0
              have han : acc1.length < n := by have := HQ2.out; omega
              have haq : acc1.length < (ps).length := by rw [HQL.out]; exact han
              have hrl := HLR.out wr HQ6.out
              obtain ⟨gq, cq, eq', -, -⟩ := own_form hrl (by omega)
              simp only [Value.slice.injEq, true_and] at eq'
              obtain ⟨eqa, eqc⟩ := eq'
              have d1 : wr.cell? ⟨gq, acc1.length, none⟩ = some (.int .i64 (ps)[acc1.length]) := by
                rw [eqa] at hrl
                rw [hrl.cellAt acc1.length (by omega), zc_at _ _ haq]
              obtain ⟨kz, hkz⟩ : ∃ kz, kz = (ps)[acc1.length] := ⟨_, rfl⟩
              rw [← hkz] at d1
              have t3 : (acc1.length : Int) < (n : Int) := by omega
              by_cases hbad : kz < 0 ∨ kz ≥ (left.length : Int)
              · have HE : Hid (ordS sts (ps) = none) := by
                  unfold Hid
                  rw [← HQ1.out]
                  exact res1_bad haq hl0 (by rw [← hkz]; omega)
                have HBW := hide (below_on HBL.out.1 HQ6.out)
                clear hkz hcells hrl eqc
                subst eqa
                by_cases hneg : kz < 0
                · have f1 : decide (kz < 0) = true := decide_eq_true hneg
                  go_wp2_with fail
                  go_ret2
                  exact ⟨sts, HST.out, by rw [HR.out sts, HE.out]; exact OrOut.none HBW.out⟩
                · have hge : kz ≥ (left.length : Int) := by omega
                  have f1 : decide (kz < 0) = false := decide_eq_false hneg
                  have f2 : (left.length : Int) ≤ kz := hge
                  go_wp2_with fail
                  go_ret2
                  exact ⟨sts, HST.out, by rw [HR.out sts, HE.out]; exact OrOut.none HBW.out⟩
              · obtain ⟨k, hk⟩ : ∃ k : Nat, kz = (k : Int) := ⟨kz.toNat, by omega⟩
                have hkl : k < left.length := by omega
                have HST2 : Hid (res1 (left.eraseIdx k) (sts.drop (s + 1)) (ps) (acc1 ++ [left[k]]) = ordS sts (ps)) := by
                  unfold Hid
                  rw [← HQ1.out]
                  exact (res1_step haq hl0 k (by rw [← hkz]; exact hk) hkl).symm
                have d2 : wr.cell? ⟨g11, o11 + k, none⟩ = some (.int .i64 (left[k] : Int)) := by
                  rw [hcells k hkl]
                have f1 : ¬ kz < 0 := by omega
                have f2 : ¬ kz ≥ (left.length : Int) := by omega
                subst hk
                have f3 : decide ((k : Int) < 0) = false := decide_eq_false (by omega)
                have f4 : ¬ (left.length : Int) ≤ (k : Int) := by omega
                have t4 : (k : Int) < (left.length : Int) := by omega
                obtain ⟨y, hy⟩ : ∃ y, y = left[k] := ⟨_, rfl⟩
                rw [← hy] at d2
                have HY := hide hy
                rw [← hy] at HST2
                clear hkz hcells hrl eqc hbad f1 f2 hy
                subst eqa
                go_wp2_with (at_builtin; refine wpList_append_nums rfl _ _ rfl w3.heap.size (.slice a8' acc1.length c8') acc1.length (zc (up acc1)) rfl ?p1 (.slice (some ⟨wr.heap.size, 0, none⟩) 1 1) [(y : Int)] rfl (Rl.lit wr _) ?p2 ?p3 ?_)
                case p1 => exact own_later HQ3.out (below_alloc wr _)
                case p2 => have := HAL.out; have := HN1.out; simp; omega
                case p3 => have := HQ6.out.size; simp; omega
                intro v12 w12 h12 hg12 hb12'
                have hb12 : v12.ownBlock = (Value.slice a8' acc1.length c8').ownBlock ∨ v12.ownBlock = some (wr.alloc (.cells #[.int .i64 (y : Int)] 3)).heap.size := by rw [alloc_size]; exact hb12'
                have hA12 : Rl w12 (.slice (some ⟨g11, o11, none⟩) left.length c11) (up left) := (HA.out.later (below_alloc wr (.cells #[.int .i64 (y : Int)] 3))).frame (T := fun k => (Value.slice a8' acc1.length c8').ownBlock = some k) ((Mv.refl _ _).grown hg12 (fun _ _ e => e)) (fun k e x => HQ5.out k e x)
                have hb3 : Below w3.heap.size w3 w12 := by
                  have hb := below_on HQ6.out (below_alloc wr (.cells #[.int .i64 (y : Int)] 3))
                  exact ⟨hg12.1.trans hb.os, hg12.2.trans hb.tape, hg12.3.trans hb.output, Nat.le_trans hb.size hg12.size, fun q hq => (hg12.block q (Nat.lt_of_lt_of_le hq hb.size) (fun e => by
                    have := (HQ3.out.lt q e.symm).1
                    omega)).trans (hb.block q hq)⟩
                have hlt11 : g11 < w12.heap.size := by
                  obtain ⟨_, _, e, _, _, h5⟩ := hA12
                  obtain ⟨g', o', e2, h6⟩ := h5 (by rw [up_len]; exact hl0)
                  simp only [Value.slice.injEq] at e
                  obtain ⟨rfl, -, -⟩ := e
                  cases e2
                  exact World.block_lt_of_cell? _ _ (h6 0 (by rw [up_len]; exact hl0))
                have HL12 : Hid (w12.ownsRow w3.heap.size 3 1 v12 (acc1.length + 1) (zc (up (acc1 ++ [y]))) ∧ Below w3.heap.size w3 w12 ∧ (∀ q, v12.ownBlock = some q → q < w12.heap.size) ∧ g11 < w12.heap.size) := by
                  refine ⟨?_, hb3, fun q e => (h12.lt q e).2, hlt11⟩
                  rw [up_add, zc_append]
                  exact h12
                have HA12 := hide hA12
                have hk2 : k ≤ (up left).length := by rw [up_len]; omega
                have J25 := hide (dcopied_any (hA12.fore hk2) (by rw [List.length_take]; have := HN1.out; have := HQ2.out; omega))
                have t5 : (k : Int) ≤ (c11 : Int) := by omega
                obtain ⟨a12, c12, rfl⟩ := own_len h12
                clear h12 hg12 hb12 hb12' hA12 hb3 hlt11 HA HQ3 HQ5 HQ6 d1 d2 hk2
                go_wp2_with fail
                refine J25.out.mono ?_
                rintro e w13 ⟨v13, rfl, h13, b13⟩
                unfold Rw at h13
                have hkk : ((up left).take k).length = k := by rw [List.length_take, up_len]; omega
                rw [hkk] at h13
                obtain ⟨a13, c13, rfl⟩ := own_len h13
                have HW13 : Hid (w13.ownsRow w12.heap.size 3 1 (.slice a13 k c13) k (zc ((up left).take k)) ∧ Below w12.heap.size w12 w13) := ⟨h13, b13⟩
                have t6 : (k : Int) + 1 ≤ (left.length : Int) := by omega
                have t7 : (k : Int) + 1 ≤ (c11 : Int) := by omega
                have t8 : (left.length : Int) ≤ (c11 : Int) := by omega
                clear h13 b13 hkk J25
                by_cases hcc : c11 = k + 1
                · subst hcc
                  go_wp2_with (at_builtin; refine wpList_append_nums rfl _ _ rfl w12.heap.size (.slice a13 k c13) k (zc ((up left).take k)) rfl ?p1 _ ((up left).drop (k + 1)) rfl ?pR ?p2 ?p3 ?_)
                  case p1 => exact HW13.out.1
                  case pR => 
                    have hh := HA12.out.later HW13.out.2
                    have := hh.rear (k := k + 1) (ao := some ⟨g11, o11, none⟩) (by rw [up_len]; omega) (fun h => by rw [up_len] at h; omega)
                    have hz : left.length - (k + 1) = 0 := by omega
                    rw [up_len, Nat.sub_self, hz] at this
                    exact this
                  case p2 => have := HN1.out; have := HQ2.out; rw [List.length_drop, up_len]; omega
                  case p3 => exact HW13.out.2.size
                  intro v14 w14 h14 hg14 hb14
                  have hdl : k + ((up left).length - (k + 1)) = (left.eraseIdx k).length := by rw [up_len, List.length_eraseIdx_of_lt hkl]; omega
                  rw [hdl] at h14
                  have HF : Hid (∃ left' acc', res1 left' (sts.drop (s + 1)) (ps) acc' = ordS sts (ps) ∧ acc'.length + left'.length + (sts.drop (s + 1)).flatten.length = n ∧ w14.ownsRow w3.heap.size 3 1 (.slice a12 (acc1.length + 1) c12) acc'.length (zc (up acc')) ∧ Rl w14 v14 (up left') ∧ (∀ q, v14.ownBlock = some q → (Value.slice a12 (acc1.length + 1) c12).ownBlock ≠ some q) ∧ Below w3.heap.size w3 w14) := by
                    obtain ⟨g1, g2, g3, g4⟩ := HL12.out
                    have hb14b : Below w12.heap.size w12 w14 := by
                      have hb := HW13.out.2
                      exact ⟨hg14.1.trans hb.os, hg14.2.trans hb.tape, hg14.3.trans hb.output, Nat.le_trans hb.size hg14.size, fun q hq => (hg14.block q (Nat.lt_of_lt_of_le hq hb.size) (fun e => by
                        have := (HW13.out.1.lt q e.symm).1
                        omega)).trans (hb.block q hq)⟩
                    refine ⟨left.eraseIdx k, acc1 ++ [y], HST2.out, ?_, ?_, ?_, fun q e1 e2 => ?_, below_on g2 hb14b⟩
                    · have := HQ2.out
                      rw [List.length_append, List.length_singleton, List.length_eraseIdx_of_lt hkl]
                      omega
                    · have := own_later g1 hb14b
                      rw [List.length_append, List.length_singleton]
                      exact this
                    · refine Rl.of (B := w12.heap.size) ?_
                      unfold Rw
                      rw [up_len, up_erase, zc_append]
                      exact h14
                    · have := (h14.lt q e1).1
                      have := g3 q e2
                      omega
                  obtain ⟨a14, c14, rfl⟩ := own_len h14
                  have hdd : (left.eraseIdx k).length < left.length := by rw [List.length_eraseIdx_of_lt hkl]; omega
                  have HDD := hide hdd
                  clear h14 hg14 hb14 hdl hdd
                  go_wp2_with fail
                  exact ⟨HF.out, HDD.out⟩
                · have hci : ¬ (c11 : Int) = (k : Int) + 1 := by omega
                  go_wp2_with (at_builtin; refine wpList_append_nums rfl _ _ rfl w12.heap.size (.slice a13 k c13) k (zc ((up left).take k)) rfl ?p1 _ ((up left).drop (k + 1)) rfl ?pR ?p2 ?p3 ?_)
                  case p1 => exact HW13.out.1
                  case pR => 
                    have hh := HA12.out.later HW13.out.2
                    have := hh.rear (k := k + 1) (ao := some ⟨g11, o11 + (k + 1), none⟩) (by rw [up_len]; omega) (fun _ => rfl)
                    rw [up_len] at this
                    exact this
                  case p2 => have := HN1.out; have := HQ2.out; rw [List.length_drop, up_len]; omega
                  case p3 => exact HW13.out.2.size
                  intro v14 w14 h14 hg14 hb14
                  have hdl : k + ((up left).length - (k + 1)) = (left.eraseIdx k).length := by rw [up_len, List.length_eraseIdx_of_lt hkl]; omega
                  rw [hdl] at h14
                  have HF : Hid (∃ left' acc', res1 left' (sts.drop (s + 1)) (ps) acc' = ordS sts (ps) ∧ acc'.length + left'.length + (sts.drop (s + 1)).flatten.length = n ∧ w14.ownsRow w3.heap.size 3 1 (.slice a12 (acc1.length + 1) c12) acc'.length (zc (up acc')) ∧ Rl w14 v14 (up left') ∧ (∀ q, v14.ownBlock = some q → (Value.slice a12 (acc1.length + 1) c12).ownBlock ≠ some q) ∧ Below w3.heap.size w3 w14) := by
                    obtain ⟨g1, g2, g3, g4⟩ := HL12.out
                    have hb14b : Below w12.heap.size w12 w14 := by
                      have hb := HW13.out.2
                      exact ⟨hg14.1.trans hb.os, hg14.2.trans hb.tape, hg14.3.trans hb.output, Nat.le_trans hb.size hg14.size, fun q hq => (hg14.block q (Nat.lt_of_lt_of_le hq hb.size) (fun e => by
                        have := (HW13.out.1.lt q e.symm).1
                        omega)).trans (hb.block q hq)⟩
                    refine ⟨left.eraseIdx k, acc1 ++ [y], HST2.out, ?_, ?_, ?_, fun q e1 e2 => ?_, below_on g2 hb14b⟩
                    · have := HQ2.out
                      rw [List.length_append, List.length_singleton, List.length_eraseIdx_of_lt hkl]
                      omega
                    · have := own_later g1 hb14b
                      rw [List.length_append, List.length_singleton]
                      exact this
                    · refine Rl.of (B := w12.heap.size) ?_
                      unfold Rw
                      rw [up_len, up_erase, zc_append]
                      exact h14
                    · have := (h14.lt q e1).1
                      have := g3 q e2
                      omega
                  obtain ⟨a14, c14, rfl⟩ := own_len h14
                  have hdd : (left.eraseIdx k).length < left.length := by rw [List.length_eraseIdx_of_lt hkl]; omega
                  have HDD := hide hdd
                  clear h14 hg14 hb14 hdl hdd
                  go_wp2_with fail
                  exact ⟨HF.out, HDD.out⟩
            · have t2 : ¬ (0 : Int) < (left.length : Int) := by omega
              have HNX : Hid (res (sts.drop (s + 1)) (ps) acc1 = ordS sts (ps) ∧ acc1.length + (sts.drop (s + 1)).flatten.length = n ∧ wr.ownsRow w3.heap.size 3 1 (.slice a8' acc1.length c8') acc1.length (zc (up acc1)) ∧ Below w3.heap.size w3 wr) := by
                obtain rfl : left = [] := List.eq_nil_of_length_eq_zero (by omega)
                refine ⟨by rw [← res1_nil]; exact HQ1.out, by have := HQ2.out; rw [List.length_nil] at this; omega, HQ3.out, HQ6.out⟩
              clear hq4' HA HQ1 HQ2 HQ3 HQ5 HQ6
              go_wp2_with fail
              go_roundw
              case rel => exact ⟨s + 1, acc1, by omega, rfl, HNX.out⟩
              case measure => simp only [intOf]; omega
        · have t1 : ¬ (s : Int) < (m9 : Int) := by omega
          obtain rfl : s = m9 := by omega
          have HE : Hid (ordS sts (ps) = some acc ∧ X0.ownsRow w.heap.size 3 1 (.slice a8 acc.length c8) acc.length (zc (up acc)) ∧ Below w.heap.size w X0) := by
            rw [List.drop_eq_nil_of_le (by have := HM9.out; omega)] at q1
            rw [res_nil] at q1
            exact ⟨q1.symm, own_lower q3 HBL.out.1.size, below_on HBL.out.1 q4⟩
          clear q1 q2 q3 q4 HI
          go_wp2_with fail
          go_ret2
          refine ⟨sts, HST.out, ?_⟩
          rw [HR.out sts, HE.out.1]
          refine OrOut.some ?_ HE.out.2.2
          unfold Rw
          rw [up_len]
          exact HE.out.2.1
    · have hpn : ¬ (ps.length : Int) = (n : Int) := by omega
      obtain ⟨sts, hst⟩ := StOf.ex L L.length (Nat.le_refl _)
      have HR : Hid (StOf L L.length sts ∧ ordR sts L.length ps = none) := by
        refine ⟨hst, ?_⟩
        unfold ordR
        rw [if_neg hc0, if_neg (by rw [← HN.out]; exact hc1)]
      clear hc0 hst
      go_enter Try.func26, Try.ntmps26
      go_wp2_with fail
      refine HP.out.mono ?_
      rintro e w1 ⟨v1, rfl, h1, b1⟩
      obtain ⟨a1, c1, rfl⟩ := own_len h1
      have B1 := hide b1
      clear h1 b1 HP e1
      go_wp2_with fail
      go_ret2
      exact ⟨sts, HR.out.1, by rw [HR.out.2]; exact OrOut.none B1.out⟩
end Go.Proofs.Ythgjdmomcpcolaa
