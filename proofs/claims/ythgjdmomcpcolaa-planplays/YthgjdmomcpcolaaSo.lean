/-
  Plan: stagesOf.
-/
import Derived.Test.YthgjdmomcpcolaaSt
namespace Go.Proofs.Ythgjdmomcpcolaa
open Go.RowKit
set_option maxRecDepth 100000
/-- Under way: the stages of the first i. -/
def Sv (w : World) (ga g1 g2 : Nat) (_va : Value) (_vs : List (Value × Value)) (l : List Sy) (i : Nat) (v : Value) (W : World) : Prop :=
  ∃ rs sts, Ss W w.heap.size v rs sts ∧ StOf l i sts ∧ Mm W g1 g2 (i * 2000) (mks (l.take i)) ∧ W.heap[ga]? = some (.cells #[.map (some g1), .map (some g2)] 69 (0, 0)) ∧ Below w.heap.size w W ∧ w.heap.size ≤ ga ∧ w.heap.size ≤ g1 ∧ w.heap.size ≤ g2
/-- What lies beside the stages while one is put in. -/
def Bd (w : World) (ga gs g1 g2 n : Nat) (ms : Mk) (va vb : Value) (W : World) : Prop :=
  W.heap[ga]? = some (.cells #[.map (some g1), .map (some g2)] 69 (0, 0)) ∧ W.heap[gs]? = some (.cells #[va, vb] 74 (0, 0)) ∧ Mm W g1 g2 n ms ∧ Below w.heap.size w W
section
variable {w W W' : World} {ga gs g1 g2 n : Nat} {ms : Mk} {va vb : Value}
theorem Bd.later (h : Bd w ga gs g1 g2 n ms va vb W) (hb : Below W.heap.size W W') : Bd w ga gs g1 g2 n ms va vb W' :=
  ⟨(hb.block _ (lt_of_block h.1)).trans h.1, (hb.block _ (lt_of_block h.2.1)).trans h.2.1, h.2.2.1.later hb, below_on h.2.2.2 hb⟩
theorem Bd.turn {row : Option Nat} (h : Bd w ga gs g1 g2 n ms va vb W) (hg : W.grownBy W' row) (hr : ∀ k, row = some k → w.heap.size ≤ k ∧ ∃ cur e, W.heap[k]? = some (.cells cur e (0, 0)) ∧ e ≠ 69 ∧ e ≠ 74) : Bd w ga gs g1 g2 n ms va vb W' := by
  obtain ⟨h1, h2, h3, h4⟩ := h
  have nm : ∀ {gm m : Nat} {f : Int → Nat}, Mz W gm m f → row ≠ some gm := fun hz e => by
    obtain ⟨-, cur, e', hk, -⟩ := hr _ e
    obtain ⟨D, m, -, ⟨es, ck, q1, -⟩, -⟩ := hz
    rw [q1] at hk
    cases hk
  refine ⟨(hg.block ga (lt_of_block h1) (fun e => ?_)).trans h1, (hg.block gs (lt_of_block h2) (fun e => ?_)).trans h2, ⟨h3.1, h3.2.1.kept hg (nm h3.2.1), h3.2.2.kept hg (nm h3.2.2)⟩, h4.grown hg h4.size (fun k e => (hr k e).1)⟩
  · obtain ⟨-, cur, e', hk, n1, -⟩ := hr _ e.symm
    rw [h1] at hk
    simp only [Option.some.injEq, Obj.cells.injEq] at hk
    exact n1 hk.2.1.symm
  · obtain ⟨-, cur, e', hk, -, n1⟩ := hr _ e.symm
    rw [h2] at hk
    simp only [Option.some.injEq, Obj.cells.injEq] at hk
    exact n1 hk.2.1.symm
theorem Bd.row (h : Bd w ga gs g1 g2 n ms va vb W) {e s m : Nat} {v : Value} {xs : List Value} (ho : W.ownsRow w.heap.size e s v m xs) (n1 : e ≠ 69) (n2 : e ≠ 74) (hg : W.grownBy W' v.ownBlock) : Bd w ga gs g1 g2 n ms va vb W' :=
  h.turn hg (fun k hk => ⟨(ho.lt k hk).1, by obtain ⟨cur, hc⟩ := own_block ho hk; exact ⟨cur, e, hc, n1, n2⟩⟩)
theorem Bd.cells (h : Bd w ga gs g1 g2 n ms va vb W) : W.cell? ⟨ga, 0, none⟩ = some (.map (some g1)) ∧ W.cell? ⟨ga, 1, none⟩ = some (.map (some g2)) ∧ W.cell? ⟨gs, 0, none⟩ = some va ∧ W.cell? ⟨gs, 1, none⟩ = some vb := by
  refine ⟨?_, ?_, ?_, ?_⟩
  · rw [cell_of_row W _ _ _ 69 (0, 0) h.1]; rfl
  · rw [cell_of_row W _ _ _ 69 (0, 0) h.1]; rfl
  · rw [cell_of_row W _ _ _ 74 (0, 0) h.2.1]; rfl
  · rw [cell_of_row W _ _ _ 74 (0, 0) h.2.1]; rfl
end
theorem joinS_new (sts : List (List Nat)) (own k : Nat) (h : own = sts.length) : joinS sts own k = (sts ++ [[]]).set own ((sts ++ [[]]).getD own [] ++ [k]) := by
  subst h
  simp [joinS]
theorem joinS_old (sts : List (List Nat)) (own k : Nat) (h : own < sts.length) : joinS sts own k = sts.set own (sts.getD own [] ++ [k]) := by
  rw [joinS, if_neg (by omega)]
  apply List.ext_getElem
  · simp
  · intro j h1 h2
    rw [List.getElem_modify, List.getElem_set]
    by_cases e : own = j
    · subst e
      simp only [if_true, List.getD_eq_getElem?_getD, List.getElem?_eq_getElem h, Option.getD_some]
    · rw [if_neg e, if_neg e]
set_option maxHeartbeats 4000000 in
theorem stagesof_any {w : World} {B : Nat} {va : Value} {vs : List (Value × Value)} {l : List Sy} (h : As w B va vs l) (hl : l.length ≤ 1000) :
    Calls Try.prog 44 #[va] w fun e w' => ∃ v rs sts, e = .returned v ∧ Ss w' w.heap.size v rs sts ∧ StOf l l.length sts ∧ Below w.heap.size w w' := by
  have J := hide (nomarks_any w)
  have H := hide h
  obtain ⟨aa, ca, rfl⟩ := own_len h.1
  obtain ⟨hc1, hc2⟩ := own_cap h.1
  have hvl := h.2.1
  rw [hvl] at hc1 H ⊢
  have HVL := hide hvl
  have HL := hide hl
  clear h hvl hl
  go_enter Try.func44, Try.ntmps44
  go_wp2_with fail
  refine J.out.mono ?_
  rintro e w1 ⟨g1, g2, rfl, hM, hg1, hg2, hb⟩
  have S0 : Hid (Sv w w1.heap.size g1 g2 (.slice aa l.length ca) vs l 0 (.slice none 0 0) (w1.alloc (.cells #[.map (some g1), .map (some g2)] 69))) := by
    have b2 := below_alloc w1 (.cells #[.map (some g1), .map (some g2)] 69)
    refine ⟨[], [], Ss.nil _ _, StOf.nil l, ?_, heap_alloc_new w1 _, below_on hb b2, hb.size, hg1, hg2⟩
    have : mks (l.take 0) = [] := rfl
    rw [this, Nat.zero_mul]
    exact hM.later b2
  clear J hM hg1 hg2 hb
  go_wp2_with fail
  generalize w1.heap.size = ga at *
  generalize w1.alloc (.cells #[.map (some g1), .map (some g2)] 69) = w2 at *
  go_loopw [3, 11] (fun v3 v11 W => ∃ i : Nat, i ≤ l.length ∧ v11 = .int .i64 (i : Int) ∧ Hid (Sv w ga g1 g2 (.slice aa l.length ca) vs l i v3 W)) (fun _ v11 _ => l.length - (intOf v11).toNat)
  case atStart => exact ⟨0, Nat.zero_le _, rfl, S0.out⟩
  case round =>
    obtain ⟨i, hi, rfl, HS⟩ := hrel
    clear S0
    by_cases hlt : i < l.length
    · have t1 : (i : Int) < (l.length : Int) := by omega
      obtain ⟨rs, sts, q1, q2, q3, q4, q5, q6, q7, q8⟩ := HS.out
      have hA := H.out.later q5
      have hvi : i < vs.length := by have := HVL.out; omega
      obtain ⟨gv, cv, e0, -⟩ := own_form hA.1 (by omega)
      simp only [Value.slice.injEq] at e0
      obtain ⟨rfl, -, rfl⟩ := e0
      obtain ⟨a1, a2⟩ := hA.at i hvi
      obtain ⟨ar, cr, hv1⟩ := own_len (hA.2.2 i hvi hlt).1
      obtain ⟨aw, cw, hv2⟩ := own_len (hA.2.2 i hvi hlt).2.1
      have hAc := hA.2.2 i hvi hlt
      rw [hv1] at a1 hAc
      rw [hv2] at a2 hAc
      obtain ⟨av, cv3, rfl⟩ := own_len q1.1
      have hrl := q1.2.1
      have hfew := q2.few
      have hSb := sg_bound q2 hlt
      have hgr := sg_take l i hlt
      -- the new block of s
      have hga : ga < wr.heap.size := lt_of_block q4
      have b6 := below_alloc wr (.cells #[.slice ar l[i].1.length cr, .slice aw l[i].2.length cw] 74)
      have JS := hide (search_any (q3.later b6) (hAc.later b6 |> fun x => (⟨own_lower x.1 (Nat.zero_le _), own_lower x.2.1 (Nat.zero_le _), x.2.2⟩ : Ac _ 0 _ _ _)) rs.length (fun x hx => by have := mks_le _ x hx; rw [List.length_take] at this; have := HL.out; omega))
      rw [← hgr] at JS
      have z0 : ∀ o, (wr.alloc o).cell? ⟨ga, 0, none⟩ = some (.map (some g1)) := fun o => by
        rw [cell_of_row _ _ _ _ 69 (0, 0) (((below_alloc wr o).block ga hga).trans q4)]; rfl
      have z1 : ∀ o, (wr.alloc o).cell? ⟨ga, 1, none⟩ = some (.map (some g2)) := fun o => by
        rw [cell_of_row _ _ _ _ 69 (0, 0) (((below_alloc wr o).block ga hga).trans q4)]; rfl
      have B6 := hide b6
      have C6 : Hid ((wr.alloc (.cells #[.slice ar l[i].1.length cr, .slice aw l[i].2.length cw] 74)).heap[wr.heap.size]? = some (.cells #[.slice ar l[i].1.length cr, .slice aw l[i].2.length cw] 74 (0, 0))) := heap_alloc_new wr _
      have Q1 := hide q1
      have Q2 := hide q2
      have Q3 := hide q3
      have Q4 := hide q4
      have Q5 := hide q5
      have HAC := hide hAc
      have HSB := hide hSb
      have HGR := hide hgr
      have HFW := hide hfew
      have HRL := hide hrl
      have HQ : Hid (w.heap.size ≤ ga ∧ w.heap.size ≤ g1 ∧ w.heap.size ≤ g2) := ⟨q6, q7, q8⟩
      have hcap := own_cap q1.1
      obtain ⟨hcap1, hcap2⟩ := hcap
      have hV1 := hide hv1
      have hV2 := hide hv2
      clear b6 q1 q2 q3 q4 q5 q6 q7 q8 hAc hSb hgr hfew hrl hv1 hv2 hA HS
      go_wp2_with fail
      refine JS.out.mono ?_
      rintro e w7 ⟨r, rfl, hr1, hr2, b7⟩
      have er : r = sg l i := by have := HSB.out; have := HRL.out; omega
      subst er
      have b7' : Below wr.heap.size wr w7 := below_on B6.out b7
      have hBd7 : Bd w ga wr.heap.size g1 g2 (i * 2000) (mks (l.take i)) (.slice ar l[i].1.length cr) (.slice aw l[i].2.length cw) w7 := by
        refine ⟨(b7'.block ga hga).trans Q4.out, (b7.block _ (by simp)).trans C6.out, Q3.out.later b7', below_on Q5.out b7'⟩
      have hS7 := Q1.out.later b7'
      have hAc7 := hide (HAC.out.later b7')
      have hgs : w.heap.size ≤ wr.heap.size := Q5.out.size
      clear JS hr1 hr2 b7 b7' a1 a2 z0 z1 C6 B6 Q4 Q3 Q5 Q1 HAC
      obtain ⟨i0, hi0, hz0, hz1, hz2⟩ := info_parts info3
      obtain ⟨j0, hj0, hy0, hy1, hy2⟩ := info_parts info23
      by_cases hown : sg l i = rs.length
      · have tt : (sg l i : Int) = (rs.length : Int) := by omega
        have BD7 := hide hBd7
        have SS7 := hide hS7
        have HOWN := hide hown
        clear hBd7 hS7 hown
        go_wp2_with (at_builtin; refine wpList_append_own_at _ rfl _ _ 32 rfl w.heap.size 23 j0 (.slice none 0 0) 1 24 Try.underlying32 hj0 hy0 hy1 hy2 rfl (by decide) (.slice av rs.length cv3) rs.length rs rfl ?p1 ⟨w7.heap.size, 0, none⟩ 1 1 [.slice none 0 0] rfl rfl ?p2 ?p3 ?p4 ?p5 ?p6 ?_)
        case p1 => exact own_later SS7.out.1 (below_alloc w7 _)
        case p2 =>
          intro j u hj
          have : j = 0 := by
            have := (List.getElem?_eq_some_iff.1 hj).1
            simpa using this
          subst this
          simp only [List.getElem?_cons_zero, Option.some.injEq] at hj
          subst hj
          rw [WideShapes.add_plain, cell_of_row _ _ _ _ 23 (0, 0) (heap_alloc_new w7 _)]
          rfl
        case p3 => intro u hu; rw [List.mem_singleton.1 hu]; rfl
        case p4 => have := HFW.out; have := HRL.out; have := HL.out; unfold maxLen; omega
        case p5 => have := HFW.out; have := HRL.out; have := HL.out; omega
        case p6 => have := BD7.out.2.2.2.size; simp; omega
        intro v8 w8 hw8 hg8 _ hn8
        have hS8' := (SS7.out.later (below_alloc w7 _)).push hg8 hw8
        have hB8 := (BD7.out.later (below_alloc w7 _)).row (own_later SS7.out.1 (below_alloc w7 (.cells #[.slice none 0 0] 23))) (by decide) (by decide) hg8
        obtain ⟨rs8, hrs8⟩ : ∃ X, X = rs ++ [Value.slice none 0 0] := ⟨_, rfl⟩
        obtain ⟨sts8, hsts8⟩ : ∃ X, X = sts ++ [[]] := ⟨_, rfl⟩
        have hS8 : Ss w8 w.heap.size v8 rs8 sts8 := by rw [hrs8, hsts8]; exact hS8'
        have ho8 : rs.length < rs8.length := by rw [hrs8]; simp
        have hl8 : (sts8[rs.length]'(by rw [← hS8.2.1]; exact ho8)).length ≤ 1000 := by
          have hh : rs.length = sts.length := HRL.out
          simp [hsts8, hh]
        have HSE := hide hsts8
        clear hrs8 hsts8 hS8' hg8 hn8 hw8
        obtain ⟨g3, c3, rfl, hd1, hd2⟩ := own_form hS8.1 (by omega)
        have hos8 : rs.length < sts8.length := by rw [← hS8.2.1]; exact ho8
        have hrow := hS8.2.2.1 rs.length ho8 hos8
        have hce := hS8.1.cellAt rs.length (by omega)
        rw [List.getElem?_eq_getElem ho8] at hce
        obtain ⟨a8, c8, hv8⟩ := own_len hrow
        have HNL : Hid ((up sts8[rs.length]).length ≤ 1000) := by
          unfold Hid
          rw [up_len]
          exact hl8
        have B8 := hide hB8
        have S8 := hide hS8
        have R8 := hide hrow
        have HRB : Hid (rs8[rs.length].ownBlock = (Value.slice a8 (up sts8[rs.length]).length c8).ownBlock) := by unfold Hid; rw [hv8]
        rw [hv8] at hce R8
        have t8 : (rs.length : Int) < (rs8.length : Int) := by omega
        have hce2 : ∀ o, (w8.alloc o).cell? ⟨g3, rs.length, none⟩ = some (.slice a8 (up sts8[rs.length]).length c8) := fun o => (World.cell?_of_block ((below_alloc w8 o).block g3 (World.block_lt_of_cell? w8 _ hce))).trans hce
        have hc8 := own_cap R8.out
        obtain ⟨hc8a, hc8b⟩ := hc8
        have HO8 : Hid (rs.length < rs8.length ∧ rs.length < sts8.length) := ⟨ho8, hos8⟩
        clear hS8 hB8 hrow hv8 hl8
        obtain ⟨st9, hst9⟩ : ∃ X, X = up sts8[rs.length] := ⟨_, rfl⟩
        rw [← hst9] at hce R8 HRB hc8a HNL hce2
        have HST := hide hst9
        clear hst9 
        go_wp2_with (at_builtin; refine wpList_append_own_at _ rfl _ _ 23 rfl w.heap.size 3 i0 (.int .i64 0) 1 8 Try.underlying23 hi0 hz0 hz1 hz2 rfl (by decide) (.slice a8 st9.length c8) st9.length (zc st9) rfl ?oA1 ⟨w8.heap.size, 0, none⟩ 1 1 [.int .i64 (i : Int)] rfl rfl ?oA2 ?oA3 ?oA4 ?oA5 ?oA6 ?_)
        case oA1 => exact own_later R8.out (below_alloc w8 _)
        case oA2 =>
          intro j u hj
          have : j = 0 := by
            have := (List.getElem?_eq_some_iff.1 hj).1
            simpa using this
          subst this
          simp only [List.getElem?_cons_zero, Option.some.injEq] at hj
          subst hj
          rw [WideShapes.add_plain, cell_of_row _ _ _ _ 3 (0, 0) (heap_alloc_new w8 _)]
          rfl
        case oA3 => intro u hu; rw [List.mem_singleton.1 hu]; rfl
        case oA4 => have := HNL.out; unfold maxLen; omega
        case oA5 => have := HNL.out; omega
        case oA6 => have := B8.out.2.2.2.size; simp; omega
        intro v9 w9 ho9 hg9 _ hn9
        have hB9 := (B8.out.later (below_alloc w8 _)).row (own_later R8.out (below_alloc w8 (.cells #[.int .i64 (i : Int)] 3))) (by decide) (by decide) hg9
        have hr9 : Rw w9 w.heap.size v9 (up (sts8[rs.length]'HO8.out.2 ++ [i])) := by
          unfold Rw
          rw [up_add, ← HST.out, zc_append, List.length_append]
          exact ho9
        have ho39 : w9.ownsRow w.heap.size 23 1 (.slice (some ⟨g3, 0, none⟩) rs8.length c3) rs8.length rs8 := own_kept (own_later S8.out.1 (below_alloc w8 (.cells #[.int .i64 (i : Int)] 3))) hg9 (fun k hk e => own_apart S8.out.1 R8.out (by decide) k hk e)
        have hB10 : Bd w ga wr.heap.size g1 g2 (i * 2000) (mks (l.take i)) (.slice ar l[i].1.length cr) (.slice aw l[i].2.length cw) (w9.setCell ⟨g3, rs.length, none⟩ v9) := hB9.row ho39 (by decide) (by decide) (grown_set w9 g3 rs.length v9)
        have hS10 : Ss (w9.setCell ⟨g3, rs.length, none⟩ v9) w.heap.size (.slice (some ⟨g3, 0, none⟩) rs8.length c3) (rs8.set rs.length v9) (sts8.set rs.length (sts8[rs.length]'HO8.out.2 ++ [i])) := (S8.out.later (below_alloc w8 (.cells #[.int .i64 (i : Int)] 3))).put rs.length HO8.out.1 v9 _ (by rw [HRB.out]; exact hg9) hr9 (by
          rcases hn9 with h | h
          · exact .inl (by rw [HRB.out]; exact h)
          · exact .inr ⟨_, h, by simp⟩)
        have hfz : w9.frozen? ⟨g3, rs.length, none⟩ = false := ho39.frozenAt rs.length
        have hc39 := ho39.cellAt rs.length (by have := HO8.out.1; omega)
        rw [List.getElem?_eq_getElem HO8.out.1] at hc39
        have hcx : ∃ u, w9.cell? ⟨g3, rs.length, none⟩ = some u := ⟨_, hc39⟩
        obtain ⟨u39, hu39⟩ := hcx
        obtain ⟨a9, c9, hv9⟩ := own_len hr9
        obtain ⟨k1, k2, k3, k4⟩ := hB10.cells
        have hA10 := H.out.later hB10.2.2.2
        have hAc10 := hA10.2.2 i hvi hlt
        have JL := hide (leave_any hB10.2.2.1 (va := .slice ar l[i].1.length cr) (vb := .slice aw l[i].2.length cw) (s := l[i]) (⟨own_lower (hV1.out ▸ hAc10.1) (Nat.zero_le _), own_lower (hV2.out ▸ hAc10.2.1) (Nat.zero_le _), hAc10.2.2⟩) (rs.length + 1) (by have := HO8.out; have := HL.out; have := HFW.out; have := HRL.out; have := S8.out.2.1; omega) (fun x hx => by have := mks_le _ x hx; rw [List.length_take] at this; have := HL.out; omega) (by have := HL.out; omega))
        rw [Int.natCast_succ] at JL
        have HB10 := hide hB10
        have HS10 := hide hS10
        have HLN : Hid (l[i].1.length ≤ 1000 ∧ l[i].2.length ≤ 1000) := hAc10.2.2.2.2
        clear hB9 hr9 ho39 hB10 hS10 hc39 hA10 hAc10 hg9 ho9 hn9
        subst hv9
        go_wp2_with fail
        refine JL.out.mono ?_
        rintro e w11 ⟨rfl, hM11, hm11⟩
        have HR : Hid (Sv w ga g1 g2 (.slice (some ⟨gv, 0, none⟩) l.length ca) vs l (i + 1) (.slice (some ⟨g3, 0, none⟩) rs8.length c3) w11) := by
          have hb := HB10.out
          refine ⟨_, _, HS10.out.maps hb.2.2.1 hm11, ?_, ?_, ?_, ?_, HQ.out⟩
          · have := Q2.out.add HSB.out
            rw [joinS_new _ _ _ (by rw [HOWN.out]; exact HRL.out), ← HSE.out, HOWN.out] at this
            rw [List.getD_eq_getElem?_getD, List.getElem?_eq_getElem HO8.out.2, Option.getD_some] at this
            exact this
          · rw [mks_take l i hlt, HOWN.out]
            refine ⟨hM11.1, hM11.2.1.mono ?_, hM11.2.2.mono ?_⟩ <;> (have := HLN.out; omega)
          · refine (hm11.at hb.1 (fun e => ?_))
            rcases e with e | e
            · obtain ⟨D, m, -, ⟨es, ck, q1, -⟩, -⟩ := hb.2.2.1.2.1
              rw [← e, hb.1] at q1
              cases q1
            · obtain ⟨D, m, -, ⟨es, ck, q1, -⟩, -⟩ := hb.2.2.1.2.2
              rw [← e, hb.1] at q1
              cases q1
          · have hq := HQ.out
            have := hm11.below (B := w.heap.size) hb.2.2.2.size (fun k e => by rcases e with rfl | rfl <;> omega)
            exact hb.2.2.2.trans this
        go_wp2_with fail
        go_roundw
        case rel => exact ⟨i + 1, by omega, rfl, HR.out⟩
        case measure => simp only [intOf]; omega
      · have hlo : sg l i < rs.length := by have := HSB.out; have := HRL.out; omega
        have tt : ¬ (sg l i : Int) = (rs.length : Int) := by omega
        have hB8 := hBd7
        have hS8 := hS7
        have ho8 := hlo
        have hl8 : (sts[sg l i]'(by rw [← HRL.out]; exact hlo)).length ≤ 1000 := by
          have := Q2.out.short (j := sg l i) (by rw [← HRL.out]; exact hlo)
          have := HL.out
          omega
        clear hBd7 hS7
        obtain ⟨rs8, hrs8⟩ : ∃ X, X = rs := ⟨_, rfl⟩
        obtain ⟨sts8, hsts8⟩ : ∃ X, X = sts := ⟨_, rfl⟩
        subst hrs8
        subst hsts8
        obtain ⟨w8, hw8⟩ : ∃ X, X = w7 := ⟨_, rfl⟩
        subst hw8
        obtain ⟨g3, c3, e3, hd1, hd2⟩ := own_form hS8.1 (by omega)
        simp only [Value.slice.injEq, true_and] at e3
        obtain ⟨rfl, rfl⟩ := e3
        have hos8 : (sg l i) < sts8.length := by rw [← hS8.2.1]; exact ho8
        have hrow := hS8.2.2.1 (sg l i) ho8 hos8
        have hce := hS8.1.cellAt (sg l i) (by omega)
        rw [List.getElem?_eq_getElem ho8] at hce
        obtain ⟨a8, c8, hv8⟩ := own_len hrow
        have HNL : Hid ((up sts8[(sg l i)]).length ≤ 1000) := by
          unfold Hid
          rw [up_len]
          exact hl8
        have B8 := hide hB8
        have S8 := hide hS8
        have R8 := hide hrow
        have HRB : Hid (rs8[(sg l i)].ownBlock = (Value.slice a8 (up sts8[(sg l i)]).length c8).ownBlock) := by unfold Hid; rw [hv8]
        rw [hv8] at hce R8
        have t8 : ((sg l i) : Int) < (rs8.length : Int) := by omega
        have hce2 : ∀ o, (w8.alloc o).cell? ⟨g3, (sg l i), none⟩ = some (.slice a8 (up sts8[(sg l i)]).length c8) := fun o => (World.cell?_of_block ((below_alloc w8 o).block g3 (World.block_lt_of_cell? w8 _ hce))).trans hce
        have hc8 := own_cap R8.out
        obtain ⟨hc8a, hc8b⟩ := hc8
        have HO8 : Hid ((sg l i) < rs8.length ∧ (sg l i) < sts8.length) := ⟨ho8, hos8⟩
        clear hS8 hB8 hrow hv8 hl8
        obtain ⟨st9, hst9⟩ : ∃ X, X = up sts8[(sg l i)] := ⟨_, rfl⟩
        rw [← hst9] at hce R8 HRB hc8a HNL hce2
        have HST := hide hst9
        clear hst9 
        go_wp2_with (at_builtin; refine wpList_append_own_at _ rfl _ _ 23 rfl w.heap.size 3 i0 (.int .i64 0) 1 8 Try.underlying23 hi0 hz0 hz1 hz2 rfl (by decide) (.slice a8 st9.length c8) st9.length (zc st9) rfl ?oB1 ⟨w8.heap.size, 0, none⟩ 1 1 [.int .i64 (i : Int)] rfl rfl ?oB2 ?oB3 ?oB4 ?oB5 ?oB6 ?_)
        case oB1 => exact own_later R8.out (below_alloc w8 _)
        case oB2 =>
          intro j u hj
          have : j = 0 := by
            have := (List.getElem?_eq_some_iff.1 hj).1
            simpa using this
          subst this
          simp only [List.getElem?_cons_zero, Option.some.injEq] at hj
          subst hj
          rw [WideShapes.add_plain, cell_of_row _ _ _ _ 3 (0, 0) (heap_alloc_new w8 _)]
          rfl
        case oB3 => intro u hu; rw [List.mem_singleton.1 hu]; rfl
        case oB4 => have := HNL.out; unfold maxLen; omega
        case oB5 => have := HNL.out; omega
        case oB6 => have := B8.out.2.2.2.size; simp; omega
        intro v9 w9 ho9 hg9 _ hn9
        have hB9 := (B8.out.later (below_alloc w8 _)).row (own_later R8.out (below_alloc w8 (.cells #[.int .i64 (i : Int)] 3))) (by decide) (by decide) hg9
        have hr9 : Rw w9 w.heap.size v9 (up (sts8[(sg l i)]'HO8.out.2 ++ [i])) := by
          unfold Rw
          rw [up_add, ← HST.out, zc_append, List.length_append]
          exact ho9
        have ho39 : w9.ownsRow w.heap.size 23 1 (.slice (some ⟨g3, 0, none⟩) rs8.length cv3) rs8.length rs8 := own_kept (own_later S8.out.1 (below_alloc w8 (.cells #[.int .i64 (i : Int)] 3))) hg9 (fun k hk e => own_apart S8.out.1 R8.out (by decide) k hk e)
        have hB10 : Bd w ga wr.heap.size g1 g2 (i * 2000) (mks (l.take i)) (.slice ar l[i].1.length cr) (.slice aw l[i].2.length cw) (w9.setCell ⟨g3, (sg l i), none⟩ v9) := hB9.row ho39 (by decide) (by decide) (grown_set w9 g3 (sg l i) v9)
        have hS10 : Ss (w9.setCell ⟨g3, (sg l i), none⟩ v9) w.heap.size (.slice (some ⟨g3, 0, none⟩) rs8.length cv3) (rs8.set (sg l i) v9) (sts8.set (sg l i) (sts8[(sg l i)]'HO8.out.2 ++ [i])) := (S8.out.later (below_alloc w8 (.cells #[.int .i64 (i : Int)] 3))).put (sg l i) HO8.out.1 v9 _ (by rw [HRB.out]; exact hg9) hr9 (by
          rcases hn9 with h | h
          · exact .inl (by rw [HRB.out]; exact h)
          · exact .inr ⟨_, h, by simp⟩)
        have hfz : w9.frozen? ⟨g3, (sg l i), none⟩ = false := ho39.frozenAt (sg l i)
        have hc39 := ho39.cellAt (sg l i) (by have := HO8.out.1; omega)
        rw [List.getElem?_eq_getElem HO8.out.1] at hc39
        have hcx : ∃ u, w9.cell? ⟨g3, (sg l i), none⟩ = some u := ⟨_, hc39⟩
        obtain ⟨u39, hu39⟩ := hcx
        obtain ⟨a9, c9, hv9⟩ := own_len hr9
        obtain ⟨k1, k2, k3, k4⟩ := hB10.cells
        have hA10 := H.out.later hB10.2.2.2
        have hAc10 := hA10.2.2 i hvi hlt
        have JL := hide (leave_any hB10.2.2.1 (va := .slice ar l[i].1.length cr) (vb := .slice aw l[i].2.length cw) (s := l[i]) (⟨own_lower (hV1.out ▸ hAc10.1) (Nat.zero_le _), own_lower (hV2.out ▸ hAc10.2.1) (Nat.zero_le _), hAc10.2.2⟩) ((sg l i) + 1) (by have := HO8.out; have := HL.out; have := HFW.out; have := HRL.out; have := S8.out.2.1; omega) (fun x hx => by have := mks_le _ x hx; rw [List.length_take] at this; have := HL.out; omega) (by have := HL.out; omega))
        rw [Int.natCast_succ] at JL
        have HB10 := hide hB10
        have HS10 := hide hS10
        have HLN : Hid (l[i].1.length ≤ 1000 ∧ l[i].2.length ≤ 1000) := hAc10.2.2.2.2
        clear hB9 hr9 ho39 hB10 hS10 hc39 hA10 hAc10 hg9 ho9 hn9
        subst hv9
        go_wp2_with fail
        refine JL.out.mono ?_
        rintro e w11 ⟨rfl, hM11, hm11⟩
        have HR : Hid (Sv w ga g1 g2 (.slice (some ⟨gv, 0, none⟩) l.length ca) vs l (i + 1) (.slice (some ⟨g3, 0, none⟩) rs8.length cv3) w11) := by
          have hb := HB10.out
          refine ⟨_, _, HS10.out.maps hb.2.2.1 hm11, ?_, ?_, ?_, ?_, HQ.out⟩
          · have := Q2.out.add HSB.out
            rw [joinS_old _ _ _ HO8.out.2] at this
            rw [List.getD_eq_getElem?_getD, List.getElem?_eq_getElem HO8.out.2, Option.getD_some] at this
            exact this
          · rw [mks_take l i hlt, show mks (l.take i) ++ [(l[i], sg l i + 1)] = mks (l.take i) ++ [(l[i], sg l i + 1)] from rfl]
            refine ⟨hM11.1, hM11.2.1.mono ?_, hM11.2.2.mono ?_⟩ <;> (have := HLN.out; omega)
          · refine (hm11.at hb.1 (fun e => ?_))
            rcases e with e | e
            · obtain ⟨D, m, -, ⟨es, ck, q1, -⟩, -⟩ := hb.2.2.1.2.1
              rw [← e, hb.1] at q1
              cases q1
            · obtain ⟨D, m, -, ⟨es, ck, q1, -⟩, -⟩ := hb.2.2.1.2.2
              rw [← e, hb.1] at q1
              cases q1
          · have hq := HQ.out
            have := hm11.below (B := w.heap.size) hb.2.2.2.size (fun k e => by rcases e with rfl | rfl <;> omega)
            exact hb.2.2.2.trans this
        go_wp2_with fail
        go_roundw
        case rel => exact ⟨i + 1, by omega, rfl, HR.out⟩
        case measure => simp only [intOf]; omega
    · have t1 : ¬ (i : Int) < (l.length : Int) := by omega
      obtain rfl : i = l.length := by omega
      obtain ⟨rs, sts, q1, q2, q3, q4, q5, q6⟩ := HS.out
      have Q1 := hide q1
      have Q2 := hide q2
      have Q5 := hide q5
      obtain ⟨av, cv3, rfl⟩ := own_len q1.1
      clear q1 q2 q3 q4 q5 q6 HS
      go_wp2_with fail
      go_ret
      exact ⟨_, rfl, rs, sts, Q1.out, Q2.out, Q5.out⟩
end Go.Proofs.Ythgjdmomcpcolaa
