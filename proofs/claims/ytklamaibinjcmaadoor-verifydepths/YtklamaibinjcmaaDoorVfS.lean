/-
  Verify: a program that is asked; askSets.
-/
import Derived.Test.YtklamaibinjcmaaDoorVfP
import Derived.Test.YtklamaibinjcmaaDoorVfQ
import Derived.Test.YtklamaibinjcmaaDoorVfR
import Derived.Test.YtklamaibinjcmaaDoorVwA
namespace Go.Proofs.YtklamaibinjcmaaDoor
open Go.RowKit
set_option maxRecDepth 100000
/-- A program that is asked, in memory. -/
structure Pm (Q : Nat → Prop) (W : World) (B gv : Nat) (vs vf vk vr : Value) (p : Pg) (ks : List Kind) (L : List Rv) : Prop where
  blk : W.heap[gv]? = some (.cells #[vs, vf, vk, vr] 87 (0, 0))
  sys : Sys Q W vs p.sys
  fns : Rts Q W vf p.fns
  kin : Kr W vk ks
  own : W.ownsRow B 122 9 vr L.length (rvs L)
  ros : L.map Rv.ro = rosOf p
  ok : ∀ x ∈ L, RvOk Q W x
  tb : Tb W
section
variable {Q : Nat → Prop} {W W' : World} {B gv : Nat} {vs vf vk vr : Value} {p : Pg} {ks : List Kind} {L : List Rv}
theorem Pm.later (h : Pm Q W B gv vs vf vk vr p ks L) (hb : Below W.heap.size W W') : Pm Q W' B gv vs vf vk vr p ks L :=
  ⟨(hb.block gv (lt_of_block h.blk)).trans h.blk, h.sys.later hb, h.fns.later hb, h.kin.later hb, own_later h.own hb, h.ros, fun x hx => (h.ok x hx).later hb, h.tb.later hb⟩
theorem Pm.cells (h : Pm Q W B gv vs vf vk vr p ks L) : W.cell? ⟨gv, 0, none⟩ = some vs ∧ W.cell? ⟨gv, 1, none⟩ = some vf ∧ W.cell? ⟨gv, 2, none⟩ = some vk ∧ W.cell? ⟨gv, 3, none⟩ = some vr := by
  refine ⟨?_, ?_, ?_, ?_⟩ <;> rw [cell_of_row W _ _ _ 87 (0, 0) h.blk] <;> rfl
theorem Pm.len (h : Pm Q W B gv vs vf vk vr p ks L) : L.length = p.sys.length + p.fns.length := by
  have := congrArg List.length h.ros
  rw [List.length_map, rosOf_len] at this
  exact this
theorem Pm.at (h : Pm Q W B gv vs vf vk vr p ks L) {i : Nat} (hi : i < L.length) : L[i].ro = (rosOf p)[i]'(by rw [rosOf_len, ← h.len]; exact hi) := by
  have hx : (L.map Rv.ro)[i]? = (rosOf p)[i]? := by rw [h.ros]
  rw [List.getElem?_map, List.getElem?_eq_getElem hi, List.getElem?_eq_getElem (by rw [rosOf_len, ← h.len]; exact hi)] at hx
  simpa using hx
/-- A routine's cells. -/
theorem Pm.row (h : Pm Q W B gv vs vf vk vr p ks L) {i : Nat} (hi : i < L.length) : ∃ g c, vr = .slice (some ⟨g, 0, none⟩) L.length c ∧ L.length ≤ c ∧ c ≤ 9223372036854775807 ∧ W.cell? ⟨g, i * 9, none⟩ = some (.string L[i].ro.rt.name) ∧ W.cell? ⟨g, i * 9 + 1, none⟩ = some (.int .i64 L[i].ro.rt.pa) ∧ W.cell? ⟨g, i * 9 + 2, none⟩ = some (.int .i64 L[i].ro.rt.lo) ∧ W.cell? ⟨g, i * 9 + 3, none⟩ = some L[i].vc ∧ W.cell? ⟨g, i * 9 + 4, none⟩ = some (.int .i64 (L[i].ro.pl : Int)) ∧ W.cell? ⟨g, i * 9 + 5, none⟩ = some (.bool L[i].ro.sy) ∧ W.cell? ⟨g, i * 9 + 6, none⟩ = some L[i].vr ∧ W.cell? ⟨g, i * 9 + 7, none⟩ = some L[i].vw ∧ W.cell? ⟨g, i * 9 + 8, none⟩ = some L[i].vd := by
  obtain ⟨g, c, e, h1, h2⟩ := own_form h.own (by omega)
  have ho := h.own
  rw [e] at ho
  have key : ∀ j, j < 9 → W.cell? ⟨g, i * 9 + j, none⟩ = (rvC L[i])[j]? := fun j hj => by rw [ho.cellAt (i * 9 + j) (by omega), rvs_at hi hj]
  exact ⟨g, c, e, h1, h2, key 0 (by omega), key 1 (by omega), key 2 (by omega), key 3 (by omega), key 4 (by omega), key 5 (by omega), key 6 (by omega), key 7 (by omega), key 8 (by omega)⟩
end
/-- A system names a kind that there is not. -/
def SetBad (nk : Nat) (sys : List Sy) (n : Nat) : Prop := ∃ h : n < sys.length, ∃ k ∈ sys[n].wi ++ sys[n].wo ++ sys[n].re ++ sys[n].wr, (nk : Int) < k
def plOf (p : Pg) (n : Nat) : Int := ((rosOf p)[n]?.map fun r => (r.pl : Int)).getD 0
set_option maxHeartbeats 8000000 in
theorem asksets_any {Q : Nat → Prop} {W : World} {B gv : Nat} {vs vf vk vr : Value} {p : Pg} {ks : List Kind} {L : List Rv} (h : Pm Q W B gv vs vf vk vr p ks L) (hsz : ∀ s ∈ p.sys, s.wi.length ≤ 12 ∧ s.wo.length ≤ 12 ∧ s.re.length ≤ 12 ∧ s.wr.length ≤ 12) : Calls Tryd.prog 31 #[.pointer (some ⟨gv, 0, none⟩)] W fun e w' => ∃ v on, e = .returned v ∧ Fst p.sys.length (SetBad ks.length p.sys) on ∧ Flt w' v (on.map fun n => (plOf p n, 60)) ∧ Below W.heap.size W w' := by
  have HP := hide h
  have HSZ := hide hsz
  have JF : Hid (∀ a e W, Calls Tryd.prog 23 #[.int .i64 a, .int .i64 e] W fun en w' => ∃ v, en = .returned v ∧ Flt w' v (some (a, e)) ∧ Below W.heap.size W w') := fault_any
  obtain ⟨c0, c1, c2, c3⟩ := h.cells
  obtain ⟨sa, sc, rfl, s1, s2⟩ := h.sys.at
  obtain ⟨ka, kc, hvk, k1, k2, -⟩ := h.kin
  subst hvk
  have k3 : kc ≤ 9223372036854775807 := by unfold maxLen at k2; omega
  obtain ⟨ns, hns⟩ : ∃ n, n = p.sys.length := ⟨_, rfl⟩
  obtain ⟨nk, hnk'⟩ : ∃ n, n = ks.length := ⟨_, rfl⟩
  have HNS := hide hns
  have HNK := hide hnk'
  rw [← hns] at c0 s1 HP ⊢
  rw [← hnk'] at c2 k1 HP ⊢
  obtain ⟨sys, hsys⟩ : ∃ x, x = p.sys := ⟨_, rfl⟩
  have HSY := hide hsys
  rw [← hsys] at HSZ HNS ⊢
  clear h hsz hns hnk' k2 hsys
  go_enter Tryd.func31, Tryd.ntmps31
  go_wp2_with fail
  clear c0 c1 c2 c3
  go_loopw [13] (fun v13 V => ∃ i : Nat, i ≤ ns ∧ v13 = .int .i64 (i : Int) ∧ Hid (∀ j, j < i → ¬ SetBad nk sys j) ∧ Hid (Below W.heap.size W V)) (fun v13 _ => ns - (intOf v13).toNat)
  case atStart => exact ⟨0, Nat.zero_le _, rfl, fun j hj => absurd hj (by omega), Below.refl _ _⟩
  case round =>
    obtain ⟨i, hi, rfl, HNO, HB⟩ := hrel
    by_cases hlt : i < ns
    · have t1 : (i : Int) < (ns : Int) := by omega
      have his : i < sys.length := by have := HNS.out; omega
      obtain ⟨g, o, rfl, -, hat⟩ := HP.out.sys.nth (k := i) (by rw [← HSY.out]; exact his)
      obtain ⟨a1, a2, a3, a4, a5, n1, n2, n3, n4, n5, q1, q2, q3, q4, q5, HV, y1, y2, y3, y4, y5, y6, y7, y8⟩ := hat.vs
      have hM := Mv.of_below HB.out (fun _ => False)
      have z1 := hM.cell y1 id
      have z2 := hM.cell y2 id
      have z3 := hM.cell y3 id
      have z4 := hM.cell y4 id
      have z5 := hM.cell y5 id
      have z6 := hM.cell y6 id
      have z7 := hM.cell y7 id
      have z8 := hM.cell y8 id
      have hs4 := HSZ.out sys[i] (List.getElem_mem his)
      have hse : p.sys[i]'(by rw [← HSY.out]; exact his) = sys[i] := by simp only [HSY.out]
      have HV' := hide (HV.later HB.out)
      rw [hse] at z5 z6 z7 HV'
      have HBAD : Hid (SetBad nk sys i ↔ ∃ k ∈ sys[i].wi ++ sys[i].wo ++ sys[i].re ++ sys[i].wr, (nk : Int) < k) := ⟨fun ⟨_, h⟩ => h, fun h => ⟨his, h⟩⟩
      have HS4 := hide hs4
      clear hat HV hM y1 y2 y3 y4 y5 y6 y7 y8 hs4 hse
      generalize sys[i] = s at *
      obtain ⟨wi, wo, re, wrt, nm, pa, lo, code⟩ := s
      dsimp only at z1 z2 z3 z4 z5 z6 z7 z8 HV' HBAD HS4
      go_upto_region 4 with fail
      obtain ⟨g4, hg4⟩ : ∃ x, x = wr.heap.size := ⟨_, rfl⟩
      obtain ⟨W1, hW1⟩ : ∃ X, X = wr.alloc (.cells #[.slice a1 n1 q1, .slice a2 n2 q2, .slice a3 n3 q3, .slice a4 n4 q4, .string nm, .int .i64 pa, .int .i64 lo, .slice a5 n5 q5] 60) := ⟨_, rfl⟩
      have b1 : Below wr.heap.size wr W1 := hW1 ▸ below_alloc wr _
      have k4' : W1.heap[g4]? = some (.cells #[.slice a1 n1 q1, .slice a2 n2 q2, .slice a3 n3 q3, .slice a4 n4 q4, .string nm, .int .i64 pa, .int .i64 lo, .slice a5 n5 q5] 60 (0, 0)) := by rw [hW1, hg4]; exact heap_alloc_new wr _
      rw [← hW1, ← hg4]
      obtain ⟨x1, x2, x3, x4, -⟩ := row8 k4'
      obtain ⟨W2, hW2⟩ : ∃ X, X = W1.alloc (.cells #[.slice a1 n1 q1, .slice a2 n2 q2, .slice a3 n3 q3, .slice a4 n4 q4] 32) := ⟨_, rfl⟩
      have b2 : Below W1.heap.size W1 W2 := hW2 ▸ below_alloc W1 _
      have kl2 : W2.heap[W1.heap.size]? = some (.cells #[.slice a1 n1 q1, .slice a2 n2 q2, .slice a3 n3 q3, .slice a4 n4 q4] 32 (0, 0)) := by rw [hW2]; exact heap_alloc_new W1 _
      have V2 := HV'.out.later (below_on b1 b2)
      have hs4 := HS4.out
      have JC : Hid (Calls Tryd.prog 52 #[.slice (some ⟨W1.heap.size, 0, none⟩) 4 4] W2 fun e w' => ∃ v', e = .returned v' ∧ w'.ownsRow W2.heap.size 3 1 v' (totI [wi, wo, re, wrt]) (zq [wi, wo, re, wrt].flatten) ∧ Below W2.heap.size W2 w') := concati_any (Q := Q) W1.heap.size 4 (fun i => [Value.slice a1 n1 q1, .slice a2 n2 q2, .slice a3 n3 q3, .slice a4 n4 q4].getD i undef) [wi, wo, re, wrt] W2 (Nat.le_refl _) (by omega) (fun i hi => by
          rw [cell_of_row W2 _ _ _ 32 (0, 0) kl2]
          match i, hi with
          | 0, _ => rfl
          | 1, _ => rfl
          | 2, _ => rfl
          | 3, _ => rfl) (fun i hi => by
          match i, hi with
          | 0, _ => exact V2.w
          | 1, _ => exact V2.wo
          | 2, _ => exact V2.re
          | 3, _ => exact V2.wr) (by simp [totI]; omega)
      have BW2 := hide (below_on HB.out (below_on b1 b2))
      have HW2 := hide hW2
      have HFL : Hid ([wi, wo, re, wrt].flatten = wi ++ wo ++ re ++ wrt ∧ totI [wi, wo, re, wrt] = (wi ++ wo ++ re ++ wrt).length ∧ (wi ++ wo ++ re ++ wrt).length ≤ 48) := ⟨by simp, by simp [totI], by simp; omega⟩
      rw [HFL.out.1, HFL.out.2.1] at JC
      obtain ⟨fl, hfl⟩ : ∃ x, x = wi ++ wo ++ re ++ wrt := ⟨_, rfl⟩
      rw [← hfl] at HBAD JC HFL
      obtain ⟨nfl, hnfl⟩ : ∃ x, x = fl.length := ⟨_, rfl⟩
      rw [← hnfl] at JC HFL
      have HNF := hide hnfl
      have h48 := HFL.out.2.2
      clear hW1 hg4 b1 z1 z2 z3 z4 z5 z6 z7 z8 hW2 b2 kl2 V2 hs4 HS4 HV' hfl hnfl k4'
      go_wp2_with fail
      rw [← HW2.out]
      refine JC.out.mono ?_
      rintro e w3 ⟨v27, rfl, o3, b3⟩
      obtain ⟨a27, c27, hv27⟩ := own_len o3
      subst hv27
      obtain ⟨f1, f2⟩ := own_cap o3
      have O3 : Hid (∀ V, Below w3.heap.size w3 V → V.ownsRow W2.heap.size 3 1 (.slice a27 nfl c27) nfl (zq fl)) := fun V hV => own_later o3 hV
      have B3 := hide (below_on BW2.out b3)
      clear o3 b3 JC x1 x2 x3 x4 HW2
      go_wp2_with fail
      go_loopw [29] (fun v29 V => ∃ k : Nat, k ≤ nfl ∧ v29 = .int .i64 (k : Int) ∧ Hid (∀ j (hj : j < fl.length), j < k → ¬ (nk : Int) < fl[j]) ∧ Hid (Below w3.heap.size w3 V)) (fun v29 _ => nfl - (intOf v29).toNat)
      case atStart => exact ⟨0, Nat.zero_le _, rfl, fun j hj h => absurd h (by omega), Below.refl _ _⟩
      case round =>
        obtain ⟨k, hk, rfl, HK, HBK⟩ := hrel
        by_cases hlt2 : k < nfl
        · have t2 : (k : Int) < (nfl : Int) := by omega
          have hkf : k < fl.length := by have := HNF.out; omega
          have oo := O3.out wr HBK.out
          obtain ⟨ga, ca, ea, -, -⟩ := own_form oo (by omega)
          simp only [Value.slice.injEq, true_and] at ea
          obtain ⟨rfl, rfl⟩ := ea
          have dk : wr.cell? ⟨ga, k, none⟩ = some (.int .i64 fl[k]) := by
            rw [oo.cellAt k (by omega)]
            simp [zq, hkf]
          have BK := hide (below_on B3.out HBK.out)
          obtain ⟨-, -, y2, y3⟩ := (HP.out.later BK.out).cells
          obtain ⟨y, hy⟩ : ∃ y, y = fl[k] := ⟨_, rfl⟩
          have HY := hide hy
          rw [← hy] at dk
          clear oo hy
          by_cases cy : y > (nk : Int)
          · have hiL : i < L.length := by rw [HP.out.len, ← HSY.out]; omega
            obtain ⟨gr, cr, hvr, r1, r2, -, -, -, -, r7, -⟩ := (HP.out.later BK.out).row hiL
            have hpl : plOf p i = (L[i].ro.pl : Int) := by
              unfold plOf
              rw [HP.out.at hiL, List.getElem?_eq_getElem (by rw [rosOf_len, ← HP.out.len]; exact hiL)]
              rfl
            have HFST : Hid (Fst sys.length (SetBad nk sys) (some i)) := ⟨his, HBAD.out.2 ⟨fl[k], List.getElem_mem hkf, by rw [← HY.out]; exact cy⟩, HNO.out⟩
            have HPL := hide hpl
            obtain ⟨pl, hpl'⟩ : ∃ x : Int, x = (L[i].ro.pl : Int) := ⟨_, rfl⟩
            rw [← hpl'] at r7 HPL
            obtain ⟨nl, hnl⟩ : ∃ x, x = L.length := ⟨_, rfl⟩
            rw [← hnl] at hiL hvr r1
            have ti : (i : Int) < (nl : Int) := by omega
            subst hvr
            clear hpl hpl' hnl
            go_wp2_with fail
            refine (JF.out _ _ _).mono ?_
            rintro e w5 ⟨v5, rfl, f5, b5⟩
            have F5 := hide f5
            have B5 := hide (below_on BK.out b5)
            clear f5 b5 dk y2 y3 r7
            go_wp2_with fail
            go_ret
            refine ⟨_, some i, rfl, HNS.out ▸ HFST.out, ?_, B5.out⟩
            show Flt w5 v5 (some (plOf p i, 60))
            rw [HPL.out]
            exact F5.out
          · have HN : Hid (∀ j (hj : j < fl.length), j < k + 1 → ¬ (nk : Int) < fl[j]) := fun j hj h => by
              by_cases e : j = k
              · subst e
                rw [← HY.out]
                exact cy
              · exact HK.out j hj (by omega)
            clear HK
            go_wp2_with fail
            go_roundw
            case rel => exact ⟨k + 1, by omega, rfl, HN, HBK⟩
            case measure => simp only [intOf]; omega
        · have t2 : ¬ (k : Int) < (nfl : Int) := by omega
          have HN : Hid (∀ j, j < i + 1 → ¬ SetBad nk sys j) := fun j hj hb => by
            by_cases e : j = i
            · subst e
              obtain ⟨x, hx, hx2⟩ := HBAD.out.1 hb
              obtain ⟨m, hm, rfl⟩ := List.getElem_of_mem hx
              exact HK.out m hm (by have := HNF.out; omega) hx2
            · exact HNO.out j (by omega) hb
          have BK := hide (below_on B3.out HBK.out)
          clear HK HBK O3
          go_wp2_with fail
          go_roundw
          case rel => exact ⟨i + 1, by omega, rfl, HN, BK⟩
          case measure => simp only [intOf]; omega
    · have t1 : ¬ (i : Int) < (ns : Int) := by omega
      have HFST : Hid (Fst sys.length (SetBad nk sys) none) := fun j hj => HNO.out j (by have := HNS.out; omega)
      clear HNO
      go_wp2_with fail
      go_ret
      first | exact ⟨_, rfl, none, HNS.out ▸ HFST.out, rfl, HB.out⟩ | exact ⟨_, none, rfl, HNS.out ▸ HFST.out, rfl, HB.out⟩
end Go.Proofs.YtklamaibinjcmaaDoor
