import Derived.Test.YtfkhhplcogedmaaGreatDoorMgK
import Derived.Test.YtfkhhplcogedmaaGreatDoorMgL
import Derived.Test.YtfkhhplcogedmaaGreatDoorMgJ
/-
  Verify: askRounds.
-/
namespace Go.Proofs.YtfkhhplcogedmaaGreatDoor
open Go.RowKit
set_option maxRecDepth 100000
/-- An instruction that is reached, and to which a way comes back without a step. -/
def RnB (fs : List Rt) (r : Ro) (a : Nat) : Prop := Rcd fs r.rt.code a ∧ Cyc (Eg (stl r.rt.code r.rt.code.length)) a
/-- What askRounds answers. -/
def RnO (fs : List Rt) (l : List Ro) (o : Option (Int × Int)) : Prop :=
  (o = none ∧ ∀ n (h : n < l.length) a, a < l[n].rt.code.length → ¬ RnB fs l[n] a) ∨ ∃ n a, ∃ h : n < l.length, (∀ j (hj : j < n) b, b < (l[j]'(by omega)).rt.code.length → ¬ RnB fs (l[j]'(by omega)) b) ∧ Fst l[n].rt.code.length (RnB fs l[n]) (some a) ∧ o = some ((l[n].pl : Int) + (a : Int), 153)
theorem stl_mem {c : List Ins} {l : List Nat} (h : l ∈ stl c c.length) : (∀ y ∈ l, y < c.length) ∧ l.length ≤ 2 := by
  unfold stl at h
  obtain ⟨i, -, rfl⟩ := List.mem_map.1 h
  by_cases e : i < c.length
  · rw [if_pos e]
    unfold stlI
    by_cases e2 : (iat c i).op ≠ 24 ∧ (iat c i).op ≠ 21
    · rw [if_pos e2]
      refine ⟨fun y hy => onwI_lt hy, ?_⟩
      unfold onwI
      rw [List.length_map]
      exact Nat.le_trans (List.length_filter_le _ _) (nextI_len c i)
    · rw [if_neg e2]
      simp
  · rw [if_neg e]
    simp
set_option maxHeartbeats 8000000 in
theorem askrounds_any {Q : Nat → Prop} {w0 W : World} {gv : Nat} {vs vf vk vr : Value} {p : Pg} {ks : List Kind} {L : List Rv} (h : Pb Q w0 W gv vs vf vk vr p ks L) (hk : ∀ r ∈ rosOf p, r.pl + r.rt.code.length ≤ 2000) (hd : Dk p.fns w0 W L L.length) : Calls Tryz.prog 27 #[.pointer (some ⟨gv, 0, none⟩)] W fun e w' => ∃ v o, e = .returned v ∧ RnO p.fns (rosOf p) o ∧ FltN W.heap.size w' v o ∧ Below W.heap.size W w' := by
  obtain ⟨af, cf, hvf, -, -⟩ := h.fns.at
  subst hvf
  have HK := hide hk
  have HP := hide h
  have HD := hide hd
  have JF : Hid (∀ a e W, Calls Tryz.prog 20 #[.int .i64 a, .int .i64 e] W fun en w' => ∃ v, en = .returned v ∧ FltN W.heap.size w' v (some (a, e)) ∧ Below W.heap.size W w') := faultN_any
  obtain ⟨c0, c1, c2, c3⟩ := h.pm.cells
  have hown := h.own
  obtain ⟨nL, hnL⟩ : ∃ n, n = L.length := ⟨_, rfl⟩
  rw [← hnL] at hown
  obtain ⟨ra, rc, hvr⟩ := own_len hown
  obtain ⟨rc1, rc2⟩ := own_cap (hvr ▸ hown)
  subst hvr
  have HNL : Hid (nL = L.length ∧ nL = (rosOf p).length) := ⟨hnL, by rw [hnL, h.pm.len, rosOf_len]⟩
  clear h hk hd hown hnL
  go_enter Tryz.func27, Tryz.ntmps27
  go_wp2_with fail
  clear c0 c1 c2 c3
  go_loopw [13] (fun v13 V => ∃ i : Nat, i ≤ nL ∧ v13 = .int .i64 (i : Int) ∧ Hid (∀ j (hj : j < (rosOf p).length), j < i → ∀ b, b < (rosOf p)[j].rt.code.length → ¬ RnB p.fns (rosOf p)[j] b) ∧ Hid (Below W.heap.size W V)) (fun v13 _ => nL - (intOf v13).toNat)
  case atStart => exact ⟨0, Nat.zero_le _, rfl, fun j _ hi => absurd hi (by omega), Below.refl _ _⟩
  case round =>
    obtain ⟨i, hi, rfl, HNO, HB⟩ := hrel
    by_cases hlt : i < nL
    · have t1 : (i : Int) < (nL : Int) := by omega
      have hp := HP.out.later HB.out
      have hiL : i < L.length := by have := HNL.out.1; omega
      have hiR : i < (rosOf p).length := by have := HNL.out.2; omega
      obtain ⟨g, c, e, -, -, y0, y1, y2, y3, y4, y5, y6, y7, y8⟩ := hp.pm.row hiL
      have hra : ra = some ⟨g, 0, none⟩ := by
        simp only [Value.slice.injEq] at e
        exact e.1
      subst hra
      have hat := hp.pm.at hiL
      have hok := hp.ok L[i] (List.getElem_mem hiL)
      have hkr := HK.out (rosOf p)[i] (List.getElem_mem hiR)
      rw [← hat] at hkr
      have HAT : Hid ((rosOf p)[i] = L[i].ro) := hat.symm
      obtain ⟨hrd, hvo⟩ := HD.out i hiL hiL
      have HVO : Hid (∀ V, Below W.heap.size W V → V.ownsRow w0.heap.size 3 1 L[i].vd L[i].ro.rt.code.length (dpsV p.fns L[i].ro.rt.code)) := fun V hV => own_later hvo hV
      have JW : Hid (∀ V, Below W.heap.size W V → Calls Tryz.prog 51 #[.pointer (some ⟨gv, 0, none⟩), rvV L[i]] V fun e w' => e = .returned (.agg #[L[i].vc, .slice af p.fns.length cf]) ∧ Below V.heap.size V w') := fun V hV => waysof_any (HP.out.later hV).pm L[i] (hok.later (HP.out.later hV).below)
      have JS : Hid (∀ V, Below W.heap.size W V → Calls Tryz.prog 52 #[.agg #[L[i].vc, .slice af p.fns.length cf]] V fun e w' => ∃ gs rs, e = .returned (.slice (some ⟨gs, 0, none⟩) L[i].ro.rt.code.length L[i].ro.rt.code.length) ∧ Sx w' V.heap.size gs L[i].ro.rt.code.length (stl L[i].ro.rt.code L[i].ro.rt.code.length) rs ∧ Below V.heap.size V w') := fun V hV => stepless_any (hok.co.later (HP.out.later hV).below) ⟨_, _, _, rfl⟩ (by omega)
      obtain ⟨ac, cc, hvc, hc1, hc2⟩ := hok.co.at
      obtain ⟨ar, cr, hvr, -, -⟩ := hok.re.at
      obtain ⟨aw, cw, hvw, -, -⟩ := hok.wr.at
      obtain ⟨ad, cd, hvd⟩ := own_len hvo
      obtain ⟨hv1, hv2⟩ := own_cap (hvd ▸ hvo)
      obtain ⟨x, hx⟩ : ∃ x, x = L[i] := ⟨_, rfl⟩
      rw [← hx] at y0 y1 y2 y3 y4 y5 y6 y7 y8 HAT JW JS HVO hkr hvc hvr hvw hvd hc1 hv1
      clear e hok hat hp hx hrd hvo
      obtain ⟨ro, vc, vr', vw, vd⟩ := x
      obtain ⟨rt, pl, sy, re, wrt⟩ := ro
      obtain ⟨nm, pa, lo, code⟩ := rt
      dsimp only [rvV] at y0 y1 y2 y3 y4 y5 y6 y7 y8 HAT JW JS HVO hkr hvc hvr hvw hvd hc1 hv1
      subst hvc hvr hvw hvd
      obtain ⟨nc, hnc⟩ : ∃ y, y = code.length := ⟨_, rfl⟩
      have HNC := hide hnc
      rw [← hnc] at y3 y8 JW JS HVO hc1 hkr hv1
      clear hnc
      go_upto_region 4 with fail
      obtain ⟨g4, hg4⟩ : ∃ x, x = wr.heap.size := ⟨_, rfl⟩
      obtain ⟨W1, hW1⟩ : ∃ X, X = wr.alloc (.cells #[.string nm, .int .i64 pa, .int .i64 lo, .slice ac nc cc, .int .i64 (pl : Int), .bool sy, .slice ar re.length cr, .slice aw wrt.length cw, .slice ad nc cd] 109) := ⟨_, rfl⟩
      have b1 : Below wr.heap.size wr W1 := hW1 ▸ below_alloc wr _
      have k4 : W1.heap[g4]? = some (.cells #[.string nm, .int .i64 pa, .int .i64 lo, .slice ac nc cc, .int .i64 (pl : Int), .bool sy, .slice ar re.length cr, .slice aw wrt.length cw, .slice ad nc cd] 109 (0, 0)) := by rw [hW1, hg4]; exact heap_alloc_new wr _
      have BW1 := hide (below_on HB.out b1)
      have K4 : Hid (∀ V, Below W1.heap.size W1 V → V.cell? ⟨g4, 4, none⟩ = some (.int .i64 (pl : Int)) ∧ V.cell? ⟨g4, 8, none⟩ = some (.slice ad nc cd)) := fun V hV => by
        have := row9 ((hV.block g4 (lt_of_block k4)).trans k4)
        exact ⟨this.2.2.2.2.1, this.2.2.2.2.2.2.2.2⟩
      rw [← hW1, ← hg4]
      obtain ⟨x0, x1, x2, x3, x4, x5, x6, x7, x8⟩ := row9 k4
      clear hW1 hg4 b1 k4 y0 y1 y2 y3 y4 y5 y6 y7 y8
      have J1 := hide (JW.out W1 BW1.out)
      go_wp2_with fail
      refine J1.out.mono ?_
      rintro e w2 ⟨rfl, b2⟩
      have B2 := hide (below_on BW1.out b2)
      have B12 := hide b2
      have J2 := hide (JS.out w2 B2.out)
      clear x0 x1 x2 x3 x4 x5 x6 x7 x8 J1 b2 JW JS
      go_wp2_with fail
      refine J2.out.mono ?_
      rintro e w3 ⟨gs, rs, rfl, sx3, b3⟩
      have B3 := hide (below_on B2.out b3)
      have B13 := hide (below_on B12.out b3)
      have SX3 : Hid (∀ V, Below w3.heap.size w3 V → Rr V (.slice (some ⟨gs, 0, none⟩) nc nc) (stl code nc)) := fun V hV => (sx3.later hV).rr
      have JC : Hid (∀ V a, Below w3.heap.size w3 V → a < nc → Calls Tryz.prog 50 #[.slice (some ⟨gs, 0, none⟩) nc nc, .int .i64 ((a : Nat) : Int)] V fun e w' => (∃ b : Bool, e = .returned (.bool b) ∧ (b = true ↔ Cyc (Eg (stl code nc)) a)) ∧ Below V.heap.size V w') := fun V a hV ha => by
        have hl : (stl code nc).length = nc := by rw [HNC.out]; simp [stl]
        refine comesback_any (SX3.out V hV) (by omega) (fun l hl' y hy => ?_) (by omega) (fun l hl' => ?_)
        · rw [HNC.out] at hl'
          have := (stl_mem hl').1 y hy
          have := HNC.out
          omega
        · rw [HNC.out] at hl'
          have := (stl_mem hl').2
          omega
      obtain ⟨-, x8⟩ := K4.out w3 B13.out
      clear J2 b3 sx3 SX3
      go_wp2_with fail
      clear x8
      go_loopw [24] (fun v24 V => ∃ a : Nat, a ≤ nc ∧ v24 = .int .i64 (a : Int) ∧ Hid (∀ b, b < a → ¬ RnB p.fns ⟨⟨nm, pa, lo, code⟩, pl, sy, re, wrt⟩ b) ∧ Hid (Below w3.heap.size w3 V)) (fun v24 _ => nc - (intOf v24).toNat)
      case atStart => exact ⟨0, Nat.zero_le _, rfl, fun b hb => absurd hb (by omega), Below.refl _ _⟩
      case round =>
        obtain ⟨a, ha, rfl, HNA, HBA⟩ := hrel
        by_cases hlt2 : a < nc
        · have t2 : (a : Int) < (nc : Int) := by omega
          have BV := hide (below_on B3.out HBA.out)
          have hv := HVO.out wr BV.out
          obtain ⟨gd, cd', ed, -, -⟩ := own_form hv (by omega)
          simp only [Value.slice.injEq, true_and] at ed
          obtain ⟨rfl, rfl⟩ := ed
          have dd : wr.cell? ⟨gd, a, none⟩ = some (.int .i64 (dpR p.fns code a)) := by
            rw [hv.cellAt a (by omega)]
            have := HNC.out
            simp [dpsV, show a < code.length by omega]
          have hge := dpR_ge (fs := p.fns) (c := code) (p := a)
          obtain ⟨dp, hdp⟩ : ∃ y, y = dpR p.fns code a := ⟨_, rfl⟩
          rw [← hdp] at dd hge
          have HGE := hide hge
          clear hdp hge hv
          by_cases c0 : 0 ≤ dp
          · have J := hide (JC.out wr a HBA.out hlt2)
            go_wp2_with fail
            refine J.out.mono ?_
            rintro e w5 ⟨⟨b, rfl, hb⟩, b5⟩
            have HBB := hide hb
            have B5 := hide (below_on HBA.out b5)
            have BV5 := hide (below_on BV.out b5)
            clear J hb b5 dd
            cases b with
            | false =>
              have HN : Hid (∀ b, b < a + 1 → ¬ RnB p.fns ⟨⟨nm, pa, lo, code⟩, pl, sy, re, wrt⟩ b) := fun b hb hr => by
                by_cases e : b = a
                · subst e
                  have h2 := hr.2
                  dsimp only at h2
                  rw [← HNC.out] at h2
                  exact absurd (HBB.out.2 h2) (by decide)
                · exact HNA.out b (by omega) hr
              clear HNA
              go_wp2_with fail
              go_roundw
              case rel => exact ⟨a + 1, by omega, rfl, HN, B5⟩
              case measure => simp only [intOf]; omega
            | true =>
              have HO : Hid (RnO p.fns (rosOf p) (some ((pl : Int) + (a : Int), 153))) := by
                refine .inr ⟨i, a, hiR, fun j hj b hb => HNO.out j (by omega) hj b hb, ?_, by rw [HAT.out]⟩
                rw [HAT.out]
                refine ⟨by have := HNC.out; show a < code.length; omega, ⟨HGE.out.1 c0, ?_⟩, HNA.out⟩
                dsimp only
                rw [← HNC.out]
                exact HBB.out.1 rfl
              obtain ⟨x4, -⟩ := K4.out w5 (below_on B13.out B5.out)
              have tpa : (pl : Int) + (a : Int) ≤ 2000 := by omega
              clear HNA HNO HBB
              go_wp2_with fail
              refine (JF.out _ _ _).mono ?_
              rintro e w6 ⟨v6, rfl, f6, b6⟩
              have F6 := hide (f6.mono BV5.out.size)
              have B6 := hide (below_on BV5.out b6)
              clear f6 b6 x4
              go_wp2_with fail
              go_ret
              first | exact ⟨_, _, rfl, HO.out, F6.out, B6.out⟩ | exact ⟨_, rfl, _, HO.out, F6.out, B6.out⟩
          · have HN : Hid (∀ b, b < a + 1 → ¬ RnB p.fns ⟨⟨nm, pa, lo, code⟩, pl, sy, re, wrt⟩ b) := fun b hb hr => by
              by_cases e : b = a
              · subst e
                exact c0 (HGE.out.2 hr.1)
              · exact HNA.out b (by omega) hr
            clear HNA HGE
            go_wp2_with fail
            go_roundw
            case rel => exact ⟨a + 1, by omega, rfl, HN, HBA⟩
            case measure => simp only [intOf]; omega
        · have t2 : ¬ (a : Int) < (nc : Int) := by omega
          have HN : Hid (∀ j (hj : j < (rosOf p).length), j < i + 1 → ∀ b, b < (rosOf p)[j].rt.code.length → ¬ RnB p.fns (rosOf p)[j] b) := fun j hj hji b hb hr => by
            by_cases e : j = i
            · subst e
              rw [HAT.out] at hb hr
              exact HNA.out b (by have := HNC.out; dsimp only at hb; omega) hr
            · exact HNO.out j hj (by omega) b hb hr
          have BV := hide (below_on B3.out HBA.out)
          clear HNA HNO
          go_wp2_with fail
          go_roundw
          case rel => exact ⟨i + 1, by omega, rfl, HN, BV⟩
          case measure => simp only [intOf]; omega
    · have t1 : ¬ (i : Int) < (nL : Int) := by omega
      have HO : Hid (RnO p.fns (rosOf p) none) := .inl ⟨rfl, fun n hn a ha => HNO.out n hn (by have := HNL.out.2; omega) a ha⟩
      clear HNO
      go_wp2_with fail
      go_ret
      first | exact ⟨_, _, rfl, HO.out, FltN.none, HB.out⟩ | exact ⟨_, rfl, _, HO.out, FltN.none, HB.out⟩
end Go.Proofs.YtfkhhplcogedmaaGreatDoor

/-
  Verify: who calls whom; askCalls.
-/
namespace Go.Proofs.YtfkhhplcogedmaaGreatDoor
open Go.RowKit
set_option maxRecDepth 100000
/-- The functions that are called. -/
def clL (c : List Ins) : List Nat := (c.filter fun i => decide (i.op = 21)).map fun i => i.a.toNat
def cls (fns : List Rt) : List (List Nat) := fns.map fun r => clL r.code
/-- Those that are told so far. -/
def clT (fns : List Rt) (j k : Nat) : List (List Nat) := fns.mapIdx fun i r => if i < j then clL r.code else if i = j then clL (r.code.take k) else []
theorem clT_len (fns : List Rt) (j k : Nat) : (clT fns j k).length = fns.length := by simp [clT]
theorem clT_zero (fns : List Rt) : clT fns 0 0 = List.replicate fns.length [] := by
  apply List.ext_getElem
  · simp [clT]
  · intro i h1 h2
    simp [clT, clL]
theorem clT_all (fns : List Rt) : clT fns fns.length 0 = cls fns := by
  apply List.ext_getElem
  · simp [clT, cls]
  · intro i h1 h2
    have : i < fns.length := by simpa [cls] using h2
    simp [clT, cls, this]
theorem clT_next {fns : List Rt} {j : Nat} (hj : j < fns.length) : clT fns j fns[j].code.length = clT fns (j + 1) 0 := by
  apply List.ext_getElem
  · simp [clT]
  · intro i h1 h2
    simp only [clT, List.getElem_mapIdx]
    by_cases c1 : i < j
    · rw [if_pos c1, if_pos (by omega)]
    · rw [if_neg c1]
      by_cases c2 : i = j
      · subst c2
        rw [if_pos rfl, if_pos (by omega), List.take_length]
      · rw [if_neg c2, if_neg (by omega)]
        by_cases c3 : i = j + 1
        · rw [if_pos c3]
          simp [clL]
        · rw [if_neg c3]
theorem clL_take {c : List Ins} {k : Nat} (h : k < c.length) : clL (c.take (k + 1)) = if c[k].op = 21 then clL (c.take k) ++ [c[k].a.toNat] else clL (c.take k) := by
  unfold clL
  rw [List.take_succ_eq_append_getElem h, List.filter_append, List.map_append]
  by_cases e : c[k].op = 21
  · simp [e]
  · simp [e]
theorem clT_at {fns : List Rt} {j k : Nat} (hj : j < fns.length) : (clT fns j k)[j]'(by rw [clT_len]; exact hj) = clL (fns[j].code.take k) := by simp [clT]
theorem clT_put {fns : List Rt} {j k : Nat} (hj : j < fns.length) (hk : k < fns[j].code.length) (ho : fns[j].code[k].op = 21) : (clT fns j k).set j (clL (fns[j].code.take k) ++ [fns[j].code[k].a.toNat]) = clT fns j (k + 1) := by
  apply List.ext_getElem
  · simp [clT]
  · intro i h1 h2
    by_cases e : j = i
    · subst e
      rw [List.getElem_set_self, clT_at hj, clL_take hk, if_pos ho]
    · rw [List.getElem_set_ne e]
      simp only [clT, List.getElem_mapIdx]
      have : ¬ i = j := fun c => e c.symm
      simp [this]
theorem clT_skip {fns : List Rt} {j k : Nat} (hj : j < fns.length) (hk : k < fns[j].code.length) (ho : fns[j].code[k].op ≠ 21) : clT fns j (k + 1) = clT fns j k := by
  apply List.ext_getElem
  · simp [clT]
  · intro i h1 h2
    by_cases e : i = j
    · subst e
      rw [clT_at hj, clT_at hj, clL_take hk, if_neg ho]
    · simp only [clT, List.getElem_mapIdx]
      simp [e]
/-- Lists that are owned, each in a block of its own. -/
structure Cx (W : World) (N gs n : Nat) (ls : List (List Nat)) (rs : List Value) : Prop where
  sx : Sx W N gs n ls rs
  ap : ∀ i j (h1 : i < rs.length) (h2 : j < rs.length), i ≠ j → Ap rs[i] rs[j]
theorem Cx.later {W W' : World} {N gs n : Nat} {ls : List (List Nat)} {rs : List Value} (h : Cx W N gs n ls rs) (hb : Below W.heap.size W W') : Cx W' N gs n ls rs := ⟨h.sx.later hb, h.ap⟩
theorem Cx.grow {W W' : World} {N gs n p : Nat} {ls : List (List Nat)} {rs : List Value} {l : List Nat} {g' m c' : Nat} (h : Cx W N gs n ls rs) (hp : p < rs.length) (hg : W.grownBy W' (rs[p]).ownBlock) (hm : m = l.length) (ho : W'.ownsRow N 3 1 (.slice (some ⟨g', 0, none⟩) m c') m (nz l)) (hw : (rs[p]).ownBlock = some g' ∨ W.heap.size ≤ g') :
    Cx (W'.setCell ⟨gs, p, none⟩ (.slice (some ⟨g', 0, none⟩) m c')) N gs n (ls.set p l) (rs.set p (.slice (some ⟨g', 0, none⟩) m c')) := by
  have hpl : p < ls.length := by rw [h.sx.len, ← h.sx.rl]; exact hp
  have hop := h.sx.own p hp hpl
  have hrow : W'.ownsRow N 36 1 (.slice (some ⟨gs, 0, none⟩) n n) n rs := own_kept h.sx.row hg (fun k e e' => own_ap2 h.sx.row hop (by decide) k e e')
  have hoth : ∀ i (h1 : i < rs.length) (h2 : i < ls.length), i ≠ p → W'.ownsRow N 3 1 rs[i] (ls[i]).length (nz ls[i]) := fun i h1 h2 hip => own_kept (h.sx.own i h1 h2) hg (fun k e e' => h.ap i p h1 hp hip k e e')
  have hap : ∀ {u : Value} {k : Nat} {xs : List Value}, W'.ownsRow N 3 1 u k xs → (W'.setCell ⟨gs, p, none⟩ (.slice (some ⟨g', 0, none⟩) m c')).ownsRow N 3 1 u k xs := fun hu => own_set hu (fun e => own_ap2 hrow hu (by decide) gs rfl e)
  have hfar : ∀ i (h1 : i < rs.length), i ≠ p → (rs[i]).ownBlock ≠ some g' := fun i h1 hip e => by
    rcases hw with hw | hw
    · exact h.ap i p h1 hp hip g' e hw
    · have := ((h.sx.own i h1 (by rw [h.sx.len, ← h.sx.rl]; exact h1)).lt g' e).2
      omega
  refine ⟨⟨(hrow.stored p _).1, by rw [List.length_set]; exact h.sx.len, fun i h1 h2 => ?_⟩, fun i j h1 h2 hij => ?_⟩
  · rw [List.length_set] at h1 h2
    by_cases e : p = i
    · subst e
      simp only [List.getElem_set_self]
      rw [← hm]
      exact hap ho
    · simp only [List.getElem_set_ne e]
      exact hap (hoth i h1 h2 (fun c => e c.symm))
  · rw [List.length_set] at h1 h2
    by_cases e : p = i
    · subst e
      simp only [List.getElem_set_self, List.getElem_set_ne hij]
      intro k e1 e2
      simp only [Value.ownBlock, Option.some.injEq] at e1
      exact hfar j h2 (fun c => hij c.symm) (e1 ▸ e2)
    · simp only [List.getElem_set_ne e]
      by_cases e' : p = j
      · subst e'
        simp only [List.getElem_set_self]
        intro k e1 e2
        simp only [Value.ownBlock, Option.some.injEq] at e2
        exact hfar i h1 (fun c => e c.symm) (e2 ▸ e1)
      · simp only [List.getElem_set_ne e']
        exact h.ap i j h1 h2 hij
end Go.Proofs.YtfkhhplcogedmaaGreatDoor
