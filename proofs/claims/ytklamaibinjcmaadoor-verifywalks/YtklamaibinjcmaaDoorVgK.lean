/-
  Verify: the walk of VerifyWalks.
-/
import Derived.Test.YtklamaibinjcmaaDoorVgF
import Derived.Test.YtklamaibinjcmaaDoorVgG
import Derived.Test.YtklamaibinjcmaaDoorVgH
import Derived.Test.YtklamaibinjcmaaDoorVgI
import Derived.Test.YtklamaibinjcmaaDoorVgJ
namespace Go.Proofs.YtklamaibinjcmaaDoor
open Go.RowKit
set_option maxRecDepth 100000
/-- Choices that are read. -/
def Br (W : World) (v : Value) (bs : List Bool) : Prop := ∃ ao c, v = .slice ao bs.length c ∧ bs.length ≤ c ∧ c ≤ 9223372036854775807 ∧ (0 < bs.length → ∃ g o, ao = some ⟨g, o, none⟩ ∧ ∀ i (h : i < bs.length), W.cell? ⟨g, o + i, none⟩ = some (.bool bs[i]))
/-- What the walk holds. -/
structure Wk (p : Pg) (r : Ro) (w3 : World) (a d tu i : Nat) (l : List Nat) (V : World) : Prop where
  rch : Rch p.fns r.rt.code a d
  wy : Wy p r l a
  tu : tu ≤ i
  below : Below w3.heap.size w3 V
set_option maxHeartbeats 8000000 in
theorem walks_any {Q : Nat → Prop} {W : World} {vs vf vk vb : Value} {p : Pg} {ks : List Kind} {bs : List Bool} (hsh : ∀ V, Tb V → Calls Tryd.prog 6 #[] V fun e w' => e = .returned (.bool true) ∧ Below V.heap.size V w') (hp : Pgm Q W vs vf p) (hk : Kr W vk ks) (ht : Tb W) (c : Int) (hc : I6 c) (hb : Br W vb bs) : Calls Tryd.prog 4 #[.agg #[vs, vf], vk, .int .i64 c, vb] W fun e w' => e = .returned (.bool true) ∧ Below W.heap.size W w' := by
  have HP : Hid (∀ V, Below W.heap.size W V → Pgm Q V vs vf p) := fun V hV => ⟨hp.1.later hV, hp.2.later hV⟩
  have HKR : Hid (∀ V, Below W.heap.size W V → Kr V vk ks) := fun V hV => hk.later hV
  have HT : Hid (∀ V, Below W.heap.size W V → Tb V) := fun V hV => ht.later hV
  have JS : Hid (∀ V, Below W.heap.size W V → Calls Tryd.prog 6 #[] V fun e w' => e = .returned (.bool true) ∧ Below V.heap.size V w') := fun V hV => hsh V (HT.out V hV)
  have JV : Hid (∀ V, Below W.heap.size W V → Calls Tryd.prog 15 #[.agg #[vs, vf], vk] V fun e w' => ∃ v o, e = .returned v ∧ Vo p ks o ∧ Flt w' v o ∧ Below V.heap.size V w') := fun V hV => verify_any (HP.out V hV) (HKR.out V hV) (HT.out V hV)
  have JP : Hid (∀ V (n : Nat), 0 < n → n ≤ 1000000 → Calls Tryd.prog 16 #[.int .i64 c, .int .i64 (n : Int)] V fun e w' => (∃ k : Nat, k < n ∧ e = .returned (.int .i64 (k : Int))) ∧ w' = V) := fun V n h0 hn => lpick_any c hc n h0 hn V
  have HBR := hide hb
  obtain ⟨sa, sc, hvs, s1, s2⟩ := hp.1.at
  obtain ⟨fa, fc, hvf, f1, f2⟩ := hp.2.at
  obtain ⟨ka, kc, hvk, k1, k2, -⟩ := hk
  obtain ⟨ba, bc, hvb, b1, b2, -⟩ := hb
  subst hvs hvf hvk hvb
  obtain ⟨ns, hns⟩ : ∃ n, n = p.sys.length := ⟨_, rfl⟩
  obtain ⟨nf, hnf⟩ : ∃ n, n = p.fns.length := ⟨_, rfl⟩
  obtain ⟨nk, hnk⟩ : ∃ n, n = ks.length := ⟨_, rfl⟩
  obtain ⟨nb, hnb⟩ : ∃ n, n = bs.length := ⟨_, rfl⟩
  have HNS := hide hns
  have HNF := hide hnf
  have HNB := hide hnb
  have k3 : kc ≤ 9223372036854775807 := by unfold maxLen at k2; omega
  have JRT : Hid (∀ V k (hk : k < (rosOf p).length), Below W.heap.size W V → p.sys.length ≤ 16 ∧ p.fns.length ≤ 16 → Calls Tryd.prog 17 #[.agg #[.slice sa p.sys.length sc, .slice fa p.fns.length fc], .int .i64 ((k : Nat) : Int)] V fun e w' => (∃ vc, e = .returned (.tuple #[rtV (rosOf p)[k].rt vc, .bool (rosOf p)[k].sy]) ∧ Il Q V vc (rosOf p)[k].rt.code) ∧ Below V.heap.size V w') := fun V k hk hV h16 => lroutine_any (HP.out V hV) k hk h16
  rw [← hns, ← hnf] at HP JV
  have JRT2 : Hid (∀ V k (hk : k < (rosOf p).length), Below W.heap.size W V → p.sys.length ≤ 16 ∧ p.fns.length ≤ 16 → Calls Tryd.prog 17 #[.agg #[.slice sa ns sc, .slice fa nf fc], .int .i64 ((k : Nat) : Int)] V fun e w' => (∃ vc, e = .returned (.tuple #[rtV (rosOf p)[k].rt vc, .bool (rosOf p)[k].sy]) ∧ Il Q V vc (rosOf p)[k].rt.code) ∧ Below V.heap.size V w') := by rw [hns, hnf]; exact JRT
  clear JRT
  rw [← hnk] at HKR JV k1
  rw [← hns] at s1
  rw [← hnf] at f1
  rw [← hnb] at b1 HBR
  rw [← hns, ← hnf, ← hnk, ← hnb]
  clear hp ht hsh hc k2 hns hnf hnk hnb
  obtain ⟨W1, hW1⟩ : ∃ X, X = W.alloc (.cells #[.slice sa ns sc, .slice fa nf fc] 25) := ⟨_, rfl⟩
  have bw1 : Below W.heap.size W W1 := hW1 ▸ below_alloc W _
  obtain ⟨g4, hg4⟩ : ∃ y, y = W.heap.size := ⟨_, rfl⟩
  have kp : W1.heap[g4]? = some (.cells #[.slice sa ns sc, .slice fa nf fc] 25 (0, 0)) := by rw [hW1, hg4]; exact heap_alloc_new W _
  have B1 := hide bw1
  have KP : Hid (∀ V, Below W1.heap.size W1 V → V.cell? ⟨g4, 0, none⟩ = some (.slice sa ns sc) ∧ V.cell? ⟨g4, 1, none⟩ = some (.slice fa nf fc)) := fun V hV => by
    have := (hV.block g4 (lt_of_block kp)).trans kp
    refine ⟨?_, ?_⟩ <;> rw [cell_of_row V _ _ _ 25 (0, 0) this] <;> rfl
  go_enter Tryd.func4, Tryd.ntmps4
  go_upto_region 1 with fail
  rw [← hW1, ← hg4]
  clear hW1 hg4 bw1 kp
  have J1 := hide (JS.out W1 B1.out)
  go_wp2_with fail
  refine J1.out.mono ?_
  rintro e w2 ⟨rfl, c2⟩
  have C2 := hide c2
  have B2 := hide (below_on B1.out c2)
  obtain ⟨x0, x1⟩ := KP.out w2 c2
  have J2 := hide (JV.out w2 B2.out)
  clear J1 c2 JS JV
  go_wp2_with fail
  refine J2.out.mono ?_
  rintro e w3 ⟨v3, o, rfl, vo, fl, c3⟩
  have C3 := hide (below_on C2.out c3)
  have B3 := hide (below_on B2.out c3)
  clear J2 c3 x0 x1
  cases o with
  | some y =>
    obtain ⟨ya, ye⟩ := y
    obtain ⟨gy, rfl, ky⟩ := fl
    clear ky vo
    go_wp2_with fail
    go_ret
    exact ⟨rfl, B3.out⟩
  | none =>
    obtain rfl : v3 = .nilIface := fl
    obtain ⟨-, hmo, hgd⟩ := vo_none vo
    obtain ⟨⟨h16a, h16b⟩, -, -, -⟩ := mayOk_all hmo
    have h16a' : ns ≤ 16 := by have := HNS.out; omega
    have h16b' : nf ≤ 16 := by have := HNF.out; omega
    have HGD := hide hgd
    have H16 : Hid (p.sys.length ≤ 16 ∧ p.fns.length ≤ 16) := ⟨h16a, h16b⟩
    have HMO := hide hmo
    obtain ⟨x0, x1⟩ := KP.out w3 C3.out
    clear vo hmo hgd h16a h16b
    by_cases hn0 : ns + nf = 0
    · have e1 : ns = 0 := by omega
      have e2 : nf = 0 := by omega
      subst e1 e2
      go_wp2_with fail
      go_ret
      exact ⟨rfl, B3.out⟩
    · obtain ⟨nn, hnn⟩ : ∃ x, x = ns + nf := ⟨_, rfl⟩
      have te : (ns : Int) + (nf : Int) = (nn : Int) := by omega
      have tw : IntKind.i64.wrap (nn : Int) = (nn : Int) := by rw [IntKind.wrap_i64]; omega
      have tz : ((nn : Int) == 0) = false := beq_eq_false_iff_ne.2 (by omega)
      have J3 := hide (JP.out w3 nn (by omega) (by omega))
      have HNN : Hid (nn = (rosOf p).length) := by unfold Hid; rw [rosOf_len]; have := HNS.out; have := HNF.out; omega
      clear hn0 hnn JP
      go_wp2_with fail
      refine J3.out.mono ?_
      rintro e w4 ⟨⟨k, hkn, rfl⟩, rfl⟩
      have hkr : k < (rosOf p).length := by have := HNN.out; omega
      have J4 := hide (JRT2.out w4 k hkr B3.out H16.out)
      have gd := HGD.out k hkr
      have hall := ros_all HMO.out _ (List.getElem_mem hkr)
      have HSY : Hid ((rosOf p)[k].sy = true → ∃ h : k < p.sys.length, p.sys[k].re = (rosOf p)[k].re ∧ p.sys[k].wr = (rosOf p)[k].wr) := fun hs => by
        by_cases c : k < p.sys.length
        · exact ⟨c, by rw [ros_sys c hkr], by rw [ros_sys c hkr]⟩
        · obtain ⟨n, rfl⟩ : ∃ n, k = p.sys.length + n := ⟨k - p.sys.length, by omega⟩
          rw [ros_fn (by rw [rosOf_len] at hkr; omega) hkr] at hs
          cases hs
      obtain ⟨r, hr⟩ : ∃ r, r = (rosOf p)[k] := ⟨_, rfl⟩
      rw [← hr] at J4 gd hall HSY
      have GD := hide gd
      obtain ⟨y0, y1⟩ := KP.out w4 C3.out
      clear J3 HGD hall gd x0 x1 hr
      obtain ⟨rt, pl, sy, re, wrt⟩ := r
      obtain ⟨nm, pa, lo, code⟩ := rt
      dsimp only [rtV] at J4 HSY
      go_wp2_with fail
      refine J4.out.mono ?_
      rintro e w5 ⟨⟨vc, rfl, il⟩, c5⟩
      have C5 := hide (below_on C3.out c5)
      have B5 := hide (below_on B3.out c5)
      have IL : Hid (∀ V, Below w4.heap.size w4 V → Il Q V vc code) := fun V hV => il.later hV
      have C45 := hide c5
      obtain ⟨ac, cc, hvc, hc1, hc2⟩ := il.at
      subst hvc
      obtain ⟨nc, hnc⟩ : ∃ x, x = code.length := ⟨_, rfl⟩
      have HNC := hide hnc
      rw [← hnc] at hc1 IL
      rw [← hnc]
      have hnc2 : nc ≤ 2000 := by rw [hnc]; exact GD.out.len
      have hnc0 : 0 < nc := by
        have := GD.out.ne
        dsimp only at this
        cases hcc : code with
        | nil => exact absurd hcc this
        | cons _ _ => rw [hnc, hcc]; simp
      clear J4 c5 il y0 y1 hnc
      go_upto_region 10 with fail
      obtain ⟨W6, hW6⟩ : ∃ X, X = w5.alloc (.cells #[.string nm, .int .i64 pa, .int .i64 lo, .slice ac nc cc] 28) := ⟨_, rfl⟩
      have b6 : Below w5.heap.size w5 W6 := hW6 ▸ below_alloc w5 _
      obtain ⟨g13, hg13⟩ : ∃ y, y = w5.heap.size := ⟨_, rfl⟩
      have k13 : W6.heap[g13]? = some (.cells #[.string nm, .int .i64 pa, .int .i64 lo, .slice ac nc cc] 28 (0, 0)) := by rw [hW6, hg13]; exact heap_alloc_new w5 _
      have C6 := hide (below_on C5.out b6)
      have B6 := hide (below_on B5.out b6)
      have C46 := hide (below_on C45.out b6)
      have K13 : Hid (∀ V, Below W6.heap.size W6 V → V.heap[g13]? = some (.cells #[.string nm, .int .i64 pa, .int .i64 lo, .slice ac nc cc] 28 (0, 0))) := fun V hV => (hV.block g13 (lt_of_block k13)).trans k13
      rw [← hW6, ← hg13]
      clear hW6 hg13 b6 k13
      obtain ⟨y0, y1⟩ := KP.out W6 C6.out
      obtain ⟨z0, z1, z2, z3⟩ := row4 (K13.out W6 (Below.refl _ _))
      have J5 : Hid (Calls Tryd.prog 9 #[.agg #[.slice sa ns sc, .slice fa nf fc], .agg #[.string nm, .int .i64 pa, .int .i64 lo, .slice ac nc cc]] W6 fun e w' => ∃ v ve, e = .returned (.tuple #[v, ve]) ∧ DpsOut W6.heap.size p.fns code w' v ve ∧ Below W6.heap.size W6 w') := depthsof_any nm pa lo ⟨_, _, _, rfl⟩ (IL.out W6 C46.out) (HP.out W6 B6.out).2 (HT.out W6 B6.out)
      go_wp2_with fail
      refine J5.out.mono ?_
      rintro e w7 ⟨v7, ve, rfl, dp, c7⟩
      have C67 := hide c7
      have C7 := hide (below_on C6.out c7)
      have B7 := hide (below_on B6.out c7)
      have C47 := hide (below_on C46.out c7)
      clear J5 c7 y0 y1 z0 z1 z2 z3
      rcases dp with ⟨d1, -⟩ | ⟨d1, -⟩ | ⟨-, -, a, d1, -⟩ | ⟨-, -, -, rfl, hv7⟩
      · exact absurd d1 (by have := HNC.out; omega)
      · exact absurd d1 GD.out.ne
      · exact absurd ((GD.out.dpo).unique d1 (fun _ _ => Iff.rfl)) (by simp)
      · have HV7 : Hid (∀ V, Below w7.heap.size w7 V → V.ownsRow W6.heap.size 3 1 v7 code.length (dpsV p.fns code)) := fun V hV => own_later hv7 hV
        obtain ⟨a7, e7, hv7'⟩ := own_len hv7
        obtain ⟨q71, q72⟩ := own_cap (hv7' ▸ hv7)
        subst hv7'
        rw [← HNC.out] at q71 HV7
        rw [← HNC.out]
        clear hv7
        obtain ⟨z0, z1, z2, z3⟩ := row4 (K13.out w7 C67.out)
        have tn0 : ((nc : Int) == 0) = false := beq_eq_false_iff_ne.2 (by omega)
        have K0 : Hid (Wk p ⟨⟨nm, pa, lo, code⟩, pl, sy, re, wrt⟩ w7 0 0 0 0 [] w7) := ⟨Rch.zero, Wy.start 0, Nat.le_refl _, Below.refl _ _⟩
        go_wp2_with fail
        clear z0 z1 z2 z3
        go_loopw [17, 18, 19, 20, 21] (fun v17 v18 v19 v20 v21 V => ∃ (a d tu i : Nat) (l : List Nat), i ≤ 5000 ∧ v17 = .int .i64 (a : Int) ∧ v18 = .int .i64 (d : Int) ∧ v19 = .int .i64 (l.length : Int) ∧ v20 = .int .i64 (tu : Int) ∧ v21 = .int .i64 (i : Int) ∧ Hid (Wk p ⟨⟨nm, pa, lo, code⟩, pl, sy, re, wrt⟩ w7 a d tu i l V)) (fun _ _ _ _ v21 _ => 5000 - (intOf v21).toNat)
        case atStart => exact ⟨0, 0, 0, 0, [], by omega, rfl, rfl, rfl, rfl, rfl, K0⟩
        case round =>
          obtain ⟨a, d, tu, i, l, hi, rfl, rfl, rfl, rfl, rfl, HW⟩ := hrel
          clear K0
          by_cases hlt : i < 5000
          · have t1 : (i : Int) < 5000 := by omega
            obtain ⟨rch, wy, htu, bl⟩ := HW.out
            obtain ⟨ha, hdp, hjt, ⟨d', hbe⟩, hnx⟩ := GD.out.ok rch
            dsimp only at ha hdp hjt hnx
            obtain ⟨bt1, bt2, bt3⟩ := beh_some hbe
            have hmid := wy.mid GD.out ha rch
            dsimp only at hmid
            have hmt := GD.out.mt a ha
            have BLW := hide bl
            have BV := hide (below_on B7.out bl)
            have C4V := hide (below_on C47.out bl)
            have hla : a < nc := by have := HNC.out; omega
            have ta : (a : Int) < (nc : Int) := by omega
            obtain ⟨gc, oc, hac', -, d1, d2, -, i6⟩ := (IL.out wr C4V.out).nth ha
            subst hac'
            rw [← iat_eq ha] at d1 d2 i6
            obtain ⟨gd, cd', ed, -, -⟩ := own_form (HV7.out wr bl) (by omega)
            simp only [Value.slice.injEq, true_and] at ed
            obtain ⟨rfl, rfl⟩ := ed
            have dd : wr.cell? ⟨gd, a, none⟩ = some (.int .i64 (d : Int)) := by
              rw [(HV7.out wr bl).cellAt a (by omega)]
              simp [dpsV, ha, hdp]
            obtain ⟨-, -, -, z3⟩ := row4 (K13.out wr (below_on C67.out bl))
            have hd64 : (d : Int) ≤ 64 := by
              have := (rch.lt (by have := HNC.out; show 0 < code.length; omega)).2
              omega
            have JE : Hid (∀ V, Below W.heap.size W V → Calls Tryd.prog 18 #[insV (iat code a), .slice fa nf fc] V fun e w' => e = .returned (.tuple #[.int .i64 (takE p.fns (iat code a)), .int .i64 (putE (iat code a))]) ∧ Below V.heap.size V w') := fun V hV => effect_any (HP.out V hV).2 (HT.out V hV) (iat code a)
            have JT : Hid (∀ V, Below W.heap.size W V → Below w4.heap.size w4 V → Calls Tryd.prog 19 #[.agg #[.slice sa ns sc, .slice fa nf fc], .slice ka nk kc, rtV ⟨nm, pa, lo, code⟩ (.slice (some ⟨gc, oc, none⟩) nc cc), .bool sy, .int .i64 (k : Int), insV (iat code a)] V fun e w' => e = .returned (.bool true) ∧ Below V.heap.size V w') := fun V hV hV4 => touches_true (HP.out V hV) (HKR.out V hV) ⟨⟨nm, pa, lo, code⟩, pl, sy, re, wrt⟩ a k (IL.out V hV4) i6 hmt hjt GD.out.kin HSY.out H16.out.2
            unfold insV at JE JT
            unfold rtV at JT
            have HNX := hide hnx
            have HRC := hide rch
            have HWY := hide wy
            have HBE := hide hbe
            have HMT := hide hmt
            have HJT := hide hjt
            have hi2 := hide (show I6 (iat code a).a from i6)
            have htn := takE_nn (fs := p.fns) (iat code a)
            have hptn : 0 ≤ putE (iat code a) ∧ putE (iat code a) ≤ 1 := by
              unfold putE
              have h40 := opk_lt (iat code a).op
              have hle : ∀ k, k < 40 → pts k ≤ 1 := by decide
              have := hle _ h40
              omega
            obtain ⟨tk, htk⟩ : ∃ y, y = takE p.fns (iat code a) := ⟨_, rfl⟩
            obtain ⟨pt, hpt⟩ : ∃ y, y = putE (iat code a) := ⟨_, rfl⟩
            rw [← htk] at JE bt1 bt2 htn
            rw [← hpt] at JE bt2 hptn
            obtain ⟨op, hop⟩ : ∃ y, y = (iat code a).op := ⟨_, rfl⟩
            obtain ⟨av, hav⟩ : ∃ y, y = (iat code a).a := ⟨_, rfl⟩
            rw [← hop] at d1 JE JT
            rw [← hav] at d2 JE JT hi2
            have HIA : Hid (iat code a = ⟨op, av⟩) := by unfold Hid; rw [hop, hav]
            have w1 : IntKind.i64.wrap ((d : Int) - tk) = (d : Int) - tk := by rw [IntKind.wrap_i64]; omega
            have w2 : IntKind.i64.wrap ((d : Int) - tk + pt) = (d' : Int) := by rw [bt2, IntKind.wrap_i64]; omega
            have w3 : (d : Int) - tk + pt = (d' : Int) := bt2
            have HMID : Hid (l.length + 1 ≤ nc) := by have := HNC.out; unfold Hid; omega
            clear HW rch wy bl ha hdp hjt hbe hnx hmid hmt i6 htk hpt hop hav bt2
            go_upto_region 23 with fail
            obtain ⟨W8, hW8⟩ : ∃ X, X = wr.alloc (.cells #[.int .i64 op, .int .i64 av] 47) := ⟨_, rfl⟩
            have b8 : Below wr.heap.size wr W8 := hW8 ▸ below_alloc wr _
            obtain ⟨g22, hg22⟩ : ∃ y, y = wr.heap.size := ⟨_, rfl⟩
            have k22 : W8.heap[g22]? = some (.cells #[.int .i64 op, .int .i64 av] 47 (0, 0)) := by rw [hW8, hg22]; exact heap_alloc_new wr _
            have BW8 := hide (below_on BV.out b8)
            have C48 := hide (below_on C4V.out b8)
            have BL8 : Hid (Below w7.heap.size w7 W8) := below_on BLW.out b8
            rw [← hW8, ← hg22]
            have K22 : Hid (∀ V, Below W8.heap.size W8 V → V.cell? ⟨g22, 0, none⟩ = some (.int .i64 op) ∧ V.cell? ⟨g22, 1, none⟩ = some (.int .i64 av)) := fun V hV => row2 ((hV.block g22 (lt_of_block k22)).trans k22)
            clear hW8 hg22 b8 d1 d2 dd z3 k22
            obtain ⟨y0, y1⟩ := KP.out W8 (below_on C7.out BL8.out)
            obtain ⟨u0, u1⟩ := K22.out W8 (Below.refl _ _)
            have J6 := hide (JE.out W8 BW8.out)
            go_wp2_with fail
            refine J6.out.mono ?_
            rintro e w9 ⟨rfl, c9⟩
            have C89 := hide c9
            have BW9 := hide (below_on BW8.out c9)
            have C49 := hide (below_on C48.out c9)
            have BL9 := hide (below_on BL8.out c9)
            clear J6 JE y0 y1 u0 u1 c9
            obtain ⟨y0, y1⟩ := KP.out w9 (below_on C7.out BL9.out)
            obtain ⟨u0, u1⟩ := K22.out w9 C89.out
            obtain ⟨q0, q1, q2, q3⟩ := row4 (K13.out w9 (below_on C67.out BL9.out))
            have J7 := hide (JT.out w9 BW9.out C49.out)
            have bt4 : ¬ (d' : Int) > 64 := by omega
            go_wp2_with fail
            refine J7.out.mono ?_
            rintro e w10 ⟨rfl, c10⟩
            have C810 := hide (below_on C89.out c10)
            have BW10 := hide (below_on BW9.out c10)
            have BL10 := hide (below_on BL9.out c10)
            clear J7 JT y0 y1 u0 u1 q0 q1 q2 q3 c10
            obtain ⟨u0, u1⟩ := K22.out w10 C810.out
            obtain ⟨-, -, -, q3⟩ := row4 (K13.out w10 (below_on C67.out BL10.out))
            have hmid := HMID.out
            have tl : (l.length : Int) + 1 ≤ (nc : Int) := by omega
            have NX : Hid (∀ y : Nat, (y : Int) ∈ nextI code a → Rch p.fns code y d' ∧ y ∈ onwI code a ∧ y < code.length) := fun y hy => by
              have h1 := GD.out.next HRC.out HBE.out hy
              exact ⟨h1.2, h1.1, onwI_lt h1.1⟩
            go_upto_region 31 with fail
            have RND : Hid (∀ (y : Nat) (l' : List Nat), (y : Int) ∈ nextI code a → (Rch p.fns code y d' → y ∈ onwI code a → Wy p ⟨⟨nm, pa, lo, code⟩, pl, sy, re, wrt⟩ l' y) → ∀ tu', tu' ≤ i + 1 → Wk p ⟨⟨nm, pa, lo, code⟩, pl, sy, re, wrt⟩ w7 y d' tu' (i + 1) l' w10) := fun y l' hy hl tu' htu' => ⟨(NX.out y hy).1, hl (NX.out y hy).1 (NX.out y hy).2.1, htu', BL10.out⟩
            have htu1 : tu ≤ i + 1 := by omega
            have MORE : Hid ((iat code a).op ≠ 24 → (iat code a).op ≠ 21 → ∀ y, y ∈ onwI code a → Wy p ⟨⟨nm, pa, lo, code⟩, pl, sy, re, wrt⟩ (l ++ [a]) y) := fun h1 h2 y hy => HWY.out.more (by show a < code.length; have := HNC.out; omega) HRC.out h1 h2 hy
            by_cases o24 : op = 24
            · subst o24
              have RN := hide (RND.out (a + 1) [] (by unfold nextI; rw [HIA.out]; simp) (fun _ _ => Wy.start _) tu htu1)
              clear RND MORE NX HIA
              go_wp2_with fail
              go_roundw
              case rel => exact ⟨a + 1, d', tu, i + 1, [], by omega, by first | rfl | go_num, rfl, by first | rfl | (simp), by first | rfl | go_num, by first | rfl | go_num, RN⟩
              case measure => simp [intOf]; omega
            · have f24 : (op == 24) = false := beq_eq_false_iff_ne.2 o24
              by_cases o21 : op = 21
              · subst o21
                have RN := hide (RND.out (a + 1) [] (by unfold nextI; rw [HIA.out]; simp) (fun _ _ => Wy.start _) tu htu1)
                clear RND MORE NX HIA
                go_wp2_with fail
                go_roundw
                case rel => exact ⟨a + 1, d', tu, i + 1, [], by omega, by first | rfl | go_num, rfl, by first | rfl | (simp), by first | rfl | go_num, by first | rfl | go_num, RN⟩
                case measure => simp [intOf]; omega
              · have f21 : (op == 21) = false := beq_eq_false_iff_ne.2 o21
                have MO := hide (fun y hy => MORE.out (by rw [HIA.out]; exact o24) (by rw [HIA.out]; exact o21) y hy)
                have tg : ¬ ((l.length : Int) + 1 > (nc : Int)) := by omega
                by_cases o22 : op = 22
                · subst o22
                  have hs : sy = false := by
                    have h1 := HMT.out
                    unfold mtI at h1
                    dsimp only at h1
                    rw [HIA.out] at h1
                    simpa using h1
                  subst hs
                  clear RND MORE NX HIA MO o24 o21
                  go_wp2_with fail
                  go_ret
                  exact ⟨rfl, BW10.out⟩
                · have f22 : (op == 22) = false := beq_eq_false_iff_ne.2 o22
                  by_cases o23 : op = 23
                  · subst o23
                    have hs : sy = true := by
                      have h1 := HMT.out
                      unfold mtI at h1
                      dsimp only at h1
                      rw [HIA.out] at h1
                      have h2 : sy = true ∧ mtE ks re wrt code a = true := by simpa [ent] using h1
                      exact h2.1
                    subst hs
                    clear RND MORE NX HIA MO o24 o21 o22
                    go_wp2_with fail
                    go_ret
                    exact ⟨rfl, BW10.out⟩
                  · have f23 : (op == 23) = false := beq_eq_false_iff_ne.2 o23
                    by_cases o19 : op = 19
                    · subst o19
                      have hth : 0 ≤ av ∧ av < (code.length : Int) := by
                        have h1 := HJT.out (by rw [HIA.out]; rfl)
                        rw [HIA.out] at h1
                        exact of_decide_eq_true h1
                      obtain ⟨y, rfl⟩ : ∃ y : Nat, av = (y : Int) := ⟨av.toNat, by omega⟩
                      have RN := hide (RND.out y (l ++ [a]) (by unfold nextI; rw [HIA.out]; simp) (fun _ h => MO.out y h) tu htu1)
                      clear RND MORE NX HIA MO o24 o21 o22 o23 hth
                      go_wp2_with fail
                      go_roundw
                      case rel => exact ⟨y, d', tu, i + 1, l ++ [a], by omega, by first | rfl | go_num, rfl, by first | rfl | (simp), by first | rfl | go_num, by first | rfl | go_num, RN⟩
                      case measure => simp [intOf]; omega
                    · have f19 : (op == 19) = false := beq_eq_false_iff_ne.2 o19
                      by_cases o20 : op = 20
                      · subst o20
                        have hth : 0 ≤ av ∧ av < (code.length : Int) := by
                          have h1 := HJT.out (by rw [HIA.out]; rfl)
                          rw [HIA.out] at h1
                          exact of_decide_eq_true h1
                        obtain ⟨y, rfl⟩ : ∃ y : Nat, av = (y : Int) := ⟨av.toNat, by omega⟩
                        have RNy := hide (RND.out y (l ++ [a]) (by unfold nextI; rw [HIA.out]; simp) (fun _ h => MO.out y h) (tu + 1) (by omega))
                        have RNa := hide (RND.out (a + 1) (l ++ [a]) (by unfold nextI; rw [HIA.out]; simp) (fun _ h => MO.out (a + 1) h) (tu + 1) (by omega))
                        clear RND MORE NX HIA MO o24 o21 o22 o23 o19 hth
                        by_cases ct : tu < nb
                        · have tt : (tu : Int) < (nb : Int) := by omega
                          obtain ⟨ba', bc', eb, -, -, hbb⟩ := HBR.out
                          simp only [Value.slice.injEq] at eb
                          obtain ⟨rfl, -, rfl⟩ := eb
                          have htb : tu < bs.length := by have := HNB.out; omega
                          obtain ⟨gb, ob, rfl, hcb⟩ := hbb (by omega)
                          have db := (Mv.of_below BW10.out (fun _ => False)).cell (hcb tu htb) id
                          clear hcb
                          cases hbv : bs[tu] with
                          | true =>
                            rw [hbv] at db
                            have RN := RNy
                            go_wp2_with fail
                            go_roundw
                            case rel => exact ⟨y, d', tu + 1, i + 1, l ++ [a], by omega, by first | rfl | go_num, rfl, by first | rfl | (simp), by first | rfl | go_num, by first | rfl | go_num, RN⟩
                            case measure => simp [intOf]; omega
                          | false =>
                            rw [hbv] at db
                            have RN := RNa
                            go_wp2_with fail
                            go_roundw
                            case rel => exact ⟨a + 1, d', tu + 1, i + 1, l ++ [a], by omega, by first | rfl | go_num, rfl, by first | rfl | (simp), by first | rfl | go_num, by first | rfl | go_num, RN⟩
                            case measure => simp [intOf]; omega
                        · have tt : ¬ (tu : Int) < (nb : Int) := by omega
                          have RN := RNa
                          go_wp2_with fail
                          go_roundw
                          case rel => exact ⟨a + 1, d', tu + 1, i + 1, l ++ [a], by omega, by first | rfl | go_num, rfl, by first | rfl | (simp), by first | rfl | go_num, by first | rfl | go_num, RN⟩
                          case measure => simp [intOf]; omega
                      · have f20 : (op == 20) = false := beq_eq_false_iff_ne.2 o20
                        have RN := hide (RND.out (a + 1) (l ++ [a]) (by unfold nextI; rw [HIA.out]; simp [o22, o23, o20, o19]) (fun _ h => MO.out (a + 1) h) tu htu1)
                        clear RND MORE NX HIA MO o24 o21 o22 o23 o19 o20
                        go_wp2_with fail
                        go_roundw
                        case rel => exact ⟨a + 1, d', tu, i + 1, l ++ [a], by omega, by first | rfl | go_num, rfl, by first | rfl | (simp), by first | rfl | go_num, by first | rfl | go_num, RN⟩
                        case measure => simp [intOf]; omega
          · have t1 : ¬ (i : Int) < 5000 := by omega
            have BF := hide (below_on B7.out HW.out.below)
            clear HW
            go_wp2_with fail
            go_ret
            exact ⟨rfl, BF.out⟩
end Go.Proofs.YtklamaibinjcmaaDoor
