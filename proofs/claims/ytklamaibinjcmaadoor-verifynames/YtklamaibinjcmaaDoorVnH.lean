/-
  VerifyNames: the walk.
-/
import Derived.Test.YtklamaibinjcmaaDoorVnG
namespace Go.Proofs.YtklamaibinjcmaaDoor
open Go.RowKit
set_option maxRecDepth 100000
theorem max_on (i : Nat) : max i (i + 1) = i + 1 := by omega
set_option maxHeartbeats 8000000 in
theorem names_any {Q : Nat → Prop} {W : World} {vs vf vk : Value} {p : Pg} {ks : List Kind} (hsh : ∀ V, Tb V → Calls Tryd.prog 6 #[] V fun e w' => e = .returned (.bool true) ∧ Below V.heap.size V w') (hp : Pgm Q W vs vf p) (hk : Kr W vk ks) (ht : Tb W) (nm : ByteArray) (hnm : nm.size ≤ 9223372036854775807) : Calls Tryd.prog 5 #[.agg #[vs, vf], vk, .string nm] W fun e w' => e = .returned (.bool true) ∧ Below W.heap.size W w' := by
  have HP : Hid (∀ V, Below W.heap.size W V → Pgm Q V vs vf p) := fun V hV => ⟨hp.1.later hV, hp.2.later hV⟩
  have HKR : Hid (∀ V, Below W.heap.size W V → Kr V vk ks) := fun V hV => hk.later hV
  have HT : Hid (∀ V, Below W.heap.size W V → Tb V) := fun V hV => ht.later hV
  have JS : Hid (∀ V, Below W.heap.size W V → Calls Tryd.prog 6 #[] V fun e w' => e = .returned (.bool true) ∧ Below V.heap.size V w') := fun V hV => hsh V (HT.out V hV)
  have JV : Hid (∀ V, Below W.heap.size W V → Calls Tryd.prog 15 #[.agg #[vs, vf], vk] V fun e w' => ∃ v o, e = .returned v ∧ Vo p ks o ∧ Flt w' v o ∧ Below V.heap.size V w') := fun V hV => verify_any (HP.out V hV) (HKR.out V hV) (HT.out V hV)
  have JW : Hid (∀ V N gq gs c1 gf c2 ns nf ls lf, Nq N W V gq gs c1 gf c2 ns nf p ls lf → Calls Tryd.prog 15 #[.agg #[.slice (some ⟨gs, 0, none⟩) ns c1, .slice (some ⟨gf, 0, none⟩) nf c2], vk] V fun e w' => ∃ v o, e = .returned v ∧ Vo ⟨ls.map Prod.fst, lf.map Prod.fst⟩ ks o ∧ Flt w' v o ∧ Below V.heap.size V w') := fun V N gq gs c1 gf c2 ns nf ls lf h => verify_any h.pgm (HKR.out V h.b) (HT.out V h.b)
  have JF : Hid (∀ V v o, Vo p ks o → Flt V v o → Calls Tryd.prog 13 #[v] V fun e w' => e = .returned (.tuple #[.int .i64 (atO o), .int .i64 (erN o), .bool true]) ∧ Below V.heap.size V w') := fun V v o h1 h2 => (lfault_any h2).mono fun e w' ⟨a, b⟩ => ⟨by rw [a, lfV_eq h1], b⟩
  have JG : Hid (∀ V v o q, Vo q ks o → Flt V v o → Calls Tryd.prog 13 #[v] V fun e w' => e = .returned (.tuple #[.int .i64 (atO o), .int .i64 (erN o), .bool true]) ∧ Below V.heap.size V w') := fun V v o q h1 h2 => (lfault_any h2).mono fun e w' ⟨a, b⟩ => ⟨by rw [a, lfV_eq h1], b⟩
  obtain ⟨sa, sc, hvs, s1, s2⟩ := hp.1.at
  obtain ⟨fa, fc, hvf, f1, f2⟩ := hp.2.at
  obtain ⟨ka, kc, hvk, k1, k2, -⟩ := hk
  subst hvs hvf hvk
  have JL : Hid (mayOk p = true → ∀ V, Below W.heap.size W V → Calls Tryd.prog 7 #[.agg #[.slice sa p.sys.length sc, .slice fa p.fns.length fc]] V fun e w' => ∃ gs gf c1 c2 ls lf, e = .returned (.agg #[.slice (some ⟨gs, 0, none⟩) p.sys.length c1, .slice (some ⟨gf, 0, none⟩) p.fns.length c2]) ∧ LS V.heap.size w' (.slice (some ⟨gs, 0, none⟩) p.sys.length c1) ls ∧ LF V.heap.size w' (.slice (some ⟨gf, 0, none⟩) p.fns.length c2) lf ∧ ls.map Prod.fst = p.sys ∧ lf.map Prod.fst = p.fns ∧ Below V.heap.size V w') := fun hm V hV => by
    obtain ⟨⟨q1, q2⟩, q3, q4⟩ := small_of hm
    have := HP.out V hV
    exact lent_any p.sys p.fns rfl rfl s1 s2 f1 f2 this.1 this.2 q1 q2 q3 q4
  obtain ⟨ns, hns⟩ : ∃ n, n = p.sys.length := ⟨_, rfl⟩
  obtain ⟨nf, hnf⟩ : ∃ n, n = p.fns.length := ⟨_, rfl⟩
  obtain ⟨nk, hnk⟩ : ∃ n, n = ks.length := ⟨_, rfl⟩
  have HNS := hide hns
  have HNF := hide hnf
  have k3 : kc ≤ 9223372036854775807 := by unfold maxLen at k2; omega
  rw [← hns, ← hnf] at HP JV JL
  rw [← hnk] at HKR JV k1 JW
  rw [← hns] at s1
  rw [← hnf] at f1
  rw [← hns, ← hnf, ← hnk]
  clear hp ht hsh k2 hns hnf hnk
  obtain ⟨W1, hW1⟩ : ∃ X, X = W.alloc (.cells #[.slice sa ns sc, .slice fa nf fc] 25) := ⟨_, rfl⟩
  have bw1 : Below W.heap.size W W1 := hW1 ▸ below_alloc W _
  obtain ⟨g3, hg3⟩ : ∃ y, y = W.heap.size := ⟨_, rfl⟩
  have kp : W1.heap[g3]? = some (.cells #[.slice sa ns sc, .slice fa nf fc] 25 (0, 0)) := by rw [hW1, hg3]; exact heap_alloc_new W _
  have B1 := hide bw1
  have KP : Hid (∀ V, Below W1.heap.size W1 V → V.cell? ⟨g3, 0, none⟩ = some (.slice sa ns sc) ∧ V.cell? ⟨g3, 1, none⟩ = some (.slice fa nf fc)) := fun V hV => by
    have := (hV.block g3 (lt_of_block kp)).trans kp
    refine ⟨?_, ?_⟩ <;> rw [cell_of_row V _ _ _ 25 (0, 0) this] <;> rfl
  go_enter Tryd.func5, Tryd.ntmps5
  go_upto_region 1 with fail
  rw [← hW1, ← hg3]
  clear hW1 hg3 bw1 kp
  have J1 := hide (JS.out W1 B1.out)
  go_wp2_with fail
  refine J1.out.mono ?_
  rintro e w2 ⟨rfl, b2⟩
  have B12 := hide b2
  have B2 := hide (below_on B1.out b2)
  obtain ⟨x0, x1⟩ := KP.out w2 b2
  have J2 := hide (JV.out w2 B2.out)
  clear J1 b2 JS
  go_wp2_with fail
  refine J2.out.mono ?_
  rintro e w3 ⟨ve, oo, rfl, hvo, hfl, b3⟩
  have HVO := hide hvo
  have B13 := hide (below_on B12.out b3)
  have B3 := hide (below_on B2.out b3)
  have J3 := hide (JF.out w3 ve oo hvo hfl)
  obtain ⟨ax, hax⟩ : ∃ a, a = atO oo := ⟨_, rfl⟩
  obtain ⟨er, her⟩ : ∃ a, a = erN oo := ⟨_, rfl⟩
  rw [← hax, ← her] at J3
  have HAX := hide hax
  have HER := hide her
  clear J2 hvo hfl b3 hax her x0 x1
  go_wp2_with fail
  refine J3.out.mono ?_
  rintro e w4 ⟨rfl, b4⟩
  have B14 := hide (below_on B13.out b4)
  have B4 := hide (below_on B3.out b4)
  obtain ⟨x0, x1⟩ := KP.out w4 B14.out
  clear J3 b4
  go_upto_region 4 with fail
  by_cases e65 : er = 65
  · have t1 : ((er : Int) == 65) = true := by rw [e65]; rfl
    clear e65
    go_wp2_with fail
    go_ret
    exact ⟨rfl, B4.out⟩
  have t65 : ((er : Int) == 65) = false := beq_eq_false_iff_ne.2 e65
  by_cases e130 : er = 130
  · have t1 : ((er : Int) == 130) = true := by rw [e130]; rfl
    clear e130 e65
    go_wp2_with fail
    go_ret
    exact ⟨rfl, B4.out⟩
  have t130 : ((er : Int) == 130) = false := beq_eq_false_iff_ne.2 e130
  by_cases e0 : ns + nf = 0
  · obtain ⟨rfl, rfl⟩ : ns = 0 ∧ nf = 0 := by omega
    clear e0 e65 e130
    go_wp2_with fail
    go_ret
    exact ⟨rfl, B4.out⟩
  obtain ⟨hmb, hmo⟩ := vo_may HVO.out (HER.out ▸ e65) (HER.out ▸ e130)
  have HMB := hide hmb
  have HMO := hide hmo
  obtain ⟨hn1, hn2⟩ : ns ≤ 16 ∧ nf ≤ 16 := by have := (small_of hmo).1; have := HNS.out; have := HNF.out; omega
  have J5 := hide (JL.out hmo w4 B4.out)
  have tnn : (((ns : Int) + (nf : Int)) == 0) = false := beq_eq_false_iff_ne.2 (by omega)
  have tn2 : ¬ ((ns : Int) + (nf : Int)) = 0 := by omega
  have tw : IntKind.i64.wrap ((ns : Int) + (nf : Int)) = (ns : Int) + (nf : Int) := by rw [IntKind.wrap_i64]; omega
  clear e65 e130 hmb hmo
  go_wp2_with fail
  refine J5.out.mono ?_
  rintro e w5 ⟨gs, gf, c1, c2, ls, lf, rfl, hS, hF, hl1, hl2, b5⟩
  obtain ⟨N, hN⟩ : ∃ n, n = w4.heap.size := ⟨_, rfl⟩
  rw [← hN] at hS hF
  obtain ⟨W6, hW6⟩ : ∃ X, X = w5.alloc (.cells #[.slice (some ⟨gs, 0, none⟩) ns c1, .slice (some ⟨gf, 0, none⟩) nf c2] 25) := ⟨_, rfl⟩
  obtain ⟨gq, hgq⟩ : ∃ n, n = w5.heap.size := ⟨_, rfl⟩
  have NQ0 : Hid (Nq N W W6 gq gs c1 gf c2 ns nf p ls lf) := by
    have b6 := below_alloc w5 (.cells #[.slice (some ⟨gs, 0, none⟩) ns c1, .slice (some ⟨gf, 0, none⟩) nf c2] 25)
    rw [hW6]
    exact ⟨by rw [hgq]; exact heap_alloc_new w5 _, hS.later b6, hF.later b6, below_on (below_on B4.out b5) b6, by rw [hN]; exact B4.out.size, by have := congrArg List.length hl1; rw [List.length_map] at this; exact this.trans HNS.out.symm, by have := congrArg List.length hl2; rw [List.length_map] at this; exact this.trans HNF.out.symm, by rw [hl1, hl2]⟩
  clear hS hF hl1 hl2 b5 hN J5 x0 x1 t65 t130 tnn tn2 tw JL
  go_upto_region 7 with fail
  rw [← hW6, ← hgq]
  clear hW6 hgq
  go_wp2_with fail
  go_loopw [13] (fun v13 V => ∃ (i : Nat) (ls' : List (Sy × Lv)), i ≤ ns ∧ v13 = .int .i64 (i : Int) ∧ Hid (OkS ls' i) ∧ Hid (Nq N W V gq gs c1 gf c2 ns nf p ls' lf)) (fun v13 _ => ns - (intOf v13).toNat)
  case atStart => exact ⟨0, ls, Nat.zero_le _, rfl, fun k _ h => absurd h (by omega), NQ0⟩
  case round =>
    obtain ⟨i, ls1, hi, rfl, HOK, HQ⟩ := hrel
    clear NQ0
    obtain ⟨x0, x1⟩ := HQ.out.cells
    obtain ⟨⟨p1, p2⟩, p3, p4⟩ := HQ.out.caps
    by_cases hlt : i < ns
    · have t1 : (i : Int) < (ns : Int) := by omega
      obtain ⟨⟨xx, y0⟩, y1⟩ := HQ.out.atS hlt
      have HIL : Hid (i < ls1.length) := by have := HQ.out.l1; unfold Hid; omega
      go_wp2_with fail
      go_roundw
      case rel => exact ⟨i + 1, _, by omega, by go_num, max_on i ▸ HOK.out.set HIL.out (show okN ⟨#[111, 116, 104, 101, 114]⟩ from ⟨by decide, by decide⟩) (.inl ⟨by omega, Nat.le_refl _⟩), HQ.out.setS HIL.out _⟩
      case measure => simp [intOf]; omega
    · have t1 : ¬ (i : Int) < (ns : Int) := by omega
      have e8 : i = ns := by omega
      have HOS : Hid (OkS ls1 ns) := e8 ▸ HOK
      clear e8
      have NQ1 := HQ
      clear HQ HOK
      go_wp2_with fail
      clear x0 x1
      go_loopw [14] (fun v14 V => ∃ (j : Nat) (lf' : List (Rt × Value)), j ≤ nf ∧ v14 = .int .i64 (j : Int) ∧ Hid (OkF lf' j) ∧ Hid (Nq N W V gq gs c1 gf c2 ns nf p ls1 lf')) (fun v14 _ => nf - (intOf v14).toNat)
      case atStart => exact ⟨0, lf, Nat.zero_le _, rfl, fun k _ h => absurd h (by omega), NQ1⟩
      case round =>
        obtain ⟨j, lf1, hj, rfl, HOK, HQ⟩ := hrel
        clear NQ1
        obtain ⟨x0, x1⟩ := HQ.out.cells
        by_cases hltj : j < nf
        · have t2 : (j : Int) < (nf : Int) := by omega
          obtain ⟨⟨xx, y0⟩, y1⟩ := HQ.out.atF hltj
          have HIL : Hid (j < lf1.length) := by have := HQ.out.l2; unfold Hid; omega
          go_wp2_with fail
          go_roundw
          case rel => exact ⟨j + 1, _, by omega, by go_num, max_on j ▸ HOK.out.set HIL.out (show okN ⟨#[120]⟩ from ⟨by decide, by decide⟩) (.inl ⟨by omega, Nat.le_refl _⟩), HQ.out.setF HIL.out _⟩
          case measure => simp [intOf]; omega
        · have t2 : ¬ (j : Int) < (nf : Int) := by omega
          have e8 : j = nf := by omega
          have HOF : Hid (OkF lf1 nf) := e8 ▸ HOK
          clear e8
          have J6 := hide (JW.out wr N gq gs c1 gf c2 ns nf ls1 lf1 HQ.out)
          clear HOK
          go_wp2_with fail
          refine J6.out.mono ?_
          rintro e w6 ⟨v6, o6, rfl, hv6, hf6, b6⟩
          obtain rfl : oo = o6 := vo_names HVO.out hv6 HQ.out.er.symm HMO.out (HQ.out.ok HMO.out HOS.out HOF.out)
          have J7 := hide (JG.out w6 v6 oo _ hv6 hf6)
          rw [← HAX.out, ← HER.out] at J7
          have HQ6 := hide (HQ.out.later b6)
          clear hv6 hf6 b6 J6 HQ x0 x1
          go_wp2_with fail
          refine J7.out.mono ?_
          rintro e w7 ⟨rfl, b7⟩
          have HQ7 := hide (HQ6.out.later b7)
          have tax : ((ax : Int) != ax) = false := by simp
          have ter : ((er : Int) != er) = false := by simp
          obtain ⟨x0, x1⟩ := HQ7.out.cells
          clear b7 J7 HQ6
          go_upto_region 18 with fail
          clear tax ter
          by_cases hpos : 0 < ns
          · have t3 : (0 : Int) < (ns : Int) := by omega
            obtain ⟨⟨xx, y0⟩, y1⟩ := HQ7.out.atS hpos
            rw [show 0 * 8 + 4 = 4 from rfl] at y0 y1
            have HIL : Hid (0 < ls1.length) := by have := HQ7.out.l1; unfold Hid; omega
            have HQ8 := hide (HQ7.out.setS HIL.out nm)
            rw [show 0 * 8 + 4 = 4 from rfl] at HQ8
            obtain ⟨V8, hV8⟩ : ∃ X, X = w7.setCell ⟨gs, 4, none⟩ (.string nm) := ⟨_, rfl⟩
            rw [← hV8] at HQ8
            have HBN8 : Hid (¬ okN nm → (∃ s ∈ (ls1.set 0 (nmL nm (ls1[0]'HIL.out))).map Prod.fst, ¬ okN s.run.name) ∨ ∃ r ∈ lf1.map Prod.fst, ¬ okN r.name) := fun h => .inl ⟨_, List.mem_map.2 ⟨_, List.mem_set HIL.out _, rfl⟩, h⟩
            go_upto_region 21 with fail
            rw [← hV8]
            clear hV8 y0 y1 x0 x1
            have J8 := hide (JW.out V8 N gq gs c1 gf c2 ns nf (ls1.set 0 (nmL nm (ls1[0]'HIL.out))) lf1 HQ8.out)
            obtain ⟨x0, x1⟩ := HQ8.out.cells
            go_wp2_with fail
            refine J8.out.mono ?_
            rintro e w9 ⟨v9, o9, rfl, hv9, hf9, b9⟩
            by_cases hok : okN nm
            · obtain rfl : oo = o9 := vo_names HVO.out hv9 HQ8.out.er.symm HMO.out (HQ8.out.ok HMO.out (by have := HOS.out.set (j := 0) HIL.out hok (.inr hpos); rwa [Nat.max_eq_left (by omega)] at this) (HOF.out))
              have J9 := hide (JG.out w9 v9 oo _ hv9 hf9)
              rw [← HAX.out, ← HER.out] at J9
              have B9 := hide (below_on HQ8.out.b b9)
              have z1 : ¬ nm.size < 1 := by have := hok.1; omega
              have z2 : ¬ ((nm.size : Int) < 1) := by omega
              have z3 : ¬ ((16 : Int) < (nm.size : Int)) := by have := hok.2; omega
              have z4 : ¬ nm = ByteArray.empty := fun e => by subst e; exact z1 (by decide)
              have z5 : ¬ (16 < nm.size) := by omega
              clear hv9 hf9 b9 J8 hok x0 x1
              go_wp2_with fail
              refine J9.out.mono ?_
              rintro e w10 ⟨rfl, b10⟩
              have B10 := hide (below_on B9.out b10)
              clear b10 J9
              go_wp2_with fail
              go_ret
              exact ⟨by simp, B10.out⟩
            · have e9 : o9 = some (0, 130) := vo_bad hv9 HMB.out (ok_not (HBN8.out hok))
              have J9 := hide (JG.out w9 v9 o9 _ hv9 hf9)
              rw [e9] at J9
              have B9 := hide (below_on HQ8.out.b b9)
              have J9' : Hid (Calls Tryd.prog 13 #[v9] w9 fun e w' => e = .returned (.tuple #[.int .i64 0, .int .i64 130, .bool true]) ∧ Below w9.heap.size w9 w') := J9
              clear hv9 hf9 b9 J8 e9 J9 x0 x1
              by_cases hz : nm.size < 1
              · have z0 : nm = ByteArray.empty := by
                  have : nm.data.size = 0 := by have : nm.size = 0 := by omega
                                                exact this
                  cases nm with
                  | mk d => simp at this; subst this; rfl
                subst z0
                clear hz hok
                go_wp2_with fail
                refine J9'.out.mono ?_
                rintro e w10 ⟨rfl, b10⟩
                have B10 := hide (below_on B9.out b10)
                clear b10 J9'
                go_wp2_with fail
                go_ret
                exact ⟨by simp, B10.out⟩
              · have z2 : ¬ ((nm.size : Int) < 1) := by omega
                have z6 : 16 < nm.size := by
                  apply Classical.byContradiction
                  intro c
                  exact hok ⟨by omega, by omega⟩
                have z3 : (16 : Int) < (nm.size : Int) := by omega
                have z4 : ¬ nm = ByteArray.empty := fun e => by subst e; exact hz (by decide)
                clear hok
                go_wp2_with fail
                refine J9'.out.mono ?_
                rintro e w10 ⟨rfl, b10⟩
                have B10 := hide (below_on B9.out b10)
                clear b10 J9'
                go_wp2_with fail
                go_ret
                exact ⟨by simp, B10.out⟩
          · have t3 : ¬ (0 : Int) < (ns : Int) := by omega
            have hposf : 0 < nf := by omega
            obtain ⟨⟨xx, y0⟩, y1⟩ := HQ7.out.atF hposf
            rw [Nat.zero_mul] at y0 y1
            have HIL : Hid (0 < lf1.length) := by have := HQ7.out.l2; unfold Hid; omega
            have HQ8 := hide (HQ7.out.setF HIL.out nm)
            rw [Nat.zero_mul] at HQ8
            have t4 : (0 : Int) < (nf : Int) := by omega
            obtain ⟨V8, hV8⟩ : ∃ X, X = w7.setCell ⟨gf, 0, none⟩ (.string nm) := ⟨_, rfl⟩
            rw [← hV8] at HQ8
            have HBN8 : Hid (¬ okN nm → (∃ s ∈ ls1.map Prod.fst, ¬ okN s.run.name) ∨ ∃ r ∈ (lf1.set 0 (nmF nm (lf1[0]'HIL.out))).map Prod.fst, ¬ okN r.name) := fun h => .inr ⟨_, List.mem_map.2 ⟨_, List.mem_set HIL.out _, rfl⟩, h⟩
            go_upto_region 21 with fail
            rw [← hV8]
            clear hV8 y0 y1 x0 x1
            have J8 := hide (JW.out V8 N gq gs c1 gf c2 ns nf ls1 (lf1.set 0 (nmF nm (lf1[0]'HIL.out))) HQ8.out)
            obtain ⟨x0, x1⟩ := HQ8.out.cells
            go_wp2_with fail
            refine J8.out.mono ?_
            rintro e w9 ⟨v9, o9, rfl, hv9, hf9, b9⟩
            by_cases hok : okN nm
            · obtain rfl : oo = o9 := vo_names HVO.out hv9 HQ8.out.er.symm HMO.out (HQ8.out.ok HMO.out (HOS.out) (by have := HOF.out.set (j := 0) HIL.out hok (.inr hposf); rwa [Nat.max_eq_left (by omega)] at this))
              have J9 := hide (JG.out w9 v9 oo _ hv9 hf9)
              rw [← HAX.out, ← HER.out] at J9
              have B9 := hide (below_on HQ8.out.b b9)
              have z1 : ¬ nm.size < 1 := by have := hok.1; omega
              have z2 : ¬ ((nm.size : Int) < 1) := by omega
              have z3 : ¬ ((16 : Int) < (nm.size : Int)) := by have := hok.2; omega
              have z4 : ¬ nm = ByteArray.empty := fun e => by subst e; exact z1 (by decide)
              have z5 : ¬ (16 < nm.size) := by omega
              clear hv9 hf9 b9 J8 hok x0 x1
              go_wp2_with fail
              refine J9.out.mono ?_
              rintro e w10 ⟨rfl, b10⟩
              have B10 := hide (below_on B9.out b10)
              clear b10 J9
              go_wp2_with fail
              go_ret
              exact ⟨by simp, B10.out⟩
            · have e9 : o9 = some (0, 130) := vo_bad hv9 HMB.out (ok_not (HBN8.out hok))
              have J9 := hide (JG.out w9 v9 o9 _ hv9 hf9)
              rw [e9] at J9
              have B9 := hide (below_on HQ8.out.b b9)
              have J9' : Hid (Calls Tryd.prog 13 #[v9] w9 fun e w' => e = .returned (.tuple #[.int .i64 0, .int .i64 130, .bool true]) ∧ Below w9.heap.size w9 w') := J9
              clear hv9 hf9 b9 J8 e9 J9 x0 x1
              by_cases hz : nm.size < 1
              · have z0 : nm = ByteArray.empty := by
                  have : nm.data.size = 0 := by have : nm.size = 0 := by omega
                                                exact this
                  cases nm with
                  | mk d => simp at this; subst this; rfl
                subst z0
                clear hz hok
                go_wp2_with fail
                refine J9'.out.mono ?_
                rintro e w10 ⟨rfl, b10⟩
                have B10 := hide (below_on B9.out b10)
                clear b10 J9'
                go_wp2_with fail
                go_ret
                exact ⟨by simp, B10.out⟩
              · have z2 : ¬ ((nm.size : Int) < 1) := by omega
                have z6 : 16 < nm.size := by
                  apply Classical.byContradiction
                  intro c
                  exact hok ⟨by omega, by omega⟩
                have z3 : (16 : Int) < (nm.size : Int) := by omega
                have z4 : ¬ nm = ByteArray.empty := fun e => by subst e; exact hz (by decide)
                clear hok
                go_wp2_with fail
                refine J9'.out.mono ?_
                rintro e w10 ⟨rfl, b10⟩
                have B10 := hide (below_on B9.out b10)
                clear b10 J9'
                go_wp2_with fail
                go_ret
                exact ⟨by simp, B10.out⟩
end Go.Proofs.YtklamaibinjcmaaDoor
