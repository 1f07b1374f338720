/-
  Verify: the document's wrong.
-/
import Derived.Test.YtfkhhplcogedmaaGreatDoorVdD
namespace Go.Proofs.YtfkhhplcogedmaaGreatDoor
open Go.RowKit
set_option maxRecDepth 100000
section
variable {fs : List Rt} {c : List Ins} {p : Nat}
theorem wr_jump (h : (isJ (iat c p) && !thereI c (iat c p).a) = true) : wrR 150 151 153 fs c p = 150 := by
  unfold wrR
  rw [if_pos h]
theorem wr_bad (h : (isJ (iat c p) && !thereI c (iat c p).a) = false) (hb : Bad fs c p) : wrR 150 151 153 fs c p = 151 := by
  unfold wrR
  rw [if_neg (by rw [h]; decide), if_pos hb]
theorem wr_end (h : (isJ (iat c p) && !thereI c (iat c p).a) = false) (hb : ¬ Bad fs c p) {x : Int} (hx : x ∈ nextD c p) (hn : (c.length : Int) ≤ x) : wrR 150 151 153 fs c p = 153 := by
  unfold wrR
  rw [if_neg (by rw [h]; decide), if_neg hb, if_pos ((endD_iff h).2 ⟨x, hx, hn⟩)]
theorem wr_fine (h : (isJ (iat c p) && !thereI c (iat c p).a) = false) (hb : ¬ Bad fs c p) (hx : ∀ x ∈ nextD c p, x < (c.length : Int)) : wrR 150 151 153 fs c p = 0 := by
  unfold wrR
  rw [if_neg (by rw [h]; decide), if_neg hb, if_neg (fun e => by obtain ⟨x, h1, h2⟩ := (endD_iff h).1 e; have := hx x h1; omega)]
end
/-- The depths of a place, as they are handed over. -/
def dArr (t : Nat → Bool) : Array Value := ((List.range 65).map fun d => Value.bool (t d)).toArray
theorem dArr_at (t : Nat → Bool) (d : Nat) (hd : d < 65) : (dArr t)[d]? = some (.bool (t d)) := by
  unfold dArr
  simp [hd]
theorem dArr_size (t : Nat → Bool) : (dArr t).size = 65 := by
  unfold dArr
  simp
set_option maxHeartbeats 8000000 in
theorem dwrong_any {Q : Nat → Prop} {w : World} {vc vf : Value} {c : List Ins} {fs : List Rt} {T : Nat → Nat → Bool} (h : Il Q w vc c) (hf : Rts Q w vf fs) (hc : c.length ≤ 2000) (hT : ∀ p d, T p d = true ↔ Rch fs c p d) (p : Nat) (hp : p < c.length) : Calls Tryz.prog 62 #[vc, .int .i64 (p : Int), .agg (dArr (T p)), vf] w fun e w' => e = .returned (.int .i64 (wrR 150 151 153 fs c p)) ∧ Below w.heap.size w w' := by
  have JE : Hid (∀ W, Below w.heap.size w W → Calls Tryz.prog 86 #[.agg #[.int .i64 (iat c p).op, .int .i64 (iat c p).a], vf] W fun e w' => e = .returned (.tuple #[.int .i64 (takE fs (iat c p)), .int .i64 (putE (iat c p))]) ∧ Below W.heap.size W w') := fun W hW => deffect_any (hf.later hW) (iat c p)
  have JN : Hid (∀ W, Below w.heap.size w W → Calls Tryz.prog 63 #[vc, .int .i64 (p : Int)] W fun e w' => ∃ v, e = .returned v ∧ w'.ownsRow W.heap.size 3 1 v (nextD c p).length (zq (nextD c p)) ∧ Below W.heap.size W w') := fun W hW => dnext_any (h.later hW) p hp hc
  obtain ⟨g0, o0, co, rfl, hc1, hc2, -, -, -, i2⟩ := il_open h p hp
  have HI : Hid (∀ W, Below w.heap.size w W → W.cell? ⟨g0, o0 + p * 2, none⟩ = some (.int .i64 (iat c p).op) ∧ W.cell? ⟨g0, o0 + p * 2 + 1, none⟩ = some (.int .i64 (iat c p).a)) := fun W hW => by
    obtain ⟨g1, o1, co1, e1, -, -, k1, k2, -⟩ := il_open (h.later hW) p hp
    injection e1 with e1
    injection e1 with e1
    injection e1 with e1 e2
    subst e1 e2
    exact ⟨k1, k2⟩
  obtain ⟨af, cf, rfl, -, -, -⟩ := hf
  have HBD := hide (bad_iff hT (by omega) p)
  obtain ⟨A, hA⟩ : ∃ A, A = dArr (T p) := ⟨_, rfl⟩
  have HA : Hid (∀ d, d < 65 → A[d]? = some (.bool (T p d))) := fun d hd => by rw [hA]; exact dArr_at _ d hd
  obtain ⟨t, ht⟩ : ∃ t, t = T p := ⟨_, rfl⟩
  rw [← ht] at HBD
  have HA : Hid (∀ d, d < 65 → A[d]? = some (.bool (t d))) := by rw [ht]; exact HA
  rw [← hA]
  have hn0 := takE_nn (fs := fs) (iat c p)
  have hpt : 0 ≤ putE (iat c p) ∧ putE (iat c p) ≤ 1 := by
    unfold putE
    have h40 := opk_lt (iat c p).op
    have hle : ∀ k, k < 40 → pts k ≤ 1 := by decide
    have := hle _ h40
    omega
  obtain ⟨tk, htk⟩ : ∃ t, t = takE fs (iat c p) := ⟨_, rfl⟩
  obtain ⟨pt, hpt'⟩ : ∃ t, t = putE (iat c p) := ⟨_, rfl⟩
  have HBE : Hid (∀ d : Nat, behI fs c p d = if (d : Int) < tk then none else if (d : Int) - tk + pt ≤ 64 then some ((d : Int) - tk + pt).toNat else none) := fun d => by
    rw [htk, hpt']
    rfl
  rw [← htk, ← hpt'] at JE
  rw [← htk] at hn0
  rw [← hpt'] at hpt
  obtain ⟨op, hop⟩ : ∃ x, x = (iat c p).op := ⟨_, rfl⟩
  obtain ⟨av, hav⟩ : ∃ x, x = (iat c p).a := ⟨_, rfl⟩
  obtain ⟨n, hn⟩ : ∃ n, n = c.length := ⟨_, rfl⟩
  obtain ⟨nf, hnf⟩ : ∃ n, n = fs.length := ⟨_, rfl⟩
  have HNC := hide hn
  have HJ : Hid ((isJ (iat c p) && !thereI c (iat c p).a) = (decide (op = 19 ∨ op = 20) && !decide (0 ≤ av ∧ av < (n : Int)))) := by
    rw [hop, hav, hn]
    rfl
  rw [← hop] at HI JE
  rw [← hav] at HI JE i2
  rw [← hn] at hc1 hp hc JN ⊢
  rw [← hnf] at JE ⊢
  have hpi : (p : Int) < (n : Int) := by omega
  obtain ⟨wv, hwv⟩ : ∃ r, r = wrR 150 151 153 fs c p := ⟨_, rfl⟩
  have HWV := hide hwv
  rw [← hwv]
  unfold I6 at i2
  clear h hA ht htk hpt' hop hav hn hnf hwv hT
  obtain ⟨w1, hw1⟩ : ∃ X, X = w.alloc (.cells A 129) := ⟨_, rfl⟩
  have B1 : Hid (Below w.heap.size w w1) := hw1 ▸ below_alloc w _
  have k1 : w1.heap[w.heap.size]? = some (.cells A 129 (0, 0)) := by rw [hw1]; exact heap_alloc_new w _
  obtain ⟨gA, hgA⟩ : ∃ x, x = w.heap.size := ⟨_, rfl⟩
  rw [← hgA] at k1
  have HK : Hid (∀ W, Below w1.heap.size w1 W → ∀ d, d < 65 → W.cell? ⟨gA, d, none⟩ = some (.bool (t d))) := fun W hW d hd => by
    have := (hW.block gA (lt_of_block k1)).trans k1
    rw [cell_of_row W _ _ _ 129 (0, 0) this]
    exact HA.out d hd
  obtain ⟨z0, z1⟩ := HI.out w1 B1.out
  have J1 := hide (JE.out w1 B1.out)
  have tn : IntKind.i64.wrap (n : Int) = (n : Int) := by rw [IntKind.wrap_i64]; omega
  go_enter Tryz.func62, Tryz.ntmps62
  go_upto_region 1 with fail
  rw [← hw1, ← hgA]
  clear hw1 hgA k1 HA JE
  go_wp2_with fail
  refine J1.out.mono ?_
  rintro e w2 ⟨rfl, b2⟩
  have B12 := hide b2
  have B2 := hide (below_on B1.out b2)
  clear z0 z1 J1 b2
  obtain ⟨z0, z1⟩ := HI.out w2 B2.out
  by_cases c19 : op = 19
  · subst c19
    have hd19 : True := trivial
    · clear hd19
      have hj1 : decide ((19 : Int) = 19 ∨ (19 : Int) = 20) = true := by decide
      by_cases th : 0 ≤ av ∧ av < (n : Int)
      · have HJN : Hid ((isJ (iat c p) && !thereI c (iat c p).a) = false) := HJ.out.trans (by rw [hj1, decide_eq_true th]; rfl)
        obtain ⟨th1, th2⟩ := th
        have th3 : ¬ av < 0 := by omega
        have th4 : ¬ (n : Int) ≤ av := by omega
        clear hj1
        clear HJ
        go_upto_region 5 with fail
        clear z0 z1
        go_wp2_with fail
        go_loopw [12, 13] (fun v12 v13 W => ∃ k : Nat, k ≤ 65 ∧ v13 = .int .i64 (k : Int) ∧ v12 = .int .i64 (cnT t k : Int) ∧ Hid (∀ d, d < k → t d = true → behI fs c p d ≠ none) ∧ W = w2) (fun _ v13 _ => 65 - (intOf v13).toNat)
        case atStart => exact ⟨0, by omega, rfl, rfl, fun d hd => absurd hd (by omega), rfl⟩
        case round =>
          obtain ⟨k, hk, rfl, rfl, HBS, rfl⟩ := hrel
          have hcl := cnT_le t k
          have hcs := cnT_succ t k
          by_cases hlt : k < 65
          · have hki : (k : Int) ≤ 64 := by omega
            have f0 := HK.out wr B12.out k hlt
            cases htk : t k with
            | false =>
              rw [htk] at f0 hcs
              have hcs : cnT t (k + 1) = cnT t k := by simpa using hcs
              have HBS2 : Hid (∀ d, d < k + 1 → t d = true → behI fs c p d ≠ none) := fun d hd hd2 => by
                by_cases e : d = k
                · subst e
                  rw [htk] at hd2
                  cases hd2
                · exact HBS.out d (by omega) hd2
              go_wp2_with fail
              go_roundw
              case rel => exact ⟨k + 1, by omega, by go_num, by rw [hcs], HBS2, trivial⟩
              case measure => simp [intOf]; omega
            | true =>
              rw [htk] at f0 hcs
              have hcs : cnT t (k + 1) = cnT t k + 1 := by simpa using hcs
              obtain ⟨cn, hcn⟩ : ∃ x, x = cnT t k := ⟨_, rfl⟩
              have HCN := hide hcn
              rw [← hcn] at hcl hcs ⊢
              have HCS := hide hcs
              clear hcn hcs
              have wn : IntKind.i64.wrap ((cn : Int) + 1) = (cn : Int) + 1 := by rw [IntKind.wrap_i64]; omega
              by_cases c1 : (k : Int) < tk
              · have HE : Hid (wv = 151) := HWV.out.trans (wr_bad HJN.out (HBD.out.2 (.inl ⟨k, hlt, htk, (HBE.out k).trans (if_pos c1)⟩)))
                go_wp2_with fail
                go_ret
                exact ⟨ret_int HE.out.symm, B2.out⟩
              · have w1' : IntKind.i64.wrap ((k : Int) - tk) = (k : Int) - tk := by rw [IntKind.wrap_i64]; omega
                have w2' : IntKind.i64.wrap ((k : Int) - tk + pt) = (k : Int) - tk + pt := by rw [IntKind.wrap_i64]; omega
                by_cases c2 : (k : Int) - tk + pt ≤ 64
                · have c3 : ¬ (64 : Int) < (k : Int) - tk + pt := by omega
                  have HNN : Hid (behI fs c p k ≠ none) := by unfold Hid; rw [HBE.out k, if_neg c1, if_pos c2]; simp
                  have HBS2 : Hid (∀ d, d < k + 1 → t d = true → behI fs c p d ≠ none) := fun d hd hd2 => by
                    by_cases e : d = k
                    · subst e
                      exact HNN.out
                    · exact HBS.out d (by omega) hd2
                  go_wp2_with fail
                  go_roundw
                  case rel => exact ⟨k + 1, by omega, by go_num, by rw [HCS.out]; go_num, HBS2, trivial⟩
                  case measure => simp [intOf]; omega
                · have c3 : (64 : Int) < (k : Int) - tk + pt := by omega
                  have HE : Hid (wv = 151) := HWV.out.trans (wr_bad HJN.out (HBD.out.2 (.inl ⟨k, hlt, htk, (HBE.out k).trans (by rw [if_neg c1, if_neg c2])⟩)))
                  go_wp2_with fail
                  go_ret
                  exact ⟨ret_int HE.out.symm, B2.out⟩
          · have hk65 : k = 65 := by omega
            subst hk65
            have HB65 := HBS
            obtain ⟨cn, hcn⟩ : ∃ x, x = cnT t 65 := ⟨_, rfl⟩
            have HCN := hide hcn
            rw [← hcn] at hcl ⊢
            clear hcs hcn HBS hlt hk
            by_cases c1 : (cn : Int) > 1
            · have HE : Hid (wv = 151) := HWV.out.trans (wr_bad HJN.out (HBD.out.2 (.inr (by rw [← HCN.out]; omega))))
              go_wp2_with fail
              go_ret
              exact ⟨ret_int HE.out.symm, B2.out⟩
            · have HNB : Hid (¬ Bad fs c p) := fun e => by
                rcases HBD.out.1 e with ⟨d, h1, h2, h3⟩ | h1
                · exact HB65.out d h1 h2 h3
                · rw [← HCN.out] at h1
                  omega
              have J2 := hide (JN.out wr B2.out)
              go_wp2_with fail
              refine J2.out.mono ?_
              rintro e w4 ⟨v14, rfl, ho4, b4⟩
              have LR4 := hide (own_LR ho4)
              have B4 := hide (below_on B2.out b4)
              obtain ⟨a14, c14, hv14⟩ := own_len ho4
              have hL2 := nextD_len c p
              have HND : Hid (∀ x ∈ nextD c p, 0 ≤ x ∧ x ≤ 5000) := fun x hx => by have := nextD_nn x hx; have := HNC.out; omega
              obtain ⟨L, hL⟩ : ∃ L, L = nextD c p := ⟨_, rfl⟩
              have HL := hide hL
              rw [← hL] at hv14 hL2 HND LR4
              obtain ⟨nl, hnl⟩ : ∃ x, x = L.length := ⟨_, rfl⟩
              have HNL := hide hnl
              rw [← hnl] at hv14 hL2
              subst hv14
              clear ho4 b4 J2 hL hnl
              go_wp2_with fail
              go_loopw [15] (fun v15 W => ∃ k : Nat, k ≤ nl ∧ v15 = .int .i64 (k : Int) ∧ Hid (∀ j (hj : j < L.length), j < k → L[j] < (n : Int)) ∧ W = w4) (fun v15 _ => nl - (intOf v15).toNat)
              case atStart => exact ⟨0, Nat.zero_le _, rfl, fun j _ h => absurd h (by omega), rfl⟩
              case round =>
                obtain ⟨k, hk, rfl, HFS, hwr⟩ := hrel
                subst hwr
                by_cases hlt : k < nl
                · have hki : (k : Int) < (nl : Int) := by omega
                  have hkL : k < L.length := by have := HNL.out; omega
                  obtain ⟨g14, cc14, e14, e1, e2, x0, -⟩ := LR4.out.at hkL
                  rw [← HNL.out] at e14 e1
                  injection e14 with e3 e4 e5
                  subst e3 e5
                  obtain ⟨y, hy⟩ : ∃ y, y = L[k] := ⟨_, rfl⟩
                  have HY := hide hy
                  rw [← hy] at x0
                  clear hy
                  by_cases cy : (n : Int) ≤ y
                  · have HE : Hid (wv = 153) := HWV.out.trans (wr_end HJN.out HNB.out (x := y) (by rw [HY.out, ← HL.out]; exact List.getElem_mem hkL) (by rw [← HNC.out]; exact cy))
                    go_wp2_with fail
                    go_ret
                    exact ⟨ret_int HE.out.symm, B4.out⟩
                  · have HS : Hid (∀ j (hj : j < L.length), j < k + 1 → L[j] < (n : Int)) := fun j hj h => by
                      by_cases e : j = k
                      · subst e
                        rw [← HY.out]
                        omega
                      · exact HFS.out j hj (by omega)
                    go_wp2_with fail
                    go_roundw
                    case rel => exact ⟨k + 1, by omega, by go_num, HS, trivial⟩
                    case measure => simp [intOf]; omega
                · have hki : ¬ (k : Int) < (nl : Int) := by omega
                  have HE : Hid (wv = 0) := HWV.out.trans (wr_fine HJN.out HNB.out (fun x hx => by
                    rw [← HL.out] at hx
                    obtain ⟨j, hj, rfl⟩ := List.getElem_of_mem hx
                    have := HFS.out j hj (by have := HNL.out; omega)
                    rw [← HNC.out]
                    exact this))
                  go_wp2_with fail
                  go_ret
                  exact ⟨ret_int HE.out.symm, B4.out⟩
      · have HJN : Hid (wv = 150) := HWV.out.trans (wr_jump (HJ.out.trans (by rw [hj1, decide_eq_false th]; rfl)))
        clear hj1 HJ HWV
        by_cases t1 : 0 ≤ av
        · have t2 : (n : Int) ≤ av := by
            apply Classical.byContradiction
            intro e
            exact th ⟨t1, by omega⟩
          have t3 : ¬ av < 0 := by omega
          clear th
          go_wp2_with fail
          go_ret
          exact ⟨ret_int HJN.out.symm, B2.out⟩
        · have t3 : av < 0 := by omega
          clear th
          go_wp2_with fail
          go_ret
          exact ⟨ret_int HJN.out.symm, B2.out⟩
  · by_cases c20 : op = 20
    · subst c20
      have hj1 : decide ((20 : Int) = 19 ∨ (20 : Int) = 20) = true := by decide
      by_cases th : 0 ≤ av ∧ av < (n : Int)
      · have HJN : Hid ((isJ (iat c p) && !thereI c (iat c p).a) = false) := HJ.out.trans (by rw [hj1, decide_eq_true th]; rfl)
        obtain ⟨th1, th2⟩ := th
        have th3 : ¬ av < 0 := by omega
        have th4 : ¬ (n : Int) ≤ av := by omega
        clear hj1
        clear HJ
        go_upto_region 5 with fail
        clear z0 z1
        go_wp2_with fail
        go_loopw [12, 13] (fun v12 v13 W => ∃ k : Nat, k ≤ 65 ∧ v13 = .int .i64 (k : Int) ∧ v12 = .int .i64 (cnT t k : Int) ∧ Hid (∀ d, d < k → t d = true → behI fs c p d ≠ none) ∧ W = w2) (fun _ v13 _ => 65 - (intOf v13).toNat)
        case atStart => exact ⟨0, by omega, rfl, rfl, fun d hd => absurd hd (by omega), rfl⟩
        case round =>
          obtain ⟨k, hk, rfl, rfl, HBS, rfl⟩ := hrel
          have hcl := cnT_le t k
          have hcs := cnT_succ t k
          by_cases hlt : k < 65
          · have hki : (k : Int) ≤ 64 := by omega
            have f0 := HK.out wr B12.out k hlt
            cases htk : t k with
            | false =>
              rw [htk] at f0 hcs
              have hcs : cnT t (k + 1) = cnT t k := by simpa using hcs
              have HBS2 : Hid (∀ d, d < k + 1 → t d = true → behI fs c p d ≠ none) := fun d hd hd2 => by
                by_cases e : d = k
                · subst e
                  rw [htk] at hd2
                  cases hd2
                · exact HBS.out d (by omega) hd2
              go_wp2_with fail
              go_roundw
              case rel => exact ⟨k + 1, by omega, by go_num, by rw [hcs], HBS2, trivial⟩
              case measure => simp [intOf]; omega
            | true =>
              rw [htk] at f0 hcs
              have hcs : cnT t (k + 1) = cnT t k + 1 := by simpa using hcs
              obtain ⟨cn, hcn⟩ : ∃ x, x = cnT t k := ⟨_, rfl⟩
              have HCN := hide hcn
              rw [← hcn] at hcl hcs ⊢
              have HCS := hide hcs
              clear hcn hcs
              have wn : IntKind.i64.wrap ((cn : Int) + 1) = (cn : Int) + 1 := by rw [IntKind.wrap_i64]; omega
              by_cases c1 : (k : Int) < tk
              · have HE : Hid (wv = 151) := HWV.out.trans (wr_bad HJN.out (HBD.out.2 (.inl ⟨k, hlt, htk, (HBE.out k).trans (if_pos c1)⟩)))
                go_wp2_with fail
                go_ret
                exact ⟨ret_int HE.out.symm, B2.out⟩
              · have w1' : IntKind.i64.wrap ((k : Int) - tk) = (k : Int) - tk := by rw [IntKind.wrap_i64]; omega
                have w2' : IntKind.i64.wrap ((k : Int) - tk + pt) = (k : Int) - tk + pt := by rw [IntKind.wrap_i64]; omega
                by_cases c2 : (k : Int) - tk + pt ≤ 64
                · have c3 : ¬ (64 : Int) < (k : Int) - tk + pt := by omega
                  have HNN : Hid (behI fs c p k ≠ none) := by unfold Hid; rw [HBE.out k, if_neg c1, if_pos c2]; simp
                  have HBS2 : Hid (∀ d, d < k + 1 → t d = true → behI fs c p d ≠ none) := fun d hd hd2 => by
                    by_cases e : d = k
                    · subst e
                      exact HNN.out
                    · exact HBS.out d (by omega) hd2
                  go_wp2_with fail
                  go_roundw
                  case rel => exact ⟨k + 1, by omega, by go_num, by rw [HCS.out]; go_num, HBS2, trivial⟩
                  case measure => simp [intOf]; omega
                · have c3 : (64 : Int) < (k : Int) - tk + pt := by omega
                  have HE : Hid (wv = 151) := HWV.out.trans (wr_bad HJN.out (HBD.out.2 (.inl ⟨k, hlt, htk, (HBE.out k).trans (by rw [if_neg c1, if_neg c2])⟩)))
                  go_wp2_with fail
                  go_ret
                  exact ⟨ret_int HE.out.symm, B2.out⟩
          · have hk65 : k = 65 := by omega
            subst hk65
            have HB65 := HBS
            obtain ⟨cn, hcn⟩ : ∃ x, x = cnT t 65 := ⟨_, rfl⟩
            have HCN := hide hcn
            rw [← hcn] at hcl ⊢
            clear hcs hcn HBS hlt hk
            by_cases c1 : (cn : Int) > 1
            · have HE : Hid (wv = 151) := HWV.out.trans (wr_bad HJN.out (HBD.out.2 (.inr (by rw [← HCN.out]; omega))))
              go_wp2_with fail
              go_ret
              exact ⟨ret_int HE.out.symm, B2.out⟩
            · have HNB : Hid (¬ Bad fs c p) := fun e => by
                rcases HBD.out.1 e with ⟨d, h1, h2, h3⟩ | h1
                · exact HB65.out d h1 h2 h3
                · rw [← HCN.out] at h1
                  omega
              have J2 := hide (JN.out wr B2.out)
              go_wp2_with fail
              refine J2.out.mono ?_
              rintro e w4 ⟨v14, rfl, ho4, b4⟩
              have LR4 := hide (own_LR ho4)
              have B4 := hide (below_on B2.out b4)
              obtain ⟨a14, c14, hv14⟩ := own_len ho4
              have hL2 := nextD_len c p
              have HND : Hid (∀ x ∈ nextD c p, 0 ≤ x ∧ x ≤ 5000) := fun x hx => by have := nextD_nn x hx; have := HNC.out; omega
              obtain ⟨L, hL⟩ : ∃ L, L = nextD c p := ⟨_, rfl⟩
              have HL := hide hL
              rw [← hL] at hv14 hL2 HND LR4
              obtain ⟨nl, hnl⟩ : ∃ x, x = L.length := ⟨_, rfl⟩
              have HNL := hide hnl
              rw [← hnl] at hv14 hL2
              subst hv14
              clear ho4 b4 J2 hL hnl
              go_wp2_with fail
              go_loopw [15] (fun v15 W => ∃ k : Nat, k ≤ nl ∧ v15 = .int .i64 (k : Int) ∧ Hid (∀ j (hj : j < L.length), j < k → L[j] < (n : Int)) ∧ W = w4) (fun v15 _ => nl - (intOf v15).toNat)
              case atStart => exact ⟨0, Nat.zero_le _, rfl, fun j _ h => absurd h (by omega), rfl⟩
              case round =>
                obtain ⟨k, hk, rfl, HFS, hwr⟩ := hrel
                subst hwr
                by_cases hlt : k < nl
                · have hki : (k : Int) < (nl : Int) := by omega
                  have hkL : k < L.length := by have := HNL.out; omega
                  obtain ⟨g14, cc14, e14, e1, e2, x0, -⟩ := LR4.out.at hkL
                  rw [← HNL.out] at e14 e1
                  injection e14 with e3 e4 e5
                  subst e3 e5
                  obtain ⟨y, hy⟩ : ∃ y, y = L[k] := ⟨_, rfl⟩
                  have HY := hide hy
                  rw [← hy] at x0
                  clear hy
                  by_cases cy : (n : Int) ≤ y
                  · have HE : Hid (wv = 153) := HWV.out.trans (wr_end HJN.out HNB.out (x := y) (by rw [HY.out, ← HL.out]; exact List.getElem_mem hkL) (by rw [← HNC.out]; exact cy))
                    go_wp2_with fail
                    go_ret
                    exact ⟨ret_int HE.out.symm, B4.out⟩
                  · have HS : Hid (∀ j (hj : j < L.length), j < k + 1 → L[j] < (n : Int)) := fun j hj h => by
                      by_cases e : j = k
                      · subst e
                        rw [← HY.out]
                        omega
                      · exact HFS.out j hj (by omega)
                    go_wp2_with fail
                    go_roundw
                    case rel => exact ⟨k + 1, by omega, by go_num, HS, trivial⟩
                    case measure => simp [intOf]; omega
                · have hki : ¬ (k : Int) < (nl : Int) := by omega
                  have HE : Hid (wv = 0) := HWV.out.trans (wr_fine HJN.out HNB.out (fun x hx => by
                    rw [← HL.out] at hx
                    obtain ⟨j, hj, rfl⟩ := List.getElem_of_mem hx
                    have := HFS.out j hj (by have := HNL.out; omega)
                    rw [← HNC.out]
                    exact this))
                  go_wp2_with fail
                  go_ret
                  exact ⟨ret_int HE.out.symm, B4.out⟩
      · have HJN : Hid (wv = 150) := HWV.out.trans (wr_jump (HJ.out.trans (by rw [hj1, decide_eq_false th]; rfl)))
        clear hj1 HJ HWV
        by_cases t1 : 0 ≤ av
        · have t2 : (n : Int) ≤ av := by
            apply Classical.byContradiction
            intro e
            exact th ⟨t1, by omega⟩
          have t3 : ¬ av < 0 := by omega
          clear th
          go_wp2_with fail
          go_ret
          exact ⟨ret_int HJN.out.symm, B2.out⟩
        · have t3 : av < 0 := by omega
          clear th
          go_wp2_with fail
          go_ret
          exact ⟨ret_int HJN.out.symm, B2.out⟩
    · have b19 : (op == 19) = false := beq_eq_false_iff_ne.2 c19
      have b20 : (op == 20) = false := beq_eq_false_iff_ne.2 c20
      have HJN : Hid ((isJ (iat c p) && !thereI c (iat c p).a) = false) := HJ.out.trans (by rw [decide_eq_false (by omega)]; rfl)
      clear HJ
      go_upto_region 5 with fail
      clear z0 z1
      go_wp2_with fail
      go_loopw [12, 13] (fun v12 v13 W => ∃ k : Nat, k ≤ 65 ∧ v13 = .int .i64 (k : Int) ∧ v12 = .int .i64 (cnT t k : Int) ∧ Hid (∀ d, d < k → t d = true → behI fs c p d ≠ none) ∧ W = w2) (fun _ v13 _ => 65 - (intOf v13).toNat)
      case atStart => exact ⟨0, by omega, rfl, rfl, fun d hd => absurd hd (by omega), rfl⟩
      case round =>
        obtain ⟨k, hk, rfl, rfl, HBS, rfl⟩ := hrel
        have hcl := cnT_le t k
        have hcs := cnT_succ t k
        by_cases hlt : k < 65
        · have hki : (k : Int) ≤ 64 := by omega
          have f0 := HK.out wr B12.out k hlt
          cases htk : t k with
          | false =>
            rw [htk] at f0 hcs
            have hcs : cnT t (k + 1) = cnT t k := by simpa using hcs
            have HBS2 : Hid (∀ d, d < k + 1 → t d = true → behI fs c p d ≠ none) := fun d hd hd2 => by
              by_cases e : d = k
              · subst e
                rw [htk] at hd2
                cases hd2
              · exact HBS.out d (by omega) hd2
            go_wp2_with fail
            go_roundw
            case rel => exact ⟨k + 1, by omega, by go_num, by rw [hcs], HBS2, trivial⟩
            case measure => simp [intOf]; omega
          | true =>
            rw [htk] at f0 hcs
            have hcs : cnT t (k + 1) = cnT t k + 1 := by simpa using hcs
            obtain ⟨cn, hcn⟩ : ∃ x, x = cnT t k := ⟨_, rfl⟩
            have HCN := hide hcn
            rw [← hcn] at hcl hcs ⊢
            have HCS := hide hcs
            clear hcn hcs
            have wn : IntKind.i64.wrap ((cn : Int) + 1) = (cn : Int) + 1 := by rw [IntKind.wrap_i64]; omega
            by_cases c1 : (k : Int) < tk
            · have HE : Hid (wv = 151) := HWV.out.trans (wr_bad HJN.out (HBD.out.2 (.inl ⟨k, hlt, htk, (HBE.out k).trans (if_pos c1)⟩)))
              go_wp2_with fail
              go_ret
              exact ⟨ret_int HE.out.symm, B2.out⟩
            · have w1' : IntKind.i64.wrap ((k : Int) - tk) = (k : Int) - tk := by rw [IntKind.wrap_i64]; omega
              have w2' : IntKind.i64.wrap ((k : Int) - tk + pt) = (k : Int) - tk + pt := by rw [IntKind.wrap_i64]; omega
              by_cases c2 : (k : Int) - tk + pt ≤ 64
              · have c3 : ¬ (64 : Int) < (k : Int) - tk + pt := by omega
                have HNN : Hid (behI fs c p k ≠ none) := by unfold Hid; rw [HBE.out k, if_neg c1, if_pos c2]; simp
                have HBS2 : Hid (∀ d, d < k + 1 → t d = true → behI fs c p d ≠ none) := fun d hd hd2 => by
                  by_cases e : d = k
                  · subst e
                    exact HNN.out
                  · exact HBS.out d (by omega) hd2
                go_wp2_with fail
                go_roundw
                case rel => exact ⟨k + 1, by omega, by go_num, by rw [HCS.out]; go_num, HBS2, trivial⟩
                case measure => simp [intOf]; omega
              · have c3 : (64 : Int) < (k : Int) - tk + pt := by omega
                have HE : Hid (wv = 151) := HWV.out.trans (wr_bad HJN.out (HBD.out.2 (.inl ⟨k, hlt, htk, (HBE.out k).trans (by rw [if_neg c1, if_neg c2])⟩)))
                go_wp2_with fail
                go_ret
                exact ⟨ret_int HE.out.symm, B2.out⟩
        · have hk65 : k = 65 := by omega
          subst hk65
          have HB65 := HBS
          obtain ⟨cn, hcn⟩ : ∃ x, x = cnT t 65 := ⟨_, rfl⟩
          have HCN := hide hcn
          rw [← hcn] at hcl ⊢
          clear hcs hcn HBS hlt hk
          by_cases c1 : (cn : Int) > 1
          · have HE : Hid (wv = 151) := HWV.out.trans (wr_bad HJN.out (HBD.out.2 (.inr (by rw [← HCN.out]; omega))))
            go_wp2_with fail
            go_ret
            exact ⟨ret_int HE.out.symm, B2.out⟩
          · have HNB : Hid (¬ Bad fs c p) := fun e => by
              rcases HBD.out.1 e with ⟨d, h1, h2, h3⟩ | h1
              · exact HB65.out d h1 h2 h3
              · rw [← HCN.out] at h1
                omega
            have J2 := hide (JN.out wr B2.out)
            go_wp2_with fail
            refine J2.out.mono ?_
            rintro e w4 ⟨v14, rfl, ho4, b4⟩
            have LR4 := hide (own_LR ho4)
            have B4 := hide (below_on B2.out b4)
            obtain ⟨a14, c14, hv14⟩ := own_len ho4
            have hL2 := nextD_len c p
            have HND : Hid (∀ x ∈ nextD c p, 0 ≤ x ∧ x ≤ 5000) := fun x hx => by have := nextD_nn x hx; have := HNC.out; omega
            obtain ⟨L, hL⟩ : ∃ L, L = nextD c p := ⟨_, rfl⟩
            have HL := hide hL
            rw [← hL] at hv14 hL2 HND LR4
            obtain ⟨nl, hnl⟩ : ∃ x, x = L.length := ⟨_, rfl⟩
            have HNL := hide hnl
            rw [← hnl] at hv14 hL2
            subst hv14
            clear ho4 b4 J2 hL hnl
            go_wp2_with fail
            go_loopw [15] (fun v15 W => ∃ k : Nat, k ≤ nl ∧ v15 = .int .i64 (k : Int) ∧ Hid (∀ j (hj : j < L.length), j < k → L[j] < (n : Int)) ∧ W = w4) (fun v15 _ => nl - (intOf v15).toNat)
            case atStart => exact ⟨0, Nat.zero_le _, rfl, fun j _ h => absurd h (by omega), rfl⟩
            case round =>
              obtain ⟨k, hk, rfl, HFS, hwr⟩ := hrel
              subst hwr
              by_cases hlt : k < nl
              · have hki : (k : Int) < (nl : Int) := by omega
                have hkL : k < L.length := by have := HNL.out; omega
                obtain ⟨g14, cc14, e14, e1, e2, x0, -⟩ := LR4.out.at hkL
                rw [← HNL.out] at e14 e1
                injection e14 with e3 e4 e5
                subst e3 e5
                obtain ⟨y, hy⟩ : ∃ y, y = L[k] := ⟨_, rfl⟩
                have HY := hide hy
                rw [← hy] at x0
                clear hy
                by_cases cy : (n : Int) ≤ y
                · have HE : Hid (wv = 153) := HWV.out.trans (wr_end HJN.out HNB.out (x := y) (by rw [HY.out, ← HL.out]; exact List.getElem_mem hkL) (by rw [← HNC.out]; exact cy))
                  go_wp2_with fail
                  go_ret
                  exact ⟨ret_int HE.out.symm, B4.out⟩
                · have HS : Hid (∀ j (hj : j < L.length), j < k + 1 → L[j] < (n : Int)) := fun j hj h => by
                    by_cases e : j = k
                    · subst e
                      rw [← HY.out]
                      omega
                    · exact HFS.out j hj (by omega)
                  go_wp2_with fail
                  go_roundw
                  case rel => exact ⟨k + 1, by omega, by go_num, HS, trivial⟩
                  case measure => simp [intOf]; omega
              · have hki : ¬ (k : Int) < (nl : Int) := by omega
                have HE : Hid (wv = 0) := HWV.out.trans (wr_fine HJN.out HNB.out (fun x hx => by
                  rw [← HL.out] at hx
                  obtain ⟨j, hj, rfl⟩ := List.getElem_of_mem hx
                  have := HFS.out j hj (by have := HNL.out; omega)
                  rw [← HNC.out]
                  exact this))
                go_wp2_with fail
                go_ret
                exact ⟨ret_int HE.out.symm, B4.out⟩
end Go.Proofs.YtfkhhplcogedmaaGreatDoor
