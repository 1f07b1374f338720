/-
  CodeEncodes: from what was kept on, to the lists written over.
-/
import Derived.Test.YtpolajoephjdhaaGreatDoorEeM
import Derived.Test.YtpolajoephjdhaaGreatDoorBkI
namespace Go.Proofs.YtpolajoephjdhaaGreatDoor
open Go.RowKit
set_option maxRecDepth 1000000
set_option maxHeartbeats 32000000 in
theorem enc4 {W w0 : World} {N B Qb N5 : Nat} {A : Act} {sa fa : Option Addr} {ns cs nf cf : Nat} {sys : List Sy} {fns : List Rt} {ls : List (Sy × Sv)} {lf : List (Rt × Value)} {us uf u5' : Option Addr} {rs rf r5' : Nat} {x5 : List Value} {eb : List UInt8} {ee : Int} {ab : Option Addr} {nb : Nat} {vc : Value} {K : Act → World → Prop} {lp : List (Sy × Sv)} {lq : List (Rt × Value)} {w5 : World} {u6 u7 : Option Addr} {r6 r7 : Nat} {x6 x7 : List Value} (hs : A.tmps.size = 478) (hd : A.defers = []) (h1 : A.tmps.getD 1 undef = .pointer (some ⟨B, 0, none⟩)) (h4 : A.tmps.getD 4 undef = .pointer (some ⟨Qb, 0, none⟩)) (h5 : A.tmps.getD 5 undef = .slice u5' (ns + nf) r5') (h6 : A.tmps.getD 6 undef = .slice u6 (ns * 4) r6) (h7 : A.tmps.getD 7 undef = .slice u7 (ns * 4) r7) (h15 : A.tmps.getD 15 undef = .slice ab eb.length nb) (h17 : A.tmps.getD 17 undef = vc) (h18 : A.tmps.getD 18 undef = .int .i64 ee) (Y0 : Hid (Below W.heap.size W w0)) (HNN : Hid (N = w0.heap.size)) (AT : Hid (∀ w', Below N w0 w' → w'.cell? ⟨B, 0, none⟩ = some (.slice sa ns cs) ∧ w'.cell? ⟨B, 1, none⟩ = some (.slice fa nf cf))) (KD : Hid (∀ w', Below N w0 w' → Kd w')) (PG : Hid (∀ w', Below N w0 w' → Pgm Qt w' (.slice sa ns cs) (.slice fa nf cf) ⟨sys, fns⟩)) (Z1 : Hid (∀ s ∈ sys, s.run.name.size ≤ 9223372036854775807 ∧ s.wi.length ≤ 1048576 ∧ s.wo.length ≤ 1048576 ∧ s.re.length ≤ 1048576 ∧ s.wr.length ≤ 1048576 ∧ s.run.code.length ≤ 1048576)) (ZD : Hid ((∀ s ∈ sys, s.run.name.size ≤ 9223372036854775807 ∧ s.run.code.length ≤ 35184372088832) ∧ ∀ r ∈ fns, r.name.size ≤ 9223372036854775807 ∧ r.code.length ≤ 35184372088832)) (SIX : Hid (Six ⟨sys, fns⟩)) (HZ : Hid ((∀ p ∈ ls, p.1.wi.length ≤ 1048576 ∧ p.1.wo.length ≤ 1048576 ∧ p.1.re.length ≤ 1048576 ∧ p.1.wr.length ≤ 1048576 ∧ p.1.run.code.length ≤ 1048576) ∧ ∀ p ∈ lf, p.1.code.length ≤ 1048576)) (SL : Hid (ls.map Prod.fst = sys)) (SF : Hid (lf.map Prod.fst = fns)) (ENP : Hid (∀ w' vs vf, Below N w0 w' → Pgm Qt w' vs vf ⟨sys, fns⟩ → Calls Tryz.prog 14 #[.agg #[vs, vf]] w' fun e w'' => Below w'.heap.size w' w'' ∧ ∃ v, e = .returned (.tuple #[v, .int .i64 ee]) ∧ w''.ownsRow w'.heap.size 5 1 v eb.length (Lib.byteCells eb))) (HEB : Hid (eb = enB ⟨sys, fns⟩)) (LX3N : Hid (N ≤ N5)) (b1 : ns ≤ 1048576) (b2 : nf ≤ 1048576) (PA : Hid (∀ w', Below N w0 w' → ∀ k (hk : k < lp.length), LpAt w' sa lp[k] k)) (QA : Hid (∀ w', Below N w0 w' → ∀ k (hk : k < lq.length), LqAt w' fa lq[k] k)) (HLP : Hid (lp.map Prod.fst = sys)) (HLQ : Hid (lq.map Prod.fst = fns)) (LPN : Hid (lp.length = ns)) (LQN : Hid (lq.length = nf)) (L5 : Hid (((codesS ls).map wideV).length = ns ∧ ((intsOf ls).map wideV).length = ns * 4 ∧ (intsOf lp).length = ns * 4 ∧ ls.length = ns)) (LL : Hid (lf.length = nf ∧ x5.length = ns + nf)) (HX5 : Hid (x5 = (codesS ls ++ codesR lf).map wideV)) (HX6 : Hid (x6 = (intsOf ls).map wideV)) (HX7 : Hid (x7 = intsOf lp)) (PQ5 : Hid (Pgm Qt w5 (.slice us ls.length rs) (.slice uf lf.length rf) ⟨sys, fns⟩)) (LX5 : Hid (LX w0 w5 N Qb ls (.slice us ls.length rs) (.slice u5' (ns + nf) r5') (.slice u6 (ns * 4) r6) (.slice u7 (ns * 4) r7) (.slice uf lf.length rf) (codesS ls ++ codesR lf) (codLs ls lf) x5 x6 x7)) (F5 : Hid (w5.ownsRow N 45 4 (.slice uf lf.length rf) lf.length (rtsC lf))) (OB5 : Hid (w5.ownsRow N5 5 1 (.slice ab eb.length nb) eb.length (Lib.byteCells eb))) (OC5 : Hid (Bn w5 vc eb)) (S35 : Hid (N5 ≤ w5.heap.size)) (hK : Nxt 12 W K) : Code.wp Tryz.prog (headN 11 bodyE) (Exit.then K (QE W)) A w5 := by
  obtain ⟨s, eA, hsk⟩ := act_open A _ hs hd
  rw [hsk] at h1 h4 h5 h6 h7 h15 h17 h18
  rw [eA, h1, h4, h5, h6, h7, h15, h17, h18]
  clear eA hsk hs hd h1 h4 h5 h6 h7 h15 h17 h18
  unfold Nxt at hK
  unfold QE at hK ⊢
  conv => arg 2; whnf
  conv at hK => intro a w; arg 1; arg 2; whnf
  obtain ⟨x0, x1⟩ := AT.out w5 LX5.out.be
  obtain ⟨y0, y1⟩ := row2 LX5.out.qb
  have J := hide (programs_eq ⟨sys, fns⟩ (PG.out w5 LX5.out.be) PQ5.out)
  go_wp2_with fail
  refine J.out.mono ?_
  rintro e w6 ⟨rfl, b6⟩
  have LX6 := hide (LX5.out.later b6)
  have F6 := hide (own_later F5.out b6)
  have OB6 := hide (own_later OB5.out b6)
  have OC6 : Hid (Bn w6 vc eb) := ⟨OC5.out.1.below b6 (Nat.le_refl _), OC5.out.2⟩
  have S46 : Hid (N5 ≤ w6.heap.size) := Nat.le_trans S35.out b6.size
  clear J b6 x0 x1 y0 y1 OB5 OC5 LX5 F5 PQ5 S35
  have KLF : Hid (∀ w', Below w6.heap.size w6 w' → ∀ i, i < ns * 4 → ∃ g6 g7 ga l aw cw, u6 = some ⟨g6, 0, none⟩ ∧ u7 = some ⟨g7, 0, none⟩ ∧ w'.cell? ⟨g6, i, none⟩ = some (.slice (some ⟨ga, 0, none⟩) (l.length + 80) (l.length + 80)) ∧ w'.cell? ⟨g7, i, none⟩ = some (.slice aw l.length cw) ∧ RwN w' ga (wid7 l) ∧ Nl Qt w' (.slice aw l.length cw) l ∧ l.length ≤ 1048576) := fun w' hb i hi => by
    have hL := LX6.out.later hb
    have l6 := L5.out.2.1
    rw [← HX6.out] at l6
    have l7 := L5.out.2.2.1
    rw [← HX7.out] at l7
    obtain ⟨g6, c6, e6, hc6⟩ := own_some hL.r6 (by omega)
    obtain ⟨g7, c7, e7, hc7⟩ := own_some hL.r7 (by omega)
    injection e6 with e61 _ _
    injection e7 with e71 _ _
    obtain ⟨f1, f2⟩ := flat4 (fun l v => SetIn w' N l v) ls hL.st
    obtain ⟨f3, f4⟩ := flat4 (fun l v => Nl Qt w' v l) lp (fun p hp => by
      obtain ⟨j, hj, rfl⟩ := List.mem_iff_getElem.1 hp
      obtain ⟨g', o', b1, n1, r1, b2, n2, r2, b3, n3, r3, b4, n4, r4, b5, n5, r5, -, e2', -, -, nn', -, -⟩ := PA.out w' hL.be j hj
      rw [e2']
      exact nn')
    have ek : klOf (lp.map Prod.fst) = klOf (ls.map Prod.fst) := by rw [HLP.out, SL.out]
    have i1 : i < (intsOf ls).length := by rw [HX6.out, List.length_map] at l6; omega
    have i2 : i < (intsOf lp).length := by rw [HX7.out] at l7; omega
    have i3 : i < (klOf (ls.map Prod.fst)).length := by omega
    have i4 : i < (klOf (lp.map Prod.fst)).length := by omega
    obtain ⟨ga, ea, -, hr⟩ := f2 i i1 i3
    have hn := f4 i i2 i4
    have el : (klOf (lp.map Prod.fst))[i] = (klOf (ls.map Prod.fst))[i] := by simp only [ek]
    rw [el] at hn
    obtain ⟨aw, cw, ew, -, -⟩ := hn.at
    have hzl : ((klOf (ls.map Prod.fst))[i]).length ≤ 1048576 := by
      have hmem := List.getElem_mem i3
      obtain ⟨s, hs, hm⟩ := List.mem_flatMap.1 hmem
      rw [SL.out] at hs
      obtain ⟨-, q1, q2, q3, q4, -⟩ := Z1.out s hs
      simp only [List.mem_cons, List.not_mem_nil, or_false] at hm
      rcases hm with e | e | e | e <;> rw [e] <;> assumption
    refine ⟨g6, g7, ga, (klOf (ls.map Prod.fst))[i], aw, cw, e61, e71, ?_, ?_, hr, ?_, hzl⟩
    · rw [hc6 i (by omega), HX6.out, List.getElem?_map, List.getElem?_eq_getElem i1, ea]
      rfl
    · rw [hc7 i (by omega), HX7.out, List.getElem?_eq_getElem i2, ew]
    · rw [← ew]
      exact hn
  have hns4 : ns * 4 ≤ 4194304 := by omega
  obtain ⟨n4, hn4⟩ : ∃ n, n = ns * 4 := ⟨_, rfl⟩
  rw [← hn4] at KLF hns4 ⊢
  have HN4 := hide hn4
  clear hn4
  go_wp2_with fail
  go_loopw [20, 19] (fun v20 v19 wr => ∃ i : Nat, v20 = .int .i64 (i : Int) ∧ i ≤ n4 ∧ v19 = .bool true ∧ Hid (Below w6.heap.size w6 wr)) (fun v20 _ _ => n4 - (intOf v20).toNat)
  case atStart => exact ⟨0, rfl, by omega, rfl, Below.refl _ _⟩
  case round =>
    obtain ⟨i, rfl, hi1, rfl, hb⟩ := hrel
    by_cases hi2 : i < n4
    · obtain ⟨g6, g7, ga, l, aw, cw, rfl, rfl, c6, c7, hr, hn, hzl⟩ := KLF.out wr hb.out i hi2
      obtain ⟨m, hm⟩ : ∃ m, m = l.length := ⟨_, rfl⟩
      rw [← hm] at c6 c7 hn hzl
      have K2 : Hid (∀ w', Below wr.heap.size wr w' → w'.cell? ⟨g6, i, none⟩ = some (.slice (some ⟨ga, 0, none⟩) (m + 80) (m + 80)) ∧ w'.cell? ⟨g7, i, none⟩ = some (.slice aw m cw) ∧ RwN w' ga (wid7 l) ∧ Nl Qt w' (.slice aw m cw) l) := fun w' hb' => ⟨cellL c6 hb', cellL c7 hb', hr.later hb', hn.later hb'⟩
      have HML := hide hm
      have WL : Hid ((wid7 l).length = m + 80) := by unfold Hid; rw [hm]; simp [wid7]
      have hcw : m ≤ cw ∧ cw ≤ 9223372036854775807 := by
        obtain ⟨a9, c9, e, h1, h2⟩ := hn.at
        injection e with _ e2 e3
        omega
      have i9 : (i : Int) < (n4 : Int) := by omega
      have BW := hide hb.out
      clear hm c6 c7 hr hn hb
      go_wp2_with fail
      go_loopw [21, 19] (fun v21 v19 wx => ∃ k : Nat, v21 = .int .i64 (k : Int) ∧ k ≤ m + 80 ∧ v19 = .bool true ∧ Hid (Below wr.heap.size wr wx)) (fun v21 _ _ => m + 80 - (intOf v21).toNat)
      case atStart => exact ⟨0, rfl, by omega, rfl, Below.refl _ _⟩
      case round =>
        obtain ⟨k, rfl, hk, rfl, hb2⟩ := hrel
        obtain ⟨c6, c7, hr, hn⟩ := K2.out wr hb2.out
        by_cases hk2 : k < m + 80
        · have dk := hr.cell (k := k) (by rw [WL.out]; exact hk2)
          have j9 : (k : Int) < (m : Int) + 80 := by omega
          by_cases hk3 : k < m
          · have hkl : k < l.length := by rw [← HML.out]; exact hk3
            obtain ⟨gw, ow, rfl, -, dw, -⟩ := hn.nth hkl
            have ek : (wid7 l)[k]'(by rw [WL.out]; exact hk2) = l[k] := List.getElem_append_left hkl
            rw [ek] at dk
            generalize l[k] = z at dk dw
            have i1 : (k : Int) < (m : Int) := by omega
            have i2 : ¬ (m : Int) ≤ (k : Int) := by omega
            have i3 : decide ((m : Int) ≤ (k : Int)) = false := by simpa using i2
            have i4 : decide ((k : Int) < (m : Int)) = true := by simpa using i1
            clear hkl ek hr hn
            go_upto_region 36 with fail
            go_quiet (fail)
            have B3 := hide (below_on hb2.out (below_drawn wr nq))
            go_wp2_with fail
            exact ⟨⟨k + 1, by go_num, by omega, by simp, B3.out⟩, by simp [intOf]; omega⟩
          · have ek : (wid7 l)[k]'(by rw [WL.out]; exact hk2) = -7 := by
              unfold wid7
              rw [List.getElem_append_right (by rw [← HML.out]; omega), List.getElem_replicate]
            rw [ek] at dk
            have i1 : ¬ (k : Int) < (m : Int) := by omega
            have i2 : (m : Int) ≤ (k : Int) := by omega
            have i3 : decide ((m : Int) ≤ (k : Int)) = true := by simpa using i2
            have i4 : decide ((k : Int) < (m : Int)) = false := by simpa using i1
            clear ek hr hn
            go_upto_region 36 with fail
            go_quiet (fail)
            have B3 := hide (below_on hb2.out (below_drawn wr nq))
            go_wp2_with fail
            exact ⟨⟨k + 1, by go_num, by omega, by simp, B3.out⟩, by simp [intOf]; omega⟩
        · obtain rfl : k = m + 80 := by omega
          have B3 := hide (below_on BW.out hb2.out)
          have cst : ((m + 80 : Nat) : Int) = (m : Int) + 80 := by omega
          go_wp2_with fail
          exact ⟨⟨i + 1, by go_num, by omega, rfl, B3.out⟩, by simp [intOf]; omega⟩
    · obtain rfl : n4 = i := by omega
      have CLE : Hid (codLs ls lf = ((lp.map Prod.fst).map fun s => s.run.code) ++ (lq.map Prod.fst).map fun r => r.code) := by
        unfold Hid
        rw [HLP.out, HLQ.out, ← SL.out, ← SF.out, List.map_map, List.map_map]
        rfl
      have CLN : Hid ((codLs ls lf).length = ns + nf ∧ (codesS ls ++ codesR lf).length = ns + nf) := by
        refine ⟨by rw [CLE.out]; simp [LPN.out, LQN.out], ?_⟩
        have := L5.out.2.2.2
        have := LL.out.1
        simp [codesS, codesR]
        omega
      have COD1 : Hid (∀ i (h : i < lp.length) (h' : i < (codLs ls lf).length), (codLs ls lf)[i] = lp[i].1.run.code) := fun i h h' => by
        have : (codLs ls lf)[i]? = some lp[i].1.run.code := by
          rw [CLE.out, List.getElem?_append_left (by simpa using h), List.getElem?_map, List.getElem?_map, List.getElem?_eq_getElem h]
          rfl
        rw [List.getElem?_eq_getElem h'] at this
        exact Option.some.inj this
      have COD2 : Hid (∀ i (h : i - ns < lq.length) (h' : i < (codLs ls lf).length), ns ≤ i → (codLs ls lf)[i] = lq[i - ns].1.code) := fun i h h' hle => by
        have : (codLs ls lf)[i]? = some lq[i - ns].1.code := by
          rw [CLE.out, List.getElem?_append_right (by simp [LPN.out]; exact hle)]
          simp only [List.length_map, LPN.out]
          rw [List.getElem?_map, List.getElem?_map, List.getElem?_eq_getElem h]
          rfl
        rw [List.getElem?_eq_getElem h'] at this
        exact Option.some.inj this
      have COD3 : Hid (∀ i (h' : i < (codLs ls lf).length), (codLs ls lf)[i].length ≤ 1048576) := fun i h' => by
        have hm := List.getElem_mem h'
        rcases List.mem_append.1 hm with hm | hm
        · obtain ⟨p, hp, e⟩ := List.mem_map.1 hm
          rw [← e]
          exact (HZ.out.1 p hp).2.2.2.2
        · obtain ⟨p, hp, e⟩ := List.mem_map.1 hm
          rw [← e]
          exact HZ.out.2 p hp
      have hLX := LX6.out.later hb.out
      have LZ0 : Hid (LZ w0 wr N Qb ls lf (.slice us ls.length rs) (.slice uf lf.length rf) (.slice u5' (ns + nf) r5') x5 (fun j c => if j < 0 then rep8 c else c ++ List.replicate 80 mkI)) := ⟨hLX.qb, hLX.rs, own_later F6.out hb.out, hLX.st, hLX.cd.ext (fun i c _ => by rw [if_neg (by omega)]; rfl), hLX.r5, hLX.be, hLX.nw⟩
      have OB7 := hide (own_later OB6.out hb.out)
      have OC7 : Hid (Bn wr vc eb) := ⟨OC6.out.1.below hb.out (Nat.le_refl _), OC6.out.2⟩
      have S37 : Hid (N5 ≤ wr.heap.size) := Nat.le_trans S46.out hb.out.size
      obtain ⟨nl, hnl⟩ : ∃ n, n = ns + nf := ⟨_, rfl⟩
      have HNL := hide hnl
      rw [← hnl] at LZ0 CLN ⊢
      have hbl : nl ≤ 2097152 := by omega
      clear hLX hb LX6 F6 OB6 OC6 KLF S46 hnl
      go_wp2_with fail
      go_loopw [22, 19] (fun v22 v19 wr => ∃ i : Nat, v22 = .int .i64 (i : Int) ∧ i ≤ nl ∧ v19 = .bool true ∧ Hid (LZ w0 wr N Qb ls lf (.slice us ls.length rs) (.slice uf lf.length rf) (.slice u5' nl r5') x5 (fun j c => if j < i then rep8 c else c ++ List.replicate 80 mkI)) ∧ Hid (wr.ownsRow N5 5 1 (.slice ab eb.length nb) eb.length (Lib.byteCells eb)) ∧ Hid (Bn wr vc eb) ∧ Hid (N5 ≤ wr.heap.size)) (fun v22 _ _ => nl - (intOf v22).toNat)
      case atStart => exact ⟨0, rfl, by omega, rfl, LZ0.out, OB7.out, OC7.out, S37.out⟩
      case round =>
        obtain ⟨i, rfl, hi1, rfl, hZ, oB, oC, s3⟩ := hrel
        obtain ⟨x0, x1⟩ := AT.out wr hZ.out.be
        by_cases hi2 : i < nl
        · have hic : i < (codLs ls lf).length := by rw [CLN.out.1]; exact hi2
          have hiv : i < (codesS ls ++ codesR lf).length := by rw [CLN.out.2]; exact hi2
          obtain ⟨g5, g, rfl, ecv, c5, hgN, hlen, hrw⟩ := hZ.out.list HX5.out hiv hic
          have ECV := hide ecv
          have hcz := COD3.out i hic
          have C1 : Hid (∀ (h : i < lp.length), (codLs ls lf)[i] = lp[i].1.run.code) := fun h => COD1.out i h hic
          have C2 : Hid (∀ (h : i - ns < lq.length), ns ≤ i → (codLs ls lf)[i] = lq[i - ns].1.code) := fun h hle => COD2.out i h hic hle
          have eif : (if i < i then rep8 (codLs ls lf)[i] else (codLs ls lf)[i] ++ List.replicate 80 mkI) = (codLs ls lf)[i] ++ List.replicate 80 mkI := if_neg (by omega)
          rw [eif] at hrw hlen
          have NXT : Hid (∀ w', Mv wr w' (fun j => j = g) → RwI w' g (List.replicate ((codLs ls lf)[i].length + 80) mk8) → LZ w0 w' N Qb ls lf (.slice us ls.length rs) (.slice uf lf.length rf) (.slice (some ⟨g5, 0, none⟩) nl r5') x5 (fun j c => if j < i + 1 then rep8 c else c ++ List.replicate 80 mkI)) := fun w' hm hr => by
            have hm' : Mv wr w' (fun j => ((codesS ls ++ codesR lf)[i]).ownBlock = some j) := hm.mono (fun j _ e => by rw [ECV.out, e]; rfl)
            exact hZ.out.turn hm (fun j e => by
              rw [e]
              exact ⟨hgN, _, hrw⟩) (hZ.out.cd.next (A := fun c => c ++ List.replicate 80 mkI) (B := rep8) hiv hic hm' ⟨g, ECV.out, hgN, by simp [rep8], hr⟩)
          generalize (codLs ls lf)[i] = c at *
          obtain ⟨m, hm⟩ : ∃ m, m = c.length := ⟨_, rfl⟩
          rw [← hm] at c5 NXT hcz
          have HMC := hide hm
          have HRW := hide hrw
          have C5L : Hid (∀ w', Below wr.heap.size wr w' → w'.cell? ⟨g5, i, none⟩ = some (.slice (some ⟨g, 0, none⟩) (m + 80) (m + 80)) ∧ RwI w' g (c ++ List.replicate 80 mkI)) := fun w' hb => ⟨cellL c5 hb, HRW.out.later hb⟩
          have GLT : Hid (g < wr.heap.size ∧ g5 < wr.heap.size) := ⟨hrw.lt, World.block_lt_of_cell? wr _ c5⟩
          have OI : Hid (∀ w', Below wr.heap.size wr w' → Below N w0 w') := fun w' hb => (hZ.out.later hb).be
          have i9 : (i : Int) < (nl : Int) := by omega
          obtain ⟨wa, hwa⟩ : ∃ X, X = wr.alloc (.cells #[.string ⟨#[]⟩, .int .i64 0, .int .i64 0, .slice none 0 0] 45) := ⟨_, rfl⟩
          obtain ⟨T, hT⟩ : ∃ X, X = wr.heap.size := ⟨_, rfl⟩
          have bA : Below wr.heap.size wr wa := hwa ▸ below_alloc wr _
          have nA : wa.heap[T]? = some (.cells #[.string ⟨#[]⟩, .int .i64 0, .int .i64 0, .slice none 0 0] 45 (0, 0)) := by rw [hwa, hT]; exact heap_alloc_new wr _
          have HTR : Hid (T = wr.heap.size) := hT
          have XA := hide bA
          have NA := hide nA
          have GN : Hid (N ≤ g) := hgN
          clear ecv hgN hlen hrw eif hm bA nA c5
          go_upto_region 41 with fail
          rw [← hT, ← hwa]
          clear hT hwa x0 x1
          obtain ⟨x0, x1⟩ := AT.out wa (OI.out wa XA.out)
          go_upto_if 248 with fail
          go_cut [248] (fun _ wx => ∃ (nm : ByteArray) (pa lo : Int) (a : Option Addr) (q : Nat), Hid (wx.heap[T]? = some (.cells #[.string nm, .int .i64 pa, .int .i64 lo, .slice a m q] 45 (0, 0))) ∧ Hid (Mv wa wx (fun j => j = T)) ∧ Hid (Il (fun j => j < N) wa (.slice a m q) c ∧ m ≤ q ∧ q ≤ 9223372036854775807))
          case first =>
            obtain ⟨t0, t1, t2, t3⟩ := row4 NA.out
            have zT : ∀ q, wa.frozen? ⟨T, q, none⟩ = false := fun q => frozen_of_row wa T q _ 45 NA.out
            by_cases hs : i < ns
            · have hkl : i < lp.length := by rw [LPN.out]; exact hs
              have ec := C1.out hkl
              obtain ⟨g', o', b1', n1', r1', b2', n2', r2', b3', n3', r3', b4', n4', r4', a5, m5, q5, rfl, e2, hm5, ⟨-, -, -, -, d4, d5, d6, d7⟩, -, hil, hc5⟩ := PA.out wa (OI.out wa XA.out) i hkl
              obtain ⟨-, -, -, -, hm5⟩ := hm5
              have IL : Hid (Il (fun j => j < N) wa (.slice a5 m5 q5) c) := by
                obtain ⟨h', p', k1, k2, k3, k4, k5, k6, k7, k8, k9, l1, l2, l3, a5', m5', q5', -, e2', -, -, -, hil0, -⟩ := PA.out w0 (by rw [HNN.out]; exact Below.refl _ _) i hkl
                rw [e2] at e2'
                injection e2' with _ _ _ _ f5
                rw [← f5, ← ec] at hil0
                have h := (il_lt hil0).later (HNN.out ▸ OI.out wa XA.out)
                rw [← HNN.out] at h
                exact h
              have hmm : m5 = m := by rw [hm5, ← ec]; exact HMC.out.symm
              subst hmm
              generalize lp[i].1.run.name = nm at *
              generalize lp[i].1.run.pa = pa at *
              generalize lp[i].1.run.lo = lo at *
              have j9 : (i : Int) < (ns : Int) := by omega
              have NX := hide (w4s_row (.string nm) (.int .i64 pa) (.int .i64 lo) (.slice a5 m5 q5) NA.out)
              have MX := hide (w4s_mv wa T (.string nm) (.int .i64 pa) (.int .i64 lo) (.slice a5 m5 q5))
              clear ec hm5 e2 hil
              unfold w4s at NX MX
              go_wp2_with fail
              go_meet
              exact ⟨nm, pa, lo, a5, q5, NX.out, MX.out, IL.out, hc5⟩
            · have hkl : i - ns < lq.length := by rw [LQN.out]; have := HNL.out; omega
              have ec := C2.out hkl (by omega)
              obtain ⟨g', o', a5, m5, q5, rfl, e2, hm5, ⟨d4, d5, d6, d7⟩, hil, hc5⟩ := QA.out wa (OI.out wa XA.out) (i - ns) hkl
              have IL : Hid (Il (fun j => j < N) wa (.slice a5 m5 q5) c) := by
                obtain ⟨h', p', a5', m5', q5', -, e2', -, -, hil0, -⟩ := QA.out w0 (by rw [HNN.out]; exact Below.refl _ _) (i - ns) hkl
                rw [e2] at e2'
                rw [← e2', ← ec] at hil0
                have h := (il_lt hil0).later (HNN.out ▸ OI.out wa XA.out)
                rw [← HNN.out] at h
                exact h
              have hmm : m5 = m := by rw [hm5, ← ec]; exact HMC.out.symm
              subst hmm
              generalize lq[i - ns].1.name = nm at *
              generalize lq[i - ns].1.pa = pa at *
              generalize lq[i - ns].1.lo = lo at *
              have j9 : ¬ (i : Int) < (ns : Int) := by omega
              have j8 : (i : Int) - (ns : Int) = ((i - ns : Nat) : Int) := by omega
              obtain ⟨z, hz⟩ : ∃ z, z = i - ns := ⟨_, rfl⟩
              rw [← hz] at d4 d5 d6 d7 j8
              have j7 : (z : Int) < (nf : Int) := by have := HNL.out; omega
              have NX := hide (w4s_row (.string nm) (.int .i64 pa) (.int .i64 lo) (.slice a5 m5 q5) NA.out)
              have MX := hide (w4s_mv wa T (.string nm) (.int .i64 pa) (.int .i64 lo) (.slice a5 m5 q5))
              clear ec hm5 e2 hil hz hkl
              unfold w4s at NX MX
              go_wp2_with fail
              go_meet
              exact ⟨nm, pa, lo, a5, q5, NX.out, MX.out, IL.out, hc5⟩
          obtain ⟨nm, pa, lo, a, q, NT, MT, IL⟩ := hcut
          have XC : Hid (Below wr.heap.size wr wc) := XA.out.trans (MT.out.below XA.out.size (fun j e => by rw [e, HTR.out]; exact Nat.le_refl _))
          obtain ⟨t0, t1, t2, t3⟩ := row4 NT.out
          obtain ⟨c5, hrw⟩ := C5L.out wc XC.out
          have NTT : Hid (N ≤ T) := by unfold Hid; rw [HTR.out]; exact Nat.le_trans hZ.out.nw hZ.out.be.size
          have ILc : Hid (Il (fun j => j < N) wc (.slice a m q) c) := IL.out.1.mv MT.out (fun j h e => by have := NTT.out; omega)
          have JS : Hid (∀ w', Below wc.heap.size wc w' → Calls Tryz.prog 16 #[.slice (some ⟨g, 0, none⟩) (m + 80) (m + 80), .agg #[.string nm, .int .i64 pa, .int .i64 lo, .slice a m q]] w' fun e w'' => e = .returned (.bool true) ∧ RwI w'' g (List.replicate (m + 80) mk8) ∧ Mv w' w'' (fun j => j = g)) := fun w' hb => still_at nm pa lo c HMC.out IL.out.2.1 IL.out.2.2 (ILc.out.later hb) (hrw.later hb) (by have := GN.out; omega) hcz
          have KP : Hid (∀ w' w'', Below wc.heap.size wc w' → Mv w' w'' (fun j => j = g) → w''.cell? ⟨g5, i, none⟩ = some (.slice (some ⟨g, 0, none⟩) (m + 80) (m + 80)) ∧ w''.cell? ⟨T, 0, none⟩ = some (.string nm) ∧ w''.cell? ⟨T, 1, none⟩ = some (.int .i64 pa) ∧ w''.cell? ⟨T, 2, none⟩ = some (.int .i64 lo) ∧ w''.cell? ⟨T, 3, none⟩ = some (.slice a m q)) := fun w' w'' hb hm => by
            have hg5 : g5 ≠ g := fun e => by
              have h1 := cellL c5 hb
              have h2 := hrw.later hb
              subst e
              rw [cell_of_row w' g5 i _ 56 (0, 0) h2] at h1
              have h3 := Array.mem_of_getElem? h1
              rw [List.mem_toArray] at h3
              unfold insC at h3
              obtain ⟨x, -, hx⟩ := List.mem_flatMap.1 h3
              simp at hx
            have hTg : T ≠ g := by have := HTR.out; have := GLT.out; omega
            exact ⟨hm.cell (cellL c5 hb) hg5, hm.cell (cellL t0 hb) hTg, hm.cell (cellL t1 hb) hTg, hm.cell (cellL t2 hb) hTg, hm.cell (cellL t3 hb) hTg⟩
          have h5i : (i : Int) < (nl : Int) := i9
          go_upto_region 44 with fail
          go_region_held3 (fun V => V.cell? ⟨g5, i, none⟩ = some (.slice (some ⟨g, 0, none⟩) (m + 80) (m + 80)) ∧ V.cell? ⟨T, 0, none⟩ = some (.string nm) ∧ V.cell? ⟨T, 1, none⟩ = some (.int .i64 pa) ∧ V.cell? ⟨T, 2, none⟩ = some (.int .i64 lo) ∧ V.cell? ⟨T, 3, none⟩ = some (.slice a m q)) (first | exact KP.out _ _ (below_drew wc) m8 | exact KP.out _ _ (below_drew wc) (Mv.refl _ _)) ((go_at_call 16; refine (JS.out _ (below_drew wc)).mono ?_; rintro e wd ⟨rfl, r8, m8⟩))
          have R8 := hide r8
          have M8 := hide m8
          clear r8 m8
          have MW : Hid (Mv wr wd (fun j => j = g)) := (Mv.of_below (below_on XC.out (below_drew wc)) _).trans M8.out (fun _ _ e => e)
          have LZn := hide (NXT.out wd MW.out R8.out)
          have OBn := hide (MW.out.own oB.out (fun j e1 e2 => own_not oB.out HRW.out (by decide) (e2 ▸ e1)))
          have OCn : Hid (Bn wd vc eb) := ⟨oC.out.1.mvI MW.out (fun j e => ⟨c ++ List.replicate 80 mkI, e ▸ HRW.out⟩), oC.out.2⟩
          have S3n : Hid (N5 ≤ wd.heap.size) := Nat.le_trans s3.out MW.out.size
          go_wp2_with fail
          exact ⟨⟨i + 1, by go_num, by omega, rfl, LZn.out, OBn.out, OCn.out, S3n.out⟩, by simp [intOf]; omega⟩
        · obtain rfl : nl = i := by omega
          have LZ5 : Hid (LZ w0 wr N Qb ls lf (.slice us ls.length rs) (.slice uf lf.length rf) (.slice u5' nl r5') x5 (fun j c => if j < 0 then List.replicate (c.length + 80) mkS4 else rep8 c)) := by
            have h := hZ.out
            exact ⟨h.qb, h.rs, h.rf, h.st, h.cd.ext (fun i c hi => by rw [if_pos (by rw [CLN.out.1] at hi; exact hi), if_neg (by omega)]), h.r5, h.be, h.nw⟩
          have OB8 := hide oB.out
          have OC8 := hide oC.out
          have S38 := hide s3.out
          clear hZ oB oC s3 LZ0 OB7 OC7 S37
          go_wp2_with fail
          go_loopw [25] (fun v25 wr => ∃ i : Nat, v25 = .int .i64 (i : Int) ∧ i ≤ nl ∧ Hid (LZ w0 wr N Qb ls lf (.slice us ls.length rs) (.slice uf lf.length rf) (.slice u5' nl r5') x5 (fun j c => if j < i then List.replicate (c.length + 80) mkS4 else rep8 c)) ∧ Hid (wr.ownsRow N5 5 1 (.slice ab eb.length nb) eb.length (Lib.byteCells eb)) ∧ Hid (Bn wr vc eb) ∧ Hid (N5 ≤ wr.heap.size)) (fun v25 _ => nl - (intOf v25).toNat)
          case atStart => exact ⟨0, rfl, by omega, LZ5.out, OB8.out, OC8.out, S38.out⟩
          case round =>
            obtain ⟨i, rfl, hi1, hZ, oB, oC, s3⟩ := hrel
            by_cases hi2 : i < nl
            · have hic : i < (codLs ls lf).length := by rw [CLN.out.1]; exact hi2
              have hiv : i < (codesS ls ++ codesR lf).length := by rw [CLN.out.2]; exact hi2
              obtain ⟨g5, g, rfl, ecv, c5, hgN, hlen, hrw⟩ := hZ.out.list HX5.out hiv hic
              have ECV := hide ecv
              have hcz := COD3.out i hic
              have eif : (if i < i then List.replicate ((codLs ls lf)[i].length + 80) mkS4 else rep8 (codLs ls lf)[i]) = rep8 (codLs ls lf)[i] := if_neg (by omega)
              rw [eif] at hrw hlen
              have NXT : Hid (∀ w', Mv wr w' (fun j => j = g) → RwI w' g (List.replicate ((codLs ls lf)[i].length + 80) mkS4) → LZ w0 w' N Qb ls lf (.slice us ls.length rs) (.slice uf lf.length rf) (.slice (some ⟨g5, 0, none⟩) nl r5') x5 (fun j c => if j < i + 1 then List.replicate (c.length + 80) mkS4 else rep8 c)) := fun w' hm hr => by
                have hm' : Mv wr w' (fun j => ((codesS ls ++ codesR lf)[i]).ownBlock = some j) := hm.mono (fun j _ e => by rw [ECV.out, e]; rfl)
                exact hZ.out.turn hm (fun j e => by
                  rw [e]
                  exact ⟨hgN, _, hrw⟩) (hZ.out.cd.next (A := rep8) (B := fun c => List.replicate (c.length + 80) mkS4) hiv hic hm' ⟨g, ECV.out, hgN, by simp, hr⟩)
              generalize (codLs ls lf)[i] = c at *
              obtain ⟨m, hm⟩ : ∃ m, m = c.length := ⟨_, rfl⟩
              rw [← hm] at c5 NXT hcz
              have HRW : Hid (RwI wr g (List.replicate (m + 80) mk8)) := by
                have h := hrw
                unfold rep8 at h
                rw [← hm] at h
                exact h
              have hg5 : g5 ≠ g := fun e => by
                have h1 := c5
                rw [e, cell_of_row wr g i _ 56 (0, 0) HRW.out] at h1
                have h3 := Array.mem_of_getElem? h1
                rw [List.mem_toArray] at h3
                unfold insC at h3
                obtain ⟨x, -, hx⟩ := List.mem_flatMap.1 h3
                simp at hx
              have CELL : Hid (∀ w', Mv wr w' (fun j => j = g) → w'.cell? ⟨g5, i, none⟩ = some (.slice (some ⟨g, 0, none⟩) (m + 80) (m + 80))) := fun w' hm => hm.cell c5 hg5
              have L8 : Hid ((List.replicate (m + 80) mk8).length = m + 80) := by unfold Hid; simp
              have i9 : (i : Int) < (nl : Int) := by omega
              clear ecv hgN hlen hrw eif hm c5 hg5
              go_wp2_with fail
              go_loopw [26] (fun v26 wx => ∃ k : Nat, v26 = .int .i64 (k : Int) ∧ k ≤ m + 80 ∧ Hid (RwI wx g (stpE (List.replicate (m + 80) mk8) k)) ∧ Hid (Mv wr wx (fun j => j = g))) (fun v26 _ => m + 80 - (intOf v26).toNat)
              case atStart => exact ⟨0, rfl, by omega, HRW.out, Mv.refl _ _⟩
              case round =>
                obtain ⟨k, rfl, hk, hr, hmv⟩ := hrel
                have c5 := CELL.out wr hmv.out
                by_cases hk2 : k < m + 80
                · have hkl : k < (List.replicate (m + 80) mk8).length := by rw [L8.out]; exact hk2
                  have hko : k < (stpE (List.replicate (m + 80) mk8) k).length := by rw [stpE_len _ k (by omega)]; exact hkl
                  obtain ⟨y0, y1⟩ := hr.out.cell hko
                  have hf := hr.out.frozen
                  have NX : Hid (RwI ((wr.setCell ⟨g, k * 2, none⟩ (.int .i64 24)).setCell ⟨g, k * 2 + 1, none⟩ (.int .i64 0)) g (stpE (List.replicate (m + 80) mk8) (k + 1))) := by
                    have := hr.out.set hko mkS4
                    rw [stpE_set _ k hkl] at this
                    exact this
                  have MX := hide (hmv.out.trans (setR_mv (x := .int .i64 24) (y := .int .i64 0) (w := wr) (g := g) (k := k)) (fun _ _ e => e))
                  have k9 : (k : Int) < (m : Int) + 80 := by omega
                  generalize ((stpE (List.replicate (m + 80) mk8) k)[k]).op = old0 at y0
                  generalize ((stpE (List.replicate (m + 80) mk8) k)[k]).a = old1 at y1
                  clear hkl hko
                  go_wp2_with fail
                  exact ⟨⟨k + 1, by go_num, by omega, NX.out, MX.out⟩, by simp [intOf]; omega⟩
                · obtain rfl : k = m + 80 := by omega
                  have R9 : RwI wr g (List.replicate (m + 80) mkS4) := by
                    have h1 := hr.out
                    have h2 := stpE_end (List.replicate (m + 80) mk8)
                    rw [L8.out] at h2
                    rw [h2] at h1
                    exact h1
                  have LZn := hide (NXT.out wr hmv.out R9)
                  have OBn := hide (hmv.out.own oB.out (fun j e1 e2 => own_not oB.out HRW.out (by decide) (e2 ▸ e1)))
                  have OCn : Hid (Bn wr vc eb) := ⟨oC.out.1.mvI hmv.out (fun j e => ⟨List.replicate (m + 80) mk8, e ▸ HRW.out⟩), oC.out.2⟩
                  have S3n : Hid (N5 ≤ wr.heap.size) := Nat.le_trans s3.out hmv.out.size
                  have cst : ((m + 80 : Nat) : Int) = (m : Int) + 80 := by omega
                  clear R9
                  go_wp2_with fail
                  exact ⟨⟨i + 1, by go_num, by omega, LZn.out, OBn.out, OCn.out, S3n.out⟩, by simp [intOf]; omega⟩
            · obtain rfl : nl = i := by omega
              have LZ7 : Hid (LZ w0 wr N Qb ls lf (.slice us ls.length rs) (.slice uf lf.length rf) (.slice u5' nl r5') x5 (fun _ c => f24 c ++ List.replicate 80 mkS4)) := by
                have h := hZ.out
                exact ⟨h.qb, h.rs, h.rf, h.st, h.cd.ext (fun i c hi => by rw [if_pos (by rw [CLN.out.1] at hi; exact hi), rep24_split]), h.r5, h.be, h.nw⟩
              have OB9 := hide oB.out
              have OC9 := hide oC.out
              have S39 := hide s3.out
              clear hZ oB oC s3 LZ5 OB8 OC8 S38
              go_upto_region 53 with fail
              rename_i K6 hK6
              exact enc6 (ns := ns) (nf := nf) (cs := cs) (cf := cf) (sa := sa) (fa := fa) rfl rfl rfl rfl rfl rfl rfl rfl Y0 HNN AT KD PG Z1 ZD SIX HZ SL SF ENP HEB LX3N b1 b2 ⟨L5.out.2.2.2, LL.out.1⟩ LZ7 OB9 OC9 S39 hK6
end Go.Proofs.YtpolajoephjdhaaGreatDoor
