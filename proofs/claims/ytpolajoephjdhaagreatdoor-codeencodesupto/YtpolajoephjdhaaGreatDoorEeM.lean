/-
  CodeEncodes: from the copy that is held on.
-/
import Derived.Test.YtpolajoephjdhaaGreatDoorEeL
namespace Go.Proofs.YtpolajoephjdhaaGreatDoor
open Go.RowKit
set_option maxRecDepth 1000000
set_option maxHeartbeats 32000000 in
theorem enc6 {W w0 : World} {N B Qb N5 : Nat} {A : Act} {sa fa : Option Addr} {ns cs nf cf : Nat} {sys : List Sy} {fns : List Rt} {ls : List (Sy × Sv)} {lf : List (Rt × Value)} {us uf u5' : Option Addr} {rs rf r5' : Nat} {x5 : List Value} {eb : List UInt8} {ee : Int} {ab : Option Addr} {nb : Nat} {vc : Value} {K : Act → World → Prop} {w7 : World} {nl : Nat} (hs : A.tmps.size = 478) (hd : A.defers = []) (h1 : A.tmps.getD 1 undef = .pointer (some ⟨B, 0, none⟩)) (h4 : A.tmps.getD 4 undef = .pointer (some ⟨Qb, 0, none⟩)) (h15 : A.tmps.getD 15 undef = .slice ab eb.length nb) (h17 : A.tmps.getD 17 undef = vc) (h18 : A.tmps.getD 18 undef = .int .i64 ee) (h19 : A.tmps.getD 19 undef = .bool true) (Y0 : Hid (Below W.heap.size W w0)) (HNN : Hid (N = w0.heap.size)) (AT : Hid (∀ w', Below N w0 w' → w'.cell? ⟨B, 0, none⟩ = some (.slice sa ns cs) ∧ w'.cell? ⟨B, 1, none⟩ = some (.slice fa nf cf))) (KD : Hid (∀ w', Below N w0 w' → Kd w')) (PG : Hid (∀ w', Below N w0 w' → Pgm Qt w' (.slice sa ns cs) (.slice fa nf cf) ⟨sys, fns⟩)) (Z1 : Hid (∀ s ∈ sys, s.run.name.size ≤ 9223372036854775807 ∧ s.wi.length ≤ 1048576 ∧ s.wo.length ≤ 1048576 ∧ s.re.length ≤ 1048576 ∧ s.wr.length ≤ 1048576 ∧ s.run.code.length ≤ 1048576)) (ZD : Hid ((∀ s ∈ sys, s.run.name.size ≤ 9223372036854775807 ∧ s.run.code.length ≤ 35184372088832) ∧ ∀ r ∈ fns, r.name.size ≤ 9223372036854775807 ∧ r.code.length ≤ 35184372088832)) (SIX : Hid (Six ⟨sys, fns⟩)) (HZ : Hid ((∀ p ∈ ls, p.1.wi.length ≤ 1048576 ∧ p.1.wo.length ≤ 1048576 ∧ p.1.re.length ≤ 1048576 ∧ p.1.wr.length ≤ 1048576 ∧ p.1.run.code.length ≤ 1048576) ∧ ∀ p ∈ lf, p.1.code.length ≤ 1048576)) (SL : Hid (ls.map Prod.fst = sys)) (SF : Hid (lf.map Prod.fst = fns)) (ENP : Hid (∀ w' vs vf, Below N w0 w' → Pgm Qt w' vs vf ⟨sys, fns⟩ → Calls Tryz.prog 14 #[.agg #[vs, vf]] w' fun e w'' => Below w'.heap.size w' w'' ∧ ∃ v, e = .returned (.tuple #[v, .int .i64 ee]) ∧ w''.ownsRow w'.heap.size 5 1 v eb.length (Lib.byteCells eb))) (HEB : Hid (eb = enB ⟨sys, fns⟩)) (LX3N : Hid (N ≤ N5)) (b1 : ns ≤ 1048576) (b2 : nf ≤ 1048576) (LSN : Hid (ls.length = ns ∧ lf.length = nf)) (LZ7 : Hid (LZ w0 w7 N Qb ls lf (.slice us ls.length rs) (.slice uf lf.length rf) (.slice u5' nl r5') x5 (fun _ c => f24 c ++ List.replicate 80 mkS4))) (OB9 : Hid (w7.ownsRow N5 5 1 (.slice ab eb.length nb) eb.length (Lib.byteCells eb))) (OC9 : Hid (Bn w7 vc eb)) (S39 : Hid (N5 ≤ w7.heap.size)) (hK : Nxt 16 W K) : Code.wp Tryz.prog (headN 15 bodyE) (Exit.then K (QE W)) A w7 := by
  obtain ⟨s, eA, hsk⟩ := act_open A _ hs hd
  rw [hsk] at h1 h4 h15 h17 h18 h19
  rw [eA, h1, h4, h15, h17, h18, h19]
  clear eA hsk hs hd h1 h4 h15 h17 h18 h19
  unfold Nxt at hK
  unfold QE at hK ⊢
  conv => arg 2; whnf
  conv at hK => intro a w; arg 1; arg 2; whnf
  obtain ⟨M, hM⟩ : ∃ X, X = w7.heap.size := ⟨_, rfl⟩
  have HM := hide hM
  have FX : Hid (∀ w', Below M w7 w' → LZ w0 w' N Qb ls lf (.slice us ls.length rs) (.slice uf lf.length rf) (.slice u5' nl r5') x5 (fun _ c => f24 c ++ List.replicate 80 mkS4) ∧ w'.ownsRow N5 5 1 (.slice ab eb.length nb) eb.length (Lib.byteCells eb) ∧ Bn w' vc eb ∧ Below N w0 w') := fun w' hb => by
    rw [HM.out] at hb
    have h := LZ7.out.later hb
    exact ⟨h, own_later OB9.out hb, ⟨OC9.out.1.below hb (Nat.le_refl _), OC9.out.2⟩, h.be⟩
  obtain ⟨w8, hw8⟩ : ∃ X, X = w7.alloc (.cells #[.slice none 0 0, .slice none 0 0] 27) := ⟨_, rfl⟩
  obtain ⟨Nb, hNb⟩ : ∃ X, X = w7.heap.size := ⟨_, rfl⟩
  have LN0 : Hid (LN w7 w8 M Nb [] [] (.slice none 0 0) (.slice none 0 0)) := ⟨by rw [hw8, hNb]; exact heap_alloc_new w7 _, World.ownsRow_nil _ _ _ _, World.ownsRow_nil _ _ _ _, fun p hp => absurd hp (by simp), fun p hp => absurd hp (by simp), by rw [hM, hw8]; exact below_alloc w7 _, by rw [hM, hNb]; exact Nat.le_refl _, by rw [hM]; exact Nat.le_refl _⟩
  obtain ⟨iI, oi, oz0, oz1, oz2⟩ := info_parts infoI
  obtain ⟨iS, si, sz0, sz1, sz2⟩ := info_parts infoS
  obtain ⟨iR, ri, rz0, rz1, rz2⟩ := info_parts infoR
  clear hM
  go_upto_region 54 with fail
  rw [← hNb, ← hw8]
  clear hNb hw8
  go_wp2_with fail
  go_loopw [28] (fun v28 wr => ∃ (k : Nat) (ls2 : List (Sy × Sv)) (vs2 : Value), v28 = .int .i64 (k : Int) ∧ k ≤ ns ∧ Hid (ls2.map Prod.fst = (ls.take k).map (fun p => codS f24 p.1)) ∧ Hid (∀ p ∈ ls2, SetIn w7 N p.1.wi p.2.v1 ∧ SetIn w7 N p.1.wo p.2.v2 ∧ SetIn w7 N p.1.re p.2.v3 ∧ SetIn w7 N p.1.wr p.2.v4) ∧ Hid (LN w7 wr M Nb ls2 [] vs2 (.slice none 0 0))) (fun v28 _ => ns - (intOf v28).toNat)
  case atStart => exact ⟨0, [], .slice none 0 0, rfl, by omega, rfl, fun p hp => absurd hp (by simp), LN0.out⟩
  case round =>
    obtain ⟨k, ls2, vs2, rfl, hk, hl2, hs2, hN2⟩ := hrel
    obtain ⟨hz, -, -, hbN⟩ := FX.out wr hN2.out.be
    obtain ⟨x0, x1⟩ := row2 hz.qb
    by_cases hk2 : k < ns
    · have hkl : k < ls.length := by rw [LSN.out.1]; exact hk2
      have hcz := (HZ.out.1 _ (List.getElem_mem hkl)).2.2.2.2
      obtain ⟨gq, g1, g2, g3, g4, gc, rfl, esv, ⟨d0, d1, d2, d3, d4, d5, d6, d7⟩, hrw⟩ := hz.sysAt hkl hcz
      have STK : Hid (SetIn w7 N ls[k].1.wi ls[k].2.v1 ∧ SetIn w7 N ls[k].1.wo ls[k].2.v2 ∧ SetIn w7 N ls[k].1.re ls[k].2.v3 ∧ SetIn w7 N ls[k].1.wr ls[k].2.v4) := LZ7.out.st _ (List.getElem_mem hkl)
      rw [esv] at STK
      have TK : Hid ((ls.take (k + 1)).map (fun p => codS f24 p.1) = (ls.take k).map (fun p => codS f24 p.1) ++ [codS f24 ls[k].1]) := by
        unfold Hid
        rw [List.take_succ_eq_append_getElem hkl, List.map_append]
        rfl
      have L2 : Hid (ls2.length = k) := by
        have h := congrArg List.length hl2.out
        rw [List.length_map, List.length_map, List.length_take] at h
        unfold Hid
        omega
      generalize ls[k].1 = sy at *
      generalize hm1 : sy.wi.length = m1 at *
      generalize hm2 : sy.wo.length = m2 at *
      generalize hm3 : sy.re.length = m3 at *
      generalize hm4 : sy.wr.length = m4 at *
      generalize hm5 : sy.run.code.length = m5 at *
      have HM5 := hide hm5
      clear hm1 hm2 hm3 hm4 hm5 esv
      obtain ⟨u2, r2, rfl⟩ := own_len hN2.out.rs
      have hlb : ls2.length ≤ 1048576 := by have := L2.out; omega
      have hk9 : (k : Int) < (ns : Int) := by omega
      obtain ⟨wa, hwa⟩ : ∃ X, X = wr.alloc (.cells #[.slice (some ⟨g1, 0, none⟩) m1 (m1 + 80), .slice (some ⟨g2, 0, none⟩) m2 (m2 + 80), .slice (some ⟨g3, 0, none⟩) m3 (m3 + 80), .slice (some ⟨g4, 0, none⟩) m4 (m4 + 80), .string sy.run.name, .int .i64 sy.run.pa, .int .i64 sy.run.lo, .slice (some ⟨gc, 0, none⟩) m5 (m5 + 80)] 47) := ⟨_, rfl⟩
      obtain ⟨T, hT⟩ : ∃ X, X = wr.heap.size := ⟨_, rfl⟩
      have bA : Below wr.heap.size wr wa := hwa ▸ below_alloc wr _
      have nA : wa.heap[T]? = some (.cells #[.slice (some ⟨g1, 0, none⟩) m1 (m1 + 80), .slice (some ⟨g2, 0, none⟩) m2 (m2 + 80), .slice (some ⟨g3, 0, none⟩) m3 (m3 + 80), .slice (some ⟨g4, 0, none⟩) m4 (m4 + 80), .string sy.run.name, .int .i64 sy.run.pa, .int .i64 sy.run.lo, .slice (some ⟨gc, 0, none⟩) m5 (m5 + 80)] 47 (0, 0)) := by rw [hwa, hT]; exact heap_alloc_new wr _
      have LNa := hide (hN2.out.later bA)
      have NA := hide nA
      have MT : Hid (M ≤ T) := by unfold Hid; rw [hT]; exact Nat.le_trans hN2.out.nw hN2.out.be.size
      have VT : Hid (∀ j, (Value.slice u2 ls2.length r2).ownBlock = some j → j ≠ T) := fun j e e2 => by have := (hN2.out.rs.lt j e).2; omega
      have RWA := hide (hrw.later bA)
      clear bA nA hrw hz
      go_upto_region 58 with fail
      rw [← hT, ← hwa]
      clear hT hwa x0 x1 d0 d1 d2 d3 d4 d5 d6 d7 hN2
      obtain ⟨s0, s1, s2, s3, s4, s5, s6, s7⟩ := row8 (((below_alloc wa (.cells #[] 56)).block T (lt_of_block NA.out)).trans NA.out)
      have RWB := hide (RWA.out.later (below_alloc wa (.cells #[] 56)))
      have hn24 : Hid ((insC (f24 sy.run.code)).length = m5 * 2) := by unfold Hid; rw [insC_len, f24_len, HM5.out]
      go_wp2_with (at_builtin; refine wpList_append_own _ rfl _ _ 43 rfl wa.heap.size 56 iI (.agg #[.int .i64 0, .int .i64 0]) 2 16 Tryz.underlying43 oi oz0 oz1 oz2 rfl (by decide) _ _ _ rfl (lit_own wa) ⟨gc, 0, none⟩ m5 (m5 + 80) (insC (f24 sy.run.code)) rfl hn24.out (RWB.out.src) (insC_one _) ?k3 ?k4 (by simp) ?_)
      case k3 => unfold maxLen; omega
      case k4 => omega
      intro v9 wb ho9 hg9 _
      have mB := (Mv.of_below (below_alloc wa (.cells #[] 56)) (fun j => j = wa.heap.size)).grown hg9 (fun j _ e => by simp [Value.ownBlock] at e; exact e.symm)
      have BB : Hid (Below wa.heap.size wa wb) := mB.below (Nat.le_refl _) (fun j e => by omega)
      have NB := hide ((BB.out.block T (lt_of_block NA.out)).trans NA.out)
      have LNb := hide (LNa.out.later BB.out)
      obtain ⟨a9, c9, rfl⟩ := own_len ho9
      have O9 : Hid (wb.ownsRow M 56 2 (.slice a9 m5 c9) m5 (insC (f24 sy.run.code))) := own_lower ho9 (Nat.le_trans LNa.out.nw LNa.out.be.size)
      have T9 : Hid (T ≠ wa.heap.size) := by have := lt_of_block NA.out; unfold Hid; omega
      clear s0 s1 s2 s3 s4 s5 s6 s7 RWB RWA hn24 ho9 hg9 mB NA LNa
      obtain ⟨s0, s1, s2, s3, s4, s5, s6, s7⟩ := row8 NB.out
      have zT : ∀ q, wb.frozen? ⟨T, q, none⟩ = false := fun q => frozen_of_row wb T q _ 47 NB.out
      obtain ⟨wc, hwc⟩ : ∃ X, X = wb.setCell ⟨T, 7, none⟩ (.slice a9 m5 c9) := ⟨_, rfl⟩
      have mC : Mv wb wc (fun j => j = T) := by rw [hwc]; exact (Mv.refl wb (fun j => j = T)).set (g := T) rfl 7 _
      have NC : Hid (wc.heap[T]? = some (.cells #[.slice (some ⟨g1, 0, none⟩) m1 (m1 + 80), .slice (some ⟨g2, 0, none⟩) m2 (m2 + 80), .slice (some ⟨g3, 0, none⟩) m3 (m3 + 80), .slice (some ⟨g4, 0, none⟩) m4 (m4 + 80), .string sy.run.name, .int .i64 sy.run.pa, .int .i64 sy.run.lo, .slice a9 m5 c9] 47 (0, 0))) := by unfold Hid; rw [hwc]; exact heap_setCell_same wb T 7 _ 47 _ NB.out
      have LNc := hide (LNb.out.turnT NB.out (.inl rfl) MT.out VT.out (fun j e => by cases e) mC)
      have OC := hide (mC.own O9.out (fun j e1 e2 => own_not O9.out NB.out (by decide) (e2 ▸ e1)))
      clear mC
      go_upto_region 59 with fail
      rw [← hwc]
      clear hwc s0 s1 s2 s3 s4 s5 s6 s7 zT NB LNb O9
      obtain ⟨s0, s1, s2, s3, s4, s5, s6, s7⟩ := row8 NC.out
      obtain ⟨x0, x1⟩ := row2 LNc.out.nb
      have qr := LNc.out.rs
      have qs := LNc.out.be.size
      have qn := LNc.out.nw
      have LQ := hide LNc.out.nb
      go_wp2_with (at_builtin; refine wpList_append_keep rfl _ _ 24 rfl M 47 iS (.agg #[.slice none 0 0, .slice none 0 0, .slice none 0 0, .slice none 0 0, .string ByteArray.empty, .int .i64 0, .int .i64 0, .slice none 0 0]) 8 152 Tryz.underlying24 si sz0 sz1 sz2 rfl (by decide) _ _ _ rfl (qr.alloc _) ⟨wc.heap.size, 0, none⟩ 1 1 [.slice (some ⟨g1, 0, none⟩) m1 (m1 + 80), .slice (some ⟨g2, 0, none⟩) m2 (m2 + 80), .slice (some ⟨g3, 0, none⟩) m3 (m3 + 80), .slice (some ⟨g4, 0, none⟩) m4 (m4 + 80), .string sy.run.name, .int .i64 sy.run.pa, .int .i64 sy.run.lo, .slice a9 m5 c9] rfl rfl ?t1 ?t2 ?t3 ?t4 ?t5 ?_)
      case t1 =>
        intro j u hj
        match j, hj with
        | 0, hj => simp at hj; subst hj; simp [Addr.add]
        | 1, hj => simp at hj; subst hj; simp [Addr.add]
        | 2, hj => simp at hj; subst hj; simp [Addr.add]
        | 3, hj => simp at hj; subst hj; simp [Addr.add]
        | 4, hj => simp at hj; subst hj; simp [Addr.add]
        | 5, hj => simp at hj; subst hj; simp [Addr.add]
        | 6, hj => simp at hj; subst hj; simp [Addr.add]
        | 7, hj => simp at hj; subst hj; simp [Addr.add]
      case t2 => intro u hu; simp at hu; (first | (subst hu; rfl) | (rcases hu with rfl | rfl <;> rfl) | (rcases hu with rfl | rfl | rfl <;> rfl) | (rcases hu with rfl | rfl | rfl | rfl <;> rfl) | (rcases hu with rfl | rfl | rfl | rfl | rfl <;> rfl) | (rcases hu with rfl | rfl | rfl | rfl | rfl | rfl <;> rfl) | (rcases hu with rfl | rfl | rfl | rfl | rfl | rfl | rfl <;> rfl) | (rcases hu with rfl | rfl | rfl | rfl | rfl | rfl | rfl | rfl <;> rfl))
      case t3 => unfold maxLen; omega
      case t4 => omega
      case t5 => simp; omega
      intro vs' wh hownS hgS hkS _
      obtain ⟨us', rs', rfl⟩ := own_len hownS
      have mH := (Mv.of_below (below_alloc wc (.cells #[.slice (some ⟨g1, 0, none⟩) m1 (m1 + 80), .slice (some ⟨g2, 0, none⟩) m2 (m2 + 80), .slice (some ⟨g3, 0, none⟩) m3 (m3 + 80), .slice (some ⟨g4, 0, none⟩) m4 (m4 + 80), .string sy.run.name, .int .i64 sy.run.pa, .int .i64 sy.run.lo, .slice a9 m5 c9] 47)) (fun j => (Value.slice u2 ls2.length r2).ownBlock = some j)).grown hgS (fun j _ e => e)
      have LNh := hide (LNc.out.turnS (vs' := .slice us' (ls2.length + 1) rs') (p := (codS f24 sy, ⟨.slice (some ⟨g1, 0, none⟩) m1 (m1 + 80), .slice (some ⟨g2, 0, none⟩) m2 (m2 + 80), .slice (some ⟨g3, 0, none⟩) m3 (m3 + 80), .slice (some ⟨g4, 0, none⟩) m4 (m4 + 80), .slice a9 m5 c9⟩)) mH (by rw [sysC_snoc, List.length_append]; exact hownS) (by
        have h := OC.out
        show wc.ownsRow M 56 2 (.slice a9 m5 c9) (f24 sy.run.code).length (insC (f24 sy.run.code))
        rw [f24_len, HM5.out]
        exact h))
      have qbh := mH.at LQ.out (fun e => own_not LNc.out.rs LQ.out (by decide) e)
      have y0 := (row2 qbh).1
      have zq : wh.frozen? ⟨Nb, 0, none⟩ = false := frozen_of_row wh Nb 0 _ 27 qbh
      clear qr qs qn hownS hgS hkS mH s0 s1 s2 s3 s4 s5 s6 s7 x0 x1 LQ LNc NC OC qbh
      go_wp2_with fail
      refine ⟨⟨k + 1, ls2 ++ [(codS f24 sy, Sv.mk (.slice (some ⟨g1, 0, none⟩) m1 (m1 + 80)) (.slice (some ⟨g2, 0, none⟩) m2 (m2 + 80)) (.slice (some ⟨g3, 0, none⟩) m3 (m3 + 80)) (.slice (some ⟨g4, 0, none⟩) m4 (m4 + 80)) (.slice a9 m5 c9))], .slice us' (ls2.length + 1) rs', by go_num, by omega, ?_, ?_, LNh.out⟩, by simp [intOf]; omega⟩
      · show List.map Prod.fst _ = _
        rw [List.map_append, hl2.out, TK.out]
        rfl
      · intro p hp
        rw [List.mem_append, List.mem_singleton] at hp
        rcases hp with hp | rfl
        · exact hs2.out p hp
        · exact STK.out
    · obtain rfl : ns = k := by omega
      have SL2 : Hid (ls2.map Prod.fst = sys.map (codS f24)) := by
        have h := hl2.out
        unfold Hid
        rw [h, ← LSN.out.1, List.take_length, ← SL.out, List.map_map]
        rfl
      obtain ⟨u2, r2, rfl⟩ := own_len hN2.out.rs
      have LN2 := hide hN2.out
      have ST2 := hide hs2.out
      have hex : ¬ (ns : Int) < (ls.length : Int) := by rw [LSN.out.1]; omega
      clear hl2 hs2 hN2 LN0 hz hbN
      go_wp2_with fail
      clear x0 x1 hex
      go_loopw [30] (fun v30 wr => ∃ (k : Nat) (lf2 : List (Rt × Value)) (vf2 : Value), v30 = .int .i64 (k : Int) ∧ k ≤ nf ∧ Hid (lf2.map Prod.fst = (lf.take k).map (fun p => codR f24 p.1)) ∧ Hid (LN w7 wr M Nb ls2 lf2 (.slice u2 ls2.length r2) vf2)) (fun v30 _ => nf - (intOf v30).toNat)
      case atStart => exact ⟨0, [], .slice none 0 0, rfl, by omega, rfl, LN2.out⟩
      case round =>
        obtain ⟨k, lf2, vf2, rfl, hk, hl2, hN2⟩ := hrel
        obtain ⟨hz, -, -, hbN⟩ := FX.out wr hN2.out.be
        obtain ⟨x0, x1⟩ := row2 hz.qb
        by_cases hk2 : k < nf
        · have hkl : k < lf.length := by rw [LSN.out.2]; exact hk2
          have hcz := HZ.out.2 _ (List.getElem_mem hkl)
          obtain ⟨gq, gc, rfl, esv, ⟨d0, d1, d2, d3⟩, hrw⟩ := hz.rtAt hkl
          have TK : Hid ((lf.take (k + 1)).map (fun p => codR f24 p.1) = (lf.take k).map (fun p => codR f24 p.1) ++ [codR f24 lf[k].1]) := by
            unfold Hid
            rw [List.take_succ_eq_append_getElem hkl, List.map_append]
            rfl
          have L2 : Hid (lf2.length = k) := by
            have h := congrArg List.length hl2.out
            rw [List.length_map, List.length_map, List.length_take] at h
            unfold Hid
            omega
          generalize lf[k].1 = r at *
          generalize hm5 : r.code.length = m5 at *
          have HM5 := hide hm5
          clear hm5 esv
          obtain ⟨u3, r3, rfl⟩ := own_len hN2.out.rf
          have hlb : lf2.length ≤ 1048576 := by have := L2.out; omega
          have hk9 : (k : Int) < (nf : Int) := by omega
          obtain ⟨wa, hwa⟩ : ∃ X, X = wr.alloc (.cells #[.string r.name, .int .i64 r.pa, .int .i64 r.lo, .slice (some ⟨gc, 0, none⟩) m5 (m5 + 80)] 45) := ⟨_, rfl⟩
          obtain ⟨T, hT⟩ : ∃ X, X = wr.heap.size := ⟨_, rfl⟩
          have bA : Below wr.heap.size wr wa := hwa ▸ below_alloc wr _
          have nA : wa.heap[T]? = some (.cells #[.string r.name, .int .i64 r.pa, .int .i64 r.lo, .slice (some ⟨gc, 0, none⟩) m5 (m5 + 80)] 45 (0, 0)) := by rw [hwa, hT]; exact heap_alloc_new wr _
          have LNa := hide (hN2.out.later bA)
          have NA := hide nA
          have MT : Hid (M ≤ T) := by unfold Hid; rw [hT]; exact Nat.le_trans hN2.out.nw hN2.out.be.size
          have VS : Hid (∀ j, (Value.slice u2 ls2.length r2).ownBlock = some j → j ≠ T) := fun j e e2 => by have := (hN2.out.rs.lt j e).2; omega
          have VT : Hid (∀ j, (Value.slice u3 lf2.length r3).ownBlock = some j → j ≠ T) := fun j e e2 => by have := (hN2.out.rf.lt j e).2; omega
          have RWA := hide (hrw.later bA)
          clear bA nA hrw hz
          go_upto_region 64 with fail
          rw [← hT, ← hwa]
          clear hT hwa x0 x1 d0 d1 d2 d3 hN2
          obtain ⟨s0, s1, s2, s3⟩ := row4 (((below_alloc wa (.cells #[] 56)).block T (lt_of_block NA.out)).trans NA.out)
          have RWB := hide (RWA.out.later (below_alloc wa (.cells #[] 56)))
          have hn24 : Hid ((insC (f24 r.code)).length = m5 * 2) := by unfold Hid; rw [insC_len, f24_len, HM5.out]
          go_wp2_with (at_builtin; refine wpList_append_own _ rfl _ _ 43 rfl wa.heap.size 56 iI (.agg #[.int .i64 0, .int .i64 0]) 2 16 Tryz.underlying43 oi oz0 oz1 oz2 rfl (by decide) _ _ _ rfl (lit_own wa) ⟨gc, 0, none⟩ m5 (m5 + 80) (insC (f24 r.code)) rfl hn24.out (RWB.out.src) (insC_one _) ?l3 ?l4 (by simp) ?_)
          case l3 => unfold maxLen; omega
          case l4 => omega
          intro v9 wb ho9 hg9 _
          have mB := (Mv.of_below (below_alloc wa (.cells #[] 56)) (fun j => j = wa.heap.size)).grown hg9 (fun j _ e => by simp [Value.ownBlock] at e; exact e.symm)
          have BB : Hid (Below wa.heap.size wa wb) := mB.below (Nat.le_refl _) (fun j e => by omega)
          have NB := hide ((BB.out.block T (lt_of_block NA.out)).trans NA.out)
          have LNb := hide (LNa.out.later BB.out)
          obtain ⟨a9, c9, rfl⟩ := own_len ho9
          have O9 : Hid (wb.ownsRow M 56 2 (.slice a9 m5 c9) m5 (insC (f24 r.code))) := own_lower ho9 (Nat.le_trans LNa.out.nw LNa.out.be.size)
          clear s0 s1 s2 s3 RWB RWA hn24 ho9 hg9 mB NA LNa
          obtain ⟨s0, s1, s2, s3⟩ := row4 NB.out
          have zT : ∀ q, wb.frozen? ⟨T, q, none⟩ = false := fun q => frozen_of_row wb T q _ 45 NB.out
          obtain ⟨wc, hwc⟩ : ∃ X, X = wb.setCell ⟨T, 3, none⟩ (.slice a9 m5 c9) := ⟨_, rfl⟩
          have mC : Mv wb wc (fun j => j = T) := by rw [hwc]; exact (Mv.refl wb (fun j => j = T)).set (g := T) rfl 3 _
          have NC : Hid (wc.heap[T]? = some (.cells #[.string r.name, .int .i64 r.pa, .int .i64 r.lo, .slice a9 m5 c9] 45 (0, 0))) := by unfold Hid; rw [hwc]; exact heap_setCell_same wb T 3 _ 45 _ NB.out
          have LNc := hide (LNb.out.turnT NB.out (.inr rfl) MT.out VS.out VT.out mC)
          have OC := hide (mC.own O9.out (fun j e1 e2 => own_not O9.out NB.out (by decide) (e2 ▸ e1)))
          clear mC
          go_upto_region 65 with fail
          rw [← hwc]
          clear hwc s0 s1 s2 s3 zT NB LNb O9
          obtain ⟨s0, s1, s2, s3⟩ := row4 NC.out
          obtain ⟨x0, x1⟩ := row2 LNc.out.nb
          have qr := LNc.out.rf
          have qs := LNc.out.be.size
          have qn := LNc.out.nw
          have LQ := hide LNc.out.nb
          go_wp2_with (at_builtin; refine wpList_append_keep rfl _ _ 25 rfl M 45 iR (.agg #[.string ByteArray.empty, .int .i64 0, .int .i64 0, .slice none 0 0]) 4 56 Tryz.underlying25 ri rz0 rz1 rz2 rfl (by decide) _ _ _ rfl (qr.alloc _) ⟨wc.heap.size, 0, none⟩ 1 1 [.string r.name, .int .i64 r.pa, .int .i64 r.lo, .slice a9 m5 c9] rfl rfl ?u1 ?u2 ?u3 ?u4 ?u5 ?_)
          case u1 =>
            intro j u hj
            match j, hj with
            | 0, hj => simp at hj; subst hj; simp [Addr.add]
            | 1, hj => simp at hj; subst hj; simp [Addr.add]
            | 2, hj => simp at hj; subst hj; simp [Addr.add]
            | 3, hj => simp at hj; subst hj; simp [Addr.add]
          case u2 => intro u hu; simp at hu; (first | (subst hu; rfl) | (rcases hu with rfl | rfl <;> rfl) | (rcases hu with rfl | rfl | rfl <;> rfl) | (rcases hu with rfl | rfl | rfl | rfl <;> rfl) | (rcases hu with rfl | rfl | rfl | rfl | rfl <;> rfl) | (rcases hu with rfl | rfl | rfl | rfl | rfl | rfl <;> rfl) | (rcases hu with rfl | rfl | rfl | rfl | rfl | rfl | rfl <;> rfl) | (rcases hu with rfl | rfl | rfl | rfl | rfl | rfl | rfl | rfl <;> rfl))
          case u3 => unfold maxLen; omega
          case u4 => omega
          case u5 => simp; omega
          intro vf' wh hownS hgS hkS _
          obtain ⟨us', rs', rfl⟩ := own_len hownS
          have mH := (Mv.of_below (below_alloc wc (.cells #[.string r.name, .int .i64 r.pa, .int .i64 r.lo, .slice a9 m5 c9] 45)) (fun j => (Value.slice u3 lf2.length r3).ownBlock = some j)).grown hgS (fun j _ e => e)
          have LNh := hide (LNc.out.turnF (vf' := .slice us' (lf2.length + 1) rs') (p := (codR f24 r, Value.slice a9 m5 c9)) mH (by rw [rtsC_snoc, List.length_append]; exact hownS) (by
            have h := OC.out
            show wc.ownsRow M 56 2 (.slice a9 m5 c9) (f24 r.code).length (insC (f24 r.code))
            rw [f24_len, HM5.out]
            exact h))
          have qbh := mH.at LQ.out (fun e => own_not LNc.out.rf LQ.out (by decide) e)
          have y1 := (row2 qbh).2
          have zq : wh.frozen? ⟨Nb, 1, none⟩ = false := frozen_of_row wh Nb 1 _ 27 qbh
          clear qr qs qn hownS hgS hkS mH s0 s1 s2 s3 x0 x1 LQ LNc NC OC qbh
          go_wp2_with fail
          refine ⟨⟨k + 1, lf2 ++ [(codR f24 r, Value.slice a9 m5 c9)], .slice us' (lf2.length + 1) rs', by go_num, by omega, ?_, LNh.out⟩, by simp [intOf]; omega⟩
          show List.map Prod.fst _ = _
          rw [List.map_append, hl2.out, TK.out]
          rfl
        · obtain rfl : nf = k := by omega
          have SF2 : Hid (lf2.map Prod.fst = fns.map (codR f24)) := by
            have h := hl2.out
            unfold Hid
            rw [h, ← LSN.out.2, List.take_length, ← SF.out, List.map_map]
            rfl
          obtain ⟨u3, r3, rfl⟩ := own_len hN2.out.rf
          have LN3 := hide hN2.out
          have hex : ¬ (nf : Int) < (lf.length : Int) := by rw [LSN.out.2]; omega
          obtain ⟨w9, hw9⟩ : ∃ X, X = wr := ⟨_, rfl⟩
          subst hw9
          have XB9 : Hid (Below M w7 w9) := hN2.out.be
          have S79 : Hid (M ≤ w9.heap.size) := by rw [HM.out]; exact hN2.out.be.size
          have S6 : Hid (Six (codP f24 ⟨sys, fns⟩)) := six24 SIX.out
          have PQ24 : Hid (∀ w', Below w9.heap.size w9 w' → Pgm Qt w' (.slice us ls.length rs) (.slice uf lf.length rf) (codP f24 ⟨sys, fns⟩)) := fun w' hb => by
            have hz := (FX.out w' (XB9.out.trans (hb.mono S79.out))).1
            have h := hz.pgm f24 mkS4 f24_len (by rw [SL.out, SF.out]; exact S6.out) HZ.out.1 HZ.out.2
            rw [SL.out, SF.out] at h
            exact h
          have PN24 : Hid (∀ w', Below w9.heap.size w9 w' → Pgm Qt w' (.slice u2 ls2.length r2) (.slice u3 lf2.length r3) (codP f24 ⟨sys, fns⟩)) := fun w' hb => by
            have hb7 : Below w7.heap.size w7 w' := by rw [← HM.out]; exact XB9.out.trans (hb.mono S79.out)
            have e : codP f24 ⟨sys, fns⟩ = ⟨ls2.map Prod.fst, lf2.map Prod.fst⟩ := by rw [SL2.out, SF2.out]; rfl
            have h := (LN3.out.later hb).pgm (N := N) (fun p hp => by
              obtain ⟨a, b, c, d⟩ := ST2.out p hp
              have t : ∀ {l : List Int} {v : Value}, SetIn w7 N l v → SetIn w' N l v := fun hh => hh.mv (Mv.of_below hb7 (fun _ => False)) (fun _ _ e => e)
              exact ⟨t a, t b, t c, t d⟩) (by rw [← e]; exact S6.out) (fun p hp => by
              have hm : p.1 ∈ sys.map (codS f24) := by rw [← SL2.out]; exact List.mem_map.2 ⟨p, hp, rfl⟩
              obtain ⟨s, hs, es⟩ := List.mem_map.1 hm
              obtain ⟨-, q1, q2, q3, q4, -⟩ := Z1.out s hs
              rw [← es]
              exact ⟨q1, q2, q3, q4⟩)
            rw [e]
            exact h
          have Z24 : Hid ((∀ s ∈ (codP f24 ⟨sys, fns⟩).sys, s.run.name.size ≤ 9223372036854775807 ∧ s.run.code.length ≤ 35184372088832) ∧ ∀ r ∈ (codP f24 ⟨sys, fns⟩).fns, r.name.size ≤ 9223372036854775807 ∧ r.code.length ≤ 35184372088832) := ⟨fun s hs => by
            obtain ⟨t, ht, rfl⟩ := List.mem_map.1 hs
            have := ZD.out.1 t ht
            exact ⟨this.1, by show (f24 t.run.code).length ≤ _; rw [f24_len]; exact this.2⟩, fun r hr => by
            obtain ⟨t, ht, rfl⟩ := List.mem_map.1 hr
            have := ZD.out.2 t ht
            exact ⟨this.1, by show (f24 t.code).length ≤ _; rw [f24_len]; exact this.2⟩⟩
          obtain ⟨e24, he24⟩ : ∃ x, x = enB (codP f24 ⟨sys, fns⟩) := ⟨_, rfl⟩
          obtain ⟨r24, hr24⟩ : ∃ x, x = enE (codP f24 ⟨sys, fns⟩) := ⟨_, rfl⟩
          have J1 : Hid (∀ w', Below w9.heap.size w9 w' → Calls Tryz.prog 14 #[.agg #[.slice us ls.length rs, .slice uf lf.length rf]] w' fun e w'' => Below w'.heap.size w' w'' ∧ ∃ v, e = .returned (.tuple #[v, .int .i64 r24]) ∧ w''.ownsRow w'.heap.size 5 1 v e24.length (Lib.byteCells e24)) := fun w' hb => by
            rw [he24, hr24]
            exact encode_all _ (PQ24.out w' hb) (KD.out w' (FX.out w' (XB9.out.trans (hb.mono S79.out))).2.2.2).1
          have J2 : Hid (∀ w', Below w9.heap.size w9 w' → Calls Tryz.prog 15 #[.agg #[.slice u2 ls2.length r2, .slice u3 lf2.length r3]] w' fun e w'' => Below w'.heap.size w' w'' ∧ ∃ v, e = .returned (.tuple #[v, .int .i64 r24]) ∧ Bn w'' v e24) := fun w' hb => by
            rw [he24, hr24]
            exact dencode_any _ (PN24.out w' hb) Z24.out.1 Z24.out.2
          have FX9 : Hid (∀ w', Below w9.heap.size w9 w' → w'.ownsRow N5 5 1 (.slice ab eb.length nb) eb.length (Lib.byteCells eb) ∧ Bn w' vc eb ∧ Below N w0 w') := fun w' hb => (FX.out w' (XB9.out.trans (hb.mono S79.out))).2
          clear hl2 hN2 LN2 hbN he24 hr24 hk
          go_upto_region 66 with fail
          clear x0 x1 hex hz
          obtain ⟨x0, x1⟩ := row2 (FX.out w9 XB9.out).1.qb
          have QB9 : Hid (∀ w', Below w9.heap.size w9 w' → w'.cell? ⟨Nb, 0, none⟩ = some (.slice u2 ls2.length r2) ∧ w'.cell? ⟨Nb, 1, none⟩ = some (.slice u3 lf2.length r3)) := fun w' hb => row2 (LN3.out.later hb).nb
          have J := hide (J1.out w9 (Below.refl _ _))
          go_wp2_with fail
          refine J.out.mono ?_
          rintro e wa ⟨ba, vy, rfl, oy⟩
          have XA := hide ba
          have OY := hide oy
          clear J ba oy x0 x1
          obtain ⟨x0, x1⟩ := QB9.out wa XA.out
          have J := hide (J2.out wa XA.out)
          go_wp2_with fail
          refine J.out.mono ?_
          rintro e wb ⟨bb, vz, rfl, oz⟩
          have XB := hide (below_on XA.out bb)
          have cy := conv_bs (own_bs (own_later OY.out bb))
          have cz := conv_bs oz.1
          clear J bb x0 x1 oz
          go_upto_region 70 with fail
          clear cy cz OY
          obtain ⟨wc, hwc⟩ : ∃ X, X = wb.alloc (.cells #[.string ⟨#[102]⟩, .int .i64 0, .int .i64 0, .slice none 0 0] 45) := ⟨_, rfl⟩
          obtain ⟨Tf, hTf⟩ : ∃ X, X = wb.heap.size := ⟨_, rfl⟩
          have bC : Below wb.heap.size wb wc := hwc ▸ below_alloc wb _
          have nC : wc.heap[Tf]? = some (.cells #[.string ⟨#[102]⟩, .int .i64 0, .int .i64 0, .slice none 0 0] 45 (0, 0)) := by rw [hwc, hTf]; exact heap_alloc_new wb _
          have XC := hide (below_on XB.out bC)
          have J : Hid (Calls Tryz.prog 14 #[.agg #[.slice none 0 0, .slice (some ⟨Tf, 0, none⟩) 1 1]] wc fun e w'' => Below wc.heap.size wc w'' ∧ ∃ v, e = .returned (.tuple #[v, .int .i64 0]) ∧ w''.ownsRow wc.heap.size 5 1 v 7 (Lib.byteCells [0, 1, 1, 102, 0, 0, 0])) := by
            have h := encode_all pgf (pgf_at nC) (KD.out wc (FX9.out wc XC.out).2.2).1
            rw [pgf_B, pgf_E] at h
            exact h
          clear bC nC
          go_wp2_with fail
          rw [← hTf, ← hwc]
          clear hTf hwc
          refine J.out.mono ?_
          rintro e wd ⟨bd, vx, rfl, ox⟩
          have XD := hide (below_on XC.out bd)
          have OX := hide ox
          have SXc : Hid (w9.heap.size ≤ wc.heap.size) := XC.out.size
          have SCD : Hid (wc.heap.size ≤ wd.heap.size) := bd.size
          clear J bd ox
          obtain ⟨x0, x1⟩ := AT.out wd (FX9.out wd XD.out).2.2
          have J := hide (ENP.out wd _ _ (FX9.out wd XD.out).2.2 (PG.out wd (FX9.out wd XD.out).2.2))
          go_wp2_with fail
          refine J.out.mono ?_
          rintro e we ⟨be', vd, rfl, od⟩
          have XE := hide (below_on XD.out be')
          have OX2 := hide (own_later OX.out be')
          have OD := hide od
          have SXd : Hid (wd.heap.size ≤ we.heap.size) := be'.size
          obtain ⟨ax, cx, rfl⟩ := own_len OX2.out
          obtain ⟨ad, cd, rfl⟩ := own_len OD.out
          have c1 := conv_bs (own_bs OD.out)
          have c2 := conv_bs (FX9.out we XE.out).2.1.1
          have c3 := conv_bs (own_bs (FX9.out we XE.out).1)
          have c4 := conv_bs (own_bs (l := [0, 1, 1, 102, 0, 0, 0]) OX2.out)
          clear J be' od x0 x1
          go_upto_region 74 with fail
          clear c1 c2 c3 c4
          have g37 : N5 ≤ M := by rw [HM.out]; exact S39.out
          have g79 := S79.out
          have g9c := SXc.out
          have gcd := SCD.out
          have gde := SXd.out
          have g5c : N5 ≤ wc.heap.size := Nat.le_trans g37 (Nat.le_trans g79 g9c)
          have g5d : N5 ≤ wd.heap.size := Nat.le_trans g5c gcd
          have g5e : N5 ≤ we.heap.size := Nat.le_trans g5d gde
          have EBL : eb.length ≤ 2000000 := by
            rw [HEB.out]
            exact enB_len (fun y hy i hi => ((SIX.out.1 y hy).2.2.2.2.2.2 i hi).2) (fun y hy i hi => ((SIX.out.2 y hy).2.2 i hi).2)
          have hWN : W.heap.size ≤ N5 := by
            have h1 := LX3N.out
            have h2 := Y0.out.size
            rw [HNN.out] at h1
            exact Nat.le_trans h2 h1
          have BWe : Below W.heap.size W we := below_on Y0.out (by
            have h := (FX9.out we XE.out).2.2
            rw [HNN.out] at h
            exact h)
          rename_i K9 hK9
          exact enc9 (P1 := wc.heap.size) (P2 := wd.heap.size) rfl rfl rfl rfl rfl (FX9.out we XE.out).1 (own_lower OX2.out g5c) (own_lower OD.out g5d) (fun j e => ((FX9.out wc XC.out).1.lt j e).2) (fun j e => ⟨(OX.out.lt j e).1, (OX.out.lt j e).2⟩) (fun j e => (OD.out.lt j e).1) gcd EBL hWN g5e BWe hK9
end Go.Proofs.YtpolajoephjdhaaGreatDoor
