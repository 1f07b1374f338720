import Derived.Test.YtfkhhplcogedmaaGreatDoorMgT
import Derived.Test.YtfkhhplcogedmaaGreatDoorVdD
/-
  Verify: the document's loops.
-/
namespace Go.Proofs.YtfkhhplcogedmaaGreatDoor
open Go.RowKit
set_option maxRecDepth 100000
theorem infoBl : (Tryz.prog.info? 4).map (fun i => (i.zero, i.size, i.bytes)) = some (some (.bool false), 1, 1) := by kernel_rfl
theorem made1 (n p : Nat) (hp : p < n) : (madeCells #[Value.bool false] n)[p]? = some (.bool false) := by
  unfold madeCells
  rw [Array.getElem?_map, Array.getElem?_range, if_pos hp, Option.map_some]
  simp [Nat.mod_one]
theorem bm_made {w w1 : World} {n : Nat} (h : w1.heap[w.heap.size]? = some (.cells (madeCells #[Value.bool false] n) 4 (0, 0))) : Bm w1 w.heap.size n (fun _ => false) := ⟨_, h, size_madeCells _ _, fun p hp => made1 n p hp⟩
/-- A list of one number, new. -/
theorem qi_one {W : World} {B : Nat} (x : Nat) (hB : B ≤ W.heap.size) : Qi (W.alloc (.cells #[.int .i64 (x : Int)] 3)) B (.slice (some ⟨W.heap.size, 0, none⟩) 1 1) [x] := by
  refine ⟨W.heap.size, 0, 1, _, rfl, hB, heap_alloc_new W _, Nat.le_refl _, by unfold maxLen; omega, fun _ => rfl, fun j u hj => ?_⟩
  match j, hj with
  | 0, hj => exact hj
/-- What the document's search for a way back holds in memory. -/
structure Ds (K : World → Prop) (w : World) (gS n : Nat) (E : Nat → List Nat) (a : Nat) (seen : Nat → Bool) (todo : List Nat) (v : Value) (W : World) : Prop where
  wo : Wo E n a seen todo
  bm : Bm W gS n seen
  q : Qi W w.heap.size v todo
  b : Below w.heap.size w W
  m : woM n seen todo ≤ 2001
  k : K W
structure Dt (K : World → Prop) (w : World) (gS n : Nat) (E : Nat → List Nat) (a : Nat) (seen : Nat → Bool) (todo : List Nat) (x : Nat) (r : List Nat) (v : Value) (W : World) : Prop where
  wb : Wb E n a seen todo x r
  bm : Bm W gS n seen
  q : Qi W w.heap.size v todo
  b : Below w.heap.size w W
  m : woM n seen todo ≤ 2001
  k : K W
theorem Qi.grownK {W W' : World} {B g t : Nat} {v : Value} {l : List Nat} {cs : Array Value} (hq : Qi W B v l) (hg : W.grownBy W' v.ownBlock) (h : W.heap[g]? = some (.cells cs t (0, 0))) (ht : t ≠ 3) : W'.heap[g]? = some (.cells cs t (0, 0)) := by
  obtain ⟨g', o, c, cs', rfl, -, h3, -⟩ := hq
  refine (hg.block g (lt_of_block h) (fun e => ?_)).trans h
  have e' : g = g' := by simpa [Value.ownBlock] using e
  subst e'
  rw [h3] at h
  injection h with h
  injection h with h5 h6
  exact ht h6.symm
theorem clL_drop {c : List Ins} {k : Nat} (h : k < c.length) : clL (c.drop k) = if c[k].op = 21 then c[k].a.toNat :: clL (c.drop (k + 1)) else clL (c.drop (k + 1)) := by
  rw [List.drop_eq_getElem_cons h]
  unfold clL
  by_cases e : c[k].op = 21
  · rw [if_pos e, List.filter_cons_of_pos (by simpa using e), List.map_cons]
  · rw [if_neg e, List.filter_cons_of_neg (by simpa using e)]
set_option maxHeartbeats 8000000 in
theorem dloops_any {Q : Nat → Prop} {w : World} {vs vf : Value} {fns : List Rt} (hs : ∃ a n c, vs = .slice a n c) (hF : Rts Q w vf fns) (a : Nat) (ha : a < fns.length) (h16 : fns.length ≤ 16) (hca : ∀ r ∈ fns, r.code.length ≤ 2000 ∧ ∀ i ∈ r.code, i.op = 21 → 0 ≤ i.a ∧ i.a < (fns.length : Int)) :
    Calls Tryz.prog 35 #[.agg #[vs, vf], .int .i64 (a : Int)] w fun e w' => (∃ b : Bool, e = .returned (.bool b) ∧ (b = true ↔ Cyc (Eg (cls fns)) a)) ∧ Below w.heap.size w w' := by
  obtain ⟨as', ns, cs, rfl⟩ := hs
  have HF := hide hF
  obtain ⟨af, cf, rfl, f1, f2⟩ := hF.at
  have HCA := hide hca
  obtain ⟨E, hE⟩ : ∃ E, E = Eg (cls fns) := ⟨_, rfl⟩
  have HE : Hid (∀ x (h : x < fns.length), E x = clL fns[x].code) := fun x h => by
    rw [hE, Eg_at (by simp [cls]; exact h)]
    simp [cls]
  rw [← hE]
  obtain ⟨nf, hnf⟩ : ∃ n, n = fns.length := ⟨_, rfl⟩
  have HN := hide hnf
  rw [← hnf] at f1 ha h16 ⊢
  rw [← hnf] at HF
  obtain ⟨ib, hib, hz0, hz1, hz2⟩ := info_parts infoBl
  obtain ⟨w0, hw0⟩ : ∃ X, X = w.alloc (.cells #[.slice as' ns cs, .slice af nf cf] 25) := ⟨_, rfl⟩
  have b0 : Below w.heap.size w w0 := by rw [hw0]; exact below_alloc w _
  have k0 : w0.heap[w.heap.size]? = some (.cells #[.slice as' ns cs, .slice af nf cf] 25 (0, 0)) := by rw [hw0]; exact heap_alloc_new w _
  obtain ⟨gp, hgp⟩ : ∃ x, x = w.heap.size := ⟨_, rfl⟩
  rw [← hgp] at k0
  have KP : Hid (∀ V, Below w0.heap.size w0 V → V.heap[gp]? = some (.cells #[.slice as' ns cs, .slice af nf cf] 25 (0, 0))) := fun V hV => (hV.block gp (lt_of_block k0)).trans k0
  have y1 : w0.cell? ⟨gp, 1, none⟩ = some (.slice af nf cf) := by rw [cell_of_row w0 _ _ _ 25 (0, 0) k0]; rfl
  have B0 := hide b0
  have HGP := hide hgp
  have ti : (a : Int) < (nf : Int) := by omega
  clear hF hca hE hnf b0
  go_enter Tryz.func35, Tryz.ntmps35
  go_upto_region 1 with fail
  rw [← hw0, ← hgp]
  clear hw0 hgp
  go_wp2_with (refine wpList_make_cap _ rfl _ _ 126 rfl 4 ib _ Tryz.underlying126 hib hz0 .i64 .i64 _ _ nf nf rfl rfl rfl rfl (Nat.le_refl _) ?b2 ?b3 ?_)
  case b2 => rw [hz2]; omega
  case b3 => unfold maxLen; omega
  intro w1 hm1 hg1
  have B1 : Hid (Below w0.heap.size w0 w1) := Below.grown (Below.refl _ _) hg1 (Nat.le_refl _) (fun k e => by cases e)
  have BM1 : Hid (Bm w1 w0.heap.size nf (fun _ => false)) := bm_made hm1.out
  obtain ⟨gS, hgS⟩ : ∃ x, x = w0.heap.size := ⟨_, rfl⟩
  have HGS : Hid (w.heap.size ≤ gS) := by rw [hgS]; exact B0.out.size
  rw [← hgS] at BM1 ⊢
  clear hm1 hg1 hgS y1 k0
  obtain ⟨K, hK⟩ : ∃ K : World → Prop, K = fun V => V.heap[gp]? = some (.cells #[.slice as' ns cs, .slice af nf cf] 25 (0, 0)) := ⟨_, rfl⟩
  have HK := hide hK
  have BA := hide (below_alloc w1 (.cells #[.int .i64 (a : Int)] 3))
  have BW1 := hide (below_on B0.out B1.out)
  have D0 : Hid (Ds K w gS nf E a (fun _ => false) [a] (.slice (some ⟨w1.heap.size, 0, none⟩) 1 1) (w1.alloc (.cells #[.int .i64 (a : Int)] 3))) := ⟨Wo.init ha, BM1.out.later BA.out, qi_one a BW1.out.size, below_on BW1.out BA.out, by rw [woM_init]; omega, by rw [HK.out]; exact KP.out _ (below_on B1.out BA.out)⟩
  clear KP hK
  go_wp2_with fail
  obtain ⟨W0, hW0⟩ : ∃ X, X = w1.alloc (.cells #[.int .i64 (a : Int)] 3) := ⟨_, rfl⟩
  obtain ⟨q0, hq0⟩ : ∃ X, X = w1.heap.size := ⟨_, rfl⟩
  rw [← hW0, ← hq0] at D0 ⊢
  clear hW0 hq0 BM1 B1 BA BW1
  go_loopg [6] (woM nf (fun _ => false) [a]) (fun q v6 W => ∃ (seen : Nat → Bool) (todo : List Nat), q = woM nf seen todo ∧ Hid (Ds K w gS nf E a seen todo v6 W))
  case atStart => exact ⟨_, _, rfl, D0⟩
  case round =>
    obtain ⟨seen, todo, rfl, HD⟩ := hrel
    clear D0
    cases todo with
    | nil =>
      obtain ⟨g, o, k, rfl, hk1, hk2, -⟩ := HD.out.q.form
      have HNO : Hid (¬ Cyc E a) := HD.out.wo.done
      have BF := hide HD.out.b
      clear HD
      go_wp2_with fail
      go_ret
      exact ⟨⟨false, rfl, ⟨fun e => (by cases e), fun e => absurd e HNO.out⟩⟩, BF.out⟩
    | cons x t =>
      have hx : x < nf := HD.out.wo.lt x (by simp)
      have hxf : x < fns.length := by have := HN.out; omega
      obtain ⟨g, o, k, hv, hk1, hk2, -⟩ := HD.out.q.form
      rw [List.length_cons] at hv hk1
      subst hv
      have y0 := HD.out.q.head
      obtain ⟨g1, o1, rfl, -, -, -, vc, -, -, -, z3, hil⟩ := (HF.out.later HD.out.b).nth hxf
      obtain ⟨g2, o2, e2, -, -, -, vc2, -, -, -, z4, hil2⟩ := HF.out.nth hxf
      obtain ⟨a5, c5, rfl, h51, h52⟩ := hil.at
      simp only [Option.some.injEq, Addr.mk.injEq, and_true] at e2
      obtain ⟨rfl, rfl⟩ := e2
      obtain rfl : vc2 = .slice a5 fns[x].code.length c5 := by
        have := (HD.out.b.cell (World.block_lt_of_cell? w _ z4)).trans z4
        rw [z3] at this
        exact (Option.some.inj this).symm
      have HCO := hide hil2
      have HEX : Hid (E x = clL fns[x].code) := HE.out x hxf
      have HCX := hide (HCA.out _ (List.getElem_mem hxf))
      obtain ⟨code, hcode⟩ : ∃ c, c = fns[x].code := ⟨_, rfl⟩
      rw [← hcode] at z3 h51 HCO HEX HCX
      obtain ⟨n5, hn5⟩ : ∃ n, n = code.length := ⟨_, rfl⟩
      have HN5 := hide hn5
      rw [← hn5] at z3 h51 HCO
      have hn2 : n5 ≤ 2000 := by rw [hn5]; exact HCX.out.1
      have kk := HD.out.k
      rw [HK.out] at kk
      have y1 : wr.cell? ⟨gp, 1, none⟩ = some (.slice (some ⟨g1, o1, none⟩) nf cf) := by rw [cell_of_row wr _ _ _ 25 (0, 0) kk]; rfl
      have hxi : (x : Int) < (nf : Int) := by omega
      clear hcode hn5 hil hil2 z4 kk
      obtain ⟨nt, hnt⟩ : ∃ y, y = t.length := ⟨_, rfl⟩
      have HNT := hide hnt
      rw [← hnt] at hk1 ⊢
      have t1 : (1 : Int) ≤ (nt : Int) + 1 := by omega
      have t2 : (0 : Int) < (nt : Int) + 1 := by omega
      have S0 : wr.drew.cell? ⟨g, o, none⟩ = some (.int .i64 (x : Int)) ∧ wr.drew.cell? ⟨gp, 1, none⟩ = some (.slice (some ⟨g1, o1, none⟩) nf cf) ∧ wr.drew.cell? ⟨g1, o1 + x * 4 + 3, none⟩ = some (.slice a5 n5 c5) := ⟨y0, y1, z3⟩
      have DN : Hid (Ds K w gS nf E a seen (x :: t) (.slice (some ⟨g, o, none⟩) (nt + 1) k) wr.drew) := by
        have h := HD.out
        have hd := below_drew wr
        rw [HNT.out]
        exact ⟨h.wo, h.bm.later hd, h.q.later hd, below_on h.b hd, h.m, by have := h.k; rw [HK.out] at this ⊢; exact this⟩
      clear HD hnt
      go_upto_region 4 with fail
      go_region_held3 (fun V => V.cell? ⟨g, o, none⟩ = some (.int .i64 (x : Int)) ∧ V.cell? ⟨gp, 1, none⟩ = some (.slice (some ⟨g1, o1, none⟩) nf cf) ∧ V.cell? ⟨g1, o1 + x * 4 + 3, none⟩ = some (.slice a5 n5 c5)) (exact S0) (fail)
      clear S0 y0 y1 z3
      go_wp2_with (refine sliceN rfl _ rfl w.heap.size _ x t rfl DN.out.q ?_)
      intro v6 hq6
      have T0 : Hid (Dt K w gS nf E a seen t x (clL (code.drop 0)) v6 wr.drew) := by
        have h := DN.out.wo.pop
        rw [HEX.out] at h
        exact ⟨h, DN.out.bm, hq6, DN.out.b, by have h1 := DN.out.m; have h2 := @woM_pop nf seen t x; omega, DN.out.k⟩
      have MLT : Hid (woM nf seen t < woM nf seen (x :: t)) := by have h2 := @woM_pop nf seen t x; unfold Hid; omega
      obtain ⟨g6, o6, k6, rfl, -⟩ := hq6.form
      obtain ⟨w3, hw3⟩ : ∃ X, X = wr.drew := ⟨_, rfl⟩
      rw [← hw3] at T0 ⊢
      clear hq6 DN hw3
      go_wp2_with fail
      go_loopw [6, 8] (fun v6 v8 W => ∃ (seen' : Nat → Bool) (todo' : List Nat) (i : Nat), i ≤ n5 ∧ v8 = .int .i64 (i : Int) ∧ Hid (woM nf seen' todo' ≤ woM nf seen t) ∧ Hid (Dt K w gS nf E a seen' todo' x (clL (code.drop i)) v6 W)) (fun _ v8 _ => n5 - (intOf v8).toNat)
      case atStart => exact ⟨seen, t, 0, Nat.zero_le _, rfl, Nat.le_refl _, T0⟩
      case round =>
        obtain ⟨seen', todo', i, hi, rfl, HM, HV⟩ := hrel
        clear T0
        obtain ⟨g7, o7, k7, rfl, -⟩ := HV.out.q.form
        by_cases hlt : i < n5
        · have hii : (i : Int) < (n5 : Int) := by omega
          have hic : i < code.length := by have := HN5.out; omega
          obtain ⟨gc, oc, rfl, -, c0, c1, -, -⟩ := (HCO.out.later HV.out.b).nth hic
          have HDR := hide (clL_drop hic)
          have HCR := hide (HCX.out.2 _ (List.getElem_mem hic))
          obtain ⟨op, hop⟩ : ∃ y, y = code[i].op := ⟨_, rfl⟩
          obtain ⟨av, hav⟩ : ∃ y, y = code[i].a := ⟨_, rfl⟩
          rw [← hop, ← hav] at HDR HCR
          rw [← hop] at c0
          rw [← hav] at c1
          clear hop hav hic
          by_cases c21 : op = 21
          · subst c21
            obtain ⟨hv1, hv2⟩ := HCR.out rfl
            obtain ⟨y, rfl⟩ : ∃ y : Nat, av = (y : Int) := ⟨av.toNat, by omega⟩
            have hyn : y < nf := by have := HN.out; omega
            have hyi : (y : Int) < (nf : Int) := by omega
            have HDS : Hid (clL (code.drop i) = y :: clL (code.drop (i + 1))) := by
              have := HDR.out
              rw [if_pos rfl, Int.toNat_natCast] at this
              exact this
            have TV : Hid (Dt K w gS nf E a seen' todo' x (y :: clL (code.drop (i + 1))) (.slice (some ⟨g7, o7, none⟩) todo'.length k7) wr) := by have := HV.out; rw [HDS.out] at this; exact this
            clear HDR HCR HDS HV
            by_cases ca : y = a
            · have HCY : Hid (Cyc E a) := TV.out.wb.hit ca
              have BF := hide TV.out.b
              subst ca
              clear TV
              go_wp2_with fail
              go_ret
              exact ⟨⟨true, rfl, ⟨fun _ => HCY.out, fun _ => rfl⟩⟩, BF.out⟩
            · have f1 : ((y : Int) == (a : Int)) = false := beq_eq_false_iff_ne.2 (by omega)
              obtain ⟨s0, s1⟩ := TV.out.bm.at hyn
              cases hse : seen' y with
              | true =>
                rw [hse] at s0
                have RN : Hid (Dt K w gS nf E a seen' todo' x (clL (code.drop (i + 1))) (.slice (some ⟨g7, o7, none⟩) todo'.length k7) wr) := ⟨TV.out.wb.known ca hse, TV.out.bm, TV.out.q, TV.out.b, TV.out.m, TV.out.k⟩
                clear TV ca
                go_wp2_with fail
                go_roundw
                case rel => exact ⟨seen', todo', i + 1, by omega, by go_num, HM, RN⟩
                case measure => simp [intOf]; omega
              | false =>
                rw [hse] at s0
                obtain ⟨ds, hds, -⟩ := id TV.out.bm
                obtain ⟨W5, hW5⟩ : ∃ X, X = wr.setCell ⟨gS, y, none⟩ (.bool true) := ⟨_, rfl⟩
                have BM5 : Hid (Bm W5 gS nf (addS seen' y)) := by rw [hW5]; exact TV.out.bm.put hyn
                have Q5 : Hid (Qi W5 w.heap.size (.slice (some ⟨g7, o7, none⟩) todo'.length k7) todo') := TV.out.q.kind (fun g cs _ h => by rw [hW5]; exact setCell_kind wr gS _ _ hds h (by decide))
                have B5 : Hid (Below w.heap.size w W5) := by rw [hW5]; exact TV.out.b.setCell (by show _ ≤ gS; have := HGS.out; omega) _
                have K5 : Hid (W5.heap[gp]? = some (.cells #[.slice as' ns cs, .slice (some ⟨g1, o1, none⟩) nf cf] 25 (0, 0))) := by
                  have := TV.out.k
                  rw [HK.out] at this
                  rw [hW5]
                  exact setCell_kind wr gS _ _ hds this (by decide)
                have WP := hide (TV.out.wb.put ca hyn)
                have M5 : Hid (woM nf (addS seen' y) (todo' ++ [y]) = woM nf seen' todo') := woM_put hyn hse
                have M6 : Hid (todo'.length ≤ 1000000 ∧ woM nf seen' todo' ≤ 2001) := by have h1 := TV.out.m; have h2 := @woM_len nf seen' todo'; exact ⟨by omega, h1⟩
                obtain ⟨no, hno⟩ : ∃ x, x = todo'.length := ⟨_, rfl⟩
                rw [← hno] at Q5 ⊢
                clear hno
                go_upto_region 15 with fail
                rw [← hW5]
                clear hW5 s0 s1 hds TV c0 c1
                have BA : Hid (Below W5.heap.size W5 (W5.alloc (.cells #[.int .i64 (y : Int)] 3))) := below_alloc W5 _
                go_wp2_with (at_builtin; refine appendN rfl _ _ rfl w.heap.size _ todo' rfl ?q1 ⟨W5.heap.size, 0, none⟩ 1 y rfl ?q2 ?q3 ?q4 ?_)
                case q1 => exact Q5.out.later BA.out
                case q2 =>
                  intro j u hj
                  match j, hj with
                  | 0, hj => simp [nz] at hj; subst hj; simp [Addr.add]
                case q3 => exact M6.out.1
                case q4 => have h1 := B5.out.size; have h2 := BA.out.size; omega
                intro v6 w6 hq6 hg6 _
                have QA := Q5.out.later BA.out
                have RN : Hid (Dt K w gS nf (E) a (addS seen' y) (todo' ++ [y]) x (clL (code.drop (i + 1))) v6 w6) := by
                  refine ⟨WP.out, Bm.grown QA hg6 (BM5.out.later BA.out), hq6, ?_, by have h1 := M5.out; have h2 := M6.out.2; omega, ?_⟩
                  · have bb := below_on B5.out BA.out
                    refine bb.grown hg6 bb.size (fun j e => ?_)
                    obtain ⟨ga, oa, ca', ea, -, -, ha, -⟩ := QA.form
                    rw [ea] at e
                    simp only [Value.ownBlock, Option.some.injEq] at e
                    omega
                  · rw [HK.out]
                    have h1 := (BA.out.block gp (lt_of_block K5.out)).trans K5.out
                    exact Qi.grownK QA hg6 h1 (by decide)
                have M7 : Hid (woM nf (addS seen' y) (todo' ++ [y]) ≤ woM nf seen t) := by have h1 := M5.out; have h2 := HM.out; unfold Hid; omega
                obtain ⟨g9, o9, k9, rfl, -⟩ := hq6.form
                clear hq6 hg6 QA BA B5 Q5 BM5 K5 WP ca
                go_wp2_with fail
                go_roundw
                case rel => exact ⟨_, _, i + 1, by omega, by go_num, M7, RN⟩
                case measure => simp [intOf]; omega
          · have f21 : (op != 21) = true := by simp [c21]
            have RN : Hid (Dt K w gS nf E a seen' todo' x (clL (code.drop (i + 1))) (.slice (some ⟨g7, o7, none⟩) todo'.length k7) wr) := by
              have h := HV.out
              rw [HDR.out, if_neg c21] at h
              exact h
            clear HV HDR HCR c21
            go_wp2_with fail
            go_roundw
            case rel => exact ⟨seen', todo', i + 1, by omega, by go_num, HM, RN⟩
            case measure => simp [intOf]; omega
        · have hii : ¬ (i : Int) < (n5 : Int) := by omega
          have RN : Hid (Ds K w gS nf E a seen' todo' (.slice (some ⟨g7, o7, none⟩) todo'.length k7) wr) := by
            have h := HV.out
            have hd : code.drop i = [] := List.drop_eq_nil_of_le (by have := HN5.out; omega)
            rw [hd] at h
            exact ⟨h.wb.leave, h.bm, h.q, h.b, h.m, h.k⟩
          have M8 : Hid (woM nf seen' todo' < woM nf seen (x :: t)) := Nat.lt_of_le_of_lt HM.out MLT.out
          clear HV
          go_wp2_with fail
          go_roundg (woM nf seen' todo')
          case measure => exact M8.out
          case rel => exact ⟨seen', todo', rfl, RN⟩
end Go.Proofs.YtfkhhplcogedmaaGreatDoor

/-
  Verify: the document's round.
-/
namespace Go.Proofs.YtfkhhplcogedmaaGreatDoor
open Go.RowKit
set_option maxRecDepth 100000
theorem LR.grown {W W' : World} {v v6 : Value} {L : List Int} (h : LR W v L) (hg : W.grownBy W' v6.ownBlock) (ha : 0 < L.length → ∀ g, v.ownBlock = some g → v6.ownBlock ≠ some g) : LR W' v L := by
  obtain ⟨a, c, h1, h2, h3, h4⟩ := h
  refine ⟨a, c, h1, h2, h3, fun h0 => ?_⟩
  obtain ⟨g, cs, k1, k2, k3⟩ := h4 h0
  refine ⟨g, cs, k1, (hg.block g (lt_of_block k2) (fun e => ha h0 g (by rw [h1, k1]; rfl) e.symm)).trans k2, k3⟩
/-- A list beside the one that is looked through. -/
def Lx (W : World) (v : Value) (L : List Int) (v6 : Value) : Prop := LR W v L ∧ (0 < L.length → ∀ g, v.ownBlock = some g → v6.ownBlock ≠ some g)
set_option maxHeartbeats 8000000 in
theorem dround_any {Q Q' : Nat → Prop} {w : World} {vc vd : Value} {fs : List Rt} {c : List Ins} (h : Il Q w vc c) (hd : Nl Q' w vd ((List.range c.length).map fun p => dpR fs c p)) (hR : RD fs c) (hc : c.length ≤ 2000) (a : Nat) (ha : a < c.length) :
    Calls Tryz.prog 37 #[vc, vd, .int .i64 (a : Int)] w fun e w' => (∃ b : Bool, e = .returned (.bool b) ∧ (b = true ↔ Cyc (rdE fs c) a)) ∧ Below w.heap.size w w' := by
  have JN : Hid (∀ W i, Below w.heap.size w W → i < c.length → Calls Tryz.prog 63 #[vc, .int .i64 ((i : Nat) : Int)] W fun e w' => ∃ v, e = .returned v ∧ w'.ownsRow W.heap.size 3 1 v (nextD c i).length (zq (nextD c i)) ∧ Below W.heap.size W w') := fun W i hW hi => dnext_any (h.later hW) i hi hc
  obtain ⟨g0, o0, co, rfl, hc1, hc2, -⟩ := il_open h a ha
  have HI : Hid (∀ W i, Below w.heap.size w W → i < c.length → W.cell? ⟨g0, o0 + i * 2, none⟩ = some (.int .i64 (iat c i).op)) := fun W i hW hi => by
    obtain ⟨g1, o1, co1, e1, -, -, k1, -⟩ := il_open (h.later hW) i hi
    injection e1 with e1
    injection e1 with e1
    injection e1 with e1 e2
    subst e1 e2
    exact k1
  obtain ⟨gd, od, cd, rfl, hd1, hd2, HDP⟩ : ∃ gd od cd, vd = .slice (some ⟨gd, od, none⟩) c.length cd ∧ c.length ≤ cd ∧ cd ≤ 9223372036854775807 ∧ Hid (∀ W i, Below w.heap.size w W → i < c.length → W.cell? ⟨gd, od + i, none⟩ = some (.int .i64 (dpR fs c i))) := by
    obtain ⟨ao, cd, e, h1, h2, h3⟩ := hd
    rw [List.length_map, List.length_range] at e h1
    obtain ⟨gd, od, rfl, -, h4⟩ := h3 (by rw [List.length_map, List.length_range]; omega)
    refine ⟨gd, od, cd, e, h1, by unfold maxLen at h2; omega, fun W i hW hi => ?_⟩
    have h5 := (h4 i (by simpa using hi)).2
    rw [List.getElem_map, List.getElem_range] at h5
    exact (hW.cell (World.block_lt_of_cell? w _ h5)).trans h5
  obtain ⟨E, hE⟩ : ∃ E, E = rdE fs c := ⟨_, rfl⟩
  have HE : Hid (∀ x, E x = if dpR fs c x < 0 ∨ (iat c x).op = 24 ∨ (iat c x).op = 21 then [] else (nextD c x).map Int.toNat) := fun x => by rw [hE]; rfl
  have HRD := hide hR
  rw [← hE]
  obtain ⟨nf, hnf⟩ : ∃ n, n = c.length := ⟨_, rfl⟩
  have HN := hide hnf
  rw [← hnf] at JN HI HDP hc1 hd1 hc ha ⊢
  obtain ⟨ib, hib, hz0, hz1, hz2⟩ := info_parts infoBl
  have ti : (a : Int) < (nf : Int) := by omega
  clear h hd hR hE hnf
  go_enter Tryz.func37, Tryz.ntmps37
  go_wp2_with (refine wpList_make_cap _ rfl _ _ 126 rfl 4 ib _ Tryz.underlying126 hib hz0 .i64 .i64 _ _ nf nf rfl rfl rfl rfl (Nat.le_refl _) ?b2 ?b3 ?_)
  case b2 => rw [hz2]; omega
  case b3 => unfold maxLen; omega
  intro w1 hm1 hg1
  have BW1 : Hid (Below w.heap.size w w1) := Below.grown (Below.refl _ _) hg1 (Nat.le_refl _) (fun k e => by cases e)
  have BM1 : Hid (Bm w1 w.heap.size nf (fun _ => false)) := bm_made hm1.out
  obtain ⟨gS, hgS⟩ : ∃ x, x = w.heap.size := ⟨_, rfl⟩
  have HGS : Hid (w.heap.size ≤ gS) := by rw [hgS]; exact Nat.le_refl _
  rw [← hgS] at BM1 ⊢
  clear hm1 hg1 hgS
  have BA := hide (below_alloc w1 (.cells #[.int .i64 (a : Int)] 3))
  have D0 : Hid (Ds (fun _ => True) w gS nf E a (fun _ => false) [a] (.slice (some ⟨w1.heap.size, 0, none⟩) 1 1) (w1.alloc (.cells #[.int .i64 (a : Int)] 3))) := ⟨Wo.init ha, BM1.out.later BA.out, qi_one a BW1.out.size, below_on BW1.out BA.out, by rw [woM_init]; omega, trivial⟩
  go_wp2_with fail
  obtain ⟨W0, hW0⟩ : ∃ X, X = w1.alloc (.cells #[.int .i64 (a : Int)] 3) := ⟨_, rfl⟩
  obtain ⟨q0, hq0⟩ : ∃ X, X = w1.heap.size := ⟨_, rfl⟩
  rw [← hW0, ← hq0] at D0 ⊢
  clear hW0 hq0 BM1 BA BW1
  go_loopg [8] (woM nf (fun _ => false) [a]) (fun q v6 W => ∃ (seen : Nat → Bool) (todo : List Nat), q = woM nf seen todo ∧ Hid (Ds (fun _ => True) w gS nf E a seen todo v6 W))
  case atStart => exact ⟨_, _, rfl, D0⟩
  case round =>
    obtain ⟨seen, todo, rfl, HD⟩ := hrel
    clear D0
    cases todo with
    | nil =>
      obtain ⟨g, o, k, rfl, hk1, hk2, -⟩ := HD.out.q.form
      have HNO : Hid (¬ Cyc E a) := HD.out.wo.done
      have BF := hide HD.out.b
      clear HD
      go_wp2_with fail
      go_ret
      exact ⟨⟨false, rfl, ⟨fun e => (by cases e), fun e => absurd e HNO.out⟩⟩, BF.out⟩
    | cons x t =>
      have hx : x < nf := HD.out.wo.lt x (by simp)
      have hxf : x < c.length := by have := HN.out; omega
      obtain ⟨g, o, k, hv, hk1, hk2, -⟩ := HD.out.q.form
      rw [List.length_cons] at hv hk1
      subst hv
      have y0 := HD.out.q.head
      have z1 := HI.out wr x HD.out.b hx
      have z2 := HDP.out wr x HD.out.b hx
      have HEX := hide (HE.out x)
      have J1 := hide (JN.out wr x HD.out.b hx)
      obtain ⟨dx, hdx⟩ : ∃ y, y = dpR fs c x := ⟨_, rfl⟩
      have HDX := hide hdx
      obtain ⟨op, hop⟩ : ∃ y, y = (iat c x).op := ⟨_, rfl⟩
      rw [← hdx, ← hop] at HEX
      rw [← hdx] at z2
      rw [← hop] at z1
      have HOP := hide hop
      have hxi : (x : Int) < (nf : Int) := by omega
      obtain ⟨nt, hnt⟩ : ∃ y, y = t.length := ⟨_, rfl⟩
      rw [← hnt] at hk1 ⊢
      have t1 : (1 : Int) ≤ (nt : Int) + 1 := by omega
      have t2 : (0 : Int) < (nt : Int) + 1 := by omega
      have DN : Hid (Ds (fun _ => True) w gS nf E a seen (x :: t) (.slice (some ⟨g, o, none⟩) (nt + 1) k) wr) := by rw [hnt]; exact HD.out
      clear HD hnt hop hdx
      go_upto_region 5 with fail
      clear y0
      go_wp2_with (refine sliceN rfl _ rfl w.heap.size _ x t rfl DN.out.q ?_)
      intro v6 hq6
      have PT : Hid (Dt (fun _ => True) w gS nf E a seen t x (E x) v6 wr) := ⟨DN.out.wo.pop, DN.out.bm, hq6, DN.out.b, by have h1 := DN.out.m; have h2 := @woM_pop nf seen t x; omega, trivial⟩
      have MLT : Hid (woM nf seen t < woM nf seen (x :: t)) := by have h2 := @woM_pop nf seen t x; unfold Hid; omega
      obtain ⟨g6, o6, k6, rfl, -⟩ := hq6.form
      clear hq6 DN
      by_cases cd0 : dx < 0
      · skip
        have RN : Hid (Ds (fun _ => True) w gS nf E a seen t (.slice (some ⟨g6, o6, none⟩) t.length k6) wr) := by
          have h := PT.out
          rw [HEX.out, if_pos (.inl cd0)] at h
          exact ⟨h.wb.leave, h.bm, h.q, h.b, h.m, h.k⟩
        clear PT HEX J1
        go_wp2_with fail
        go_roundg (woM nf seen t)
        case measure => exact MLT.out
        case rel => exact ⟨seen, t, rfl, RN⟩
      by_cases c24 : op = 24
      · have f0 : (op == 24) = true := by simp [c24]
        have RN : Hid (Ds (fun _ => True) w gS nf E a seen t (.slice (some ⟨g6, o6, none⟩) t.length k6) wr) := by
          have h := PT.out
          rw [HEX.out, if_pos (.inr (.inl c24))] at h
          exact ⟨h.wb.leave, h.bm, h.q, h.b, h.m, h.k⟩
        clear PT HEX J1
        subst c24
        go_wp2_with fail
        go_roundg (woM nf seen t)
        case measure => exact MLT.out
        case rel => exact ⟨seen, t, rfl, RN⟩
      by_cases c21 : op = 21
      · have f0 : (op == 24) = false := beq_eq_false_iff_ne.2 c24
        have f1 : (op == 21) = true := by simp [c21]
        have RN : Hid (Ds (fun _ => True) w gS nf E a seen t (.slice (some ⟨g6, o6, none⟩) t.length k6) wr) := by
          have h := PT.out
          rw [HEX.out, if_pos (.inr (.inr c21))] at h
          exact ⟨h.wb.leave, h.bm, h.q, h.b, h.m, h.k⟩
        clear PT HEX J1
        subst c21
        go_wp2_with fail
        go_roundg (woM nf seen t)
        case measure => exact MLT.out
        case rel => exact ⟨seen, t, rfl, RN⟩
      have f0 : (op == 24) = false := beq_eq_false_iff_ne.2 c24
      have f1 : (op == 21) = false := beq_eq_false_iff_ne.2 c21
      have HRX : Hid (∀ y ∈ nextD c x, 0 ≤ y ∧ y < (c.length : Int)) := by
        have hr : Rcd fs c x := Classical.byContradiction fun q => cd0 (by rw [HDX.out]; exact dpR_neg.2 q)
        obtain ⟨d, hd⟩ := hr
        exact (HRD.out.ok hd).2.2
      have HEL : Hid (E x = (nextD c x).map Int.toNat) := by
        unfold Hid
        rw [HEX.out, if_neg (fun e => e.elim cd0 (fun e => e.elim c24 c21))]
      obtain ⟨L, hL⟩ : ∃ L, L = nextD c x := ⟨_, rfl⟩
      rw [← hL] at HRX HEL J1
      have HL2 : Hid (L.length ≤ 2) := by rw [hL]; exact nextD_len c x
      clear hL HEX c24 c21 HDX HOP
      go_wp2_with fail
      refine J1.out.mono ?_
      rintro e w3 ⟨v10, rfl, ho10, b10⟩
      have LX0 : Hid (Lx w3 v10 L (.slice (some ⟨g6, o6, none⟩) t.length k6)) := by
        refine ⟨own_LR ho10, fun _ g' e e' => ?_⟩
        have h1 := (ho10.lt g' e).1
        have h2 : g6 = g' := by simpa [Value.ownBlock] using e'
        obtain ⟨g8, o8, k8, e8, -, -, -, cs8, h8⟩ := PT.out.q.form
        simp only [Value.slice.injEq, Option.some.injEq, Addr.mk.injEq, and_true, true_and] at e8
        have h3 := lt_of_block h8
        omega
      have T0 : Hid (Dt (fun _ => True) w gS nf E a seen t x ((L.drop 0).map Int.toNat) (.slice (some ⟨g6, o6, none⟩) t.length k6) w3) := by
        have h := PT.out
        rw [HEL.out] at h
        exact ⟨h.wb, h.bm.later b10, h.q.later b10, below_on h.b b10, h.m, trivial⟩
      obtain ⟨a10, c10, hv10⟩ := own_len ho10
      obtain ⟨nl, hnl⟩ : ∃ n, n = L.length := ⟨_, rfl⟩
      have HNL := hide hnl
      rw [← hnl] at hv10 HL2
      subst hv10
      clear ho10 b10 J1 PT HEL hnl z1 z2
      go_wp2_with fail
      go_loopw [8, 11] (fun v6 v8 W => ∃ (seen' : Nat → Bool) (todo' : List Nat) (i : Nat), i ≤ nl ∧ v8 = .int .i64 (i : Int) ∧ Hid (woM nf seen' todo' ≤ woM nf seen t) ∧ Hid (Dt (fun _ => True) w gS nf E a seen' todo' x ((L.drop i).map Int.toNat) v6 W) ∧ Hid (Lx W (.slice a10 nl c10) L v6)) (fun _ v8 _ => nl - (intOf v8).toNat)
      case atStart => exact ⟨seen, t, 0, Nat.zero_le _, rfl, Nat.le_refl _, T0, LX0⟩
      case round =>
        obtain ⟨seen', todo', i, hi, rfl, HM, HV, HLX⟩ := hrel
        clear T0 LX0
        obtain ⟨g7, o7, k7, rfl, -⟩ := HV.out.q.form
        by_cases hlt : i < nl
        · have hii : (i : Int) < (nl : Int) := by omega
          have hic : i < L.length := by have := HNL.out; omega
          obtain ⟨g12, cc12, e12, e1, e2, x0, -⟩ := HLX.out.1.at hic
          rw [← HNL.out] at e12 e1
          injection e12 with e3 e4 e5
          subst e3 e5
          obtain ⟨hv1, hv2⟩ := HRX.out _ (List.getElem_mem hic)
          have HDR : Hid ((L.drop i).map Int.toNat = L[i].toNat :: (L.drop (i + 1)).map Int.toNat) := by unfold Hid; rw [List.drop_eq_getElem_cons hic, List.map_cons]
          obtain ⟨y, hy⟩ : ∃ y : Nat, L[i] = (y : Int) := ⟨L[i].toNat, by omega⟩
          rw [hy] at x0 HDR hv2
          rw [Int.toNat_natCast] at HDR
          have hyn : y < nf := by have := HN.out; omega
          have hyi : (y : Int) < (nf : Int) := by omega
          have TV : Hid (Dt (fun _ => True) w gS nf E a seen' todo' x (y :: (L.drop (i + 1)).map Int.toNat) (.slice (some ⟨g7, o7, none⟩) todo'.length k7) wr) := by have := HV.out; rw [HDR.out] at this; exact this
          have HIC := hide hic
          clear HDR HV hy hv1 hv2 hic
          by_cases ca : y = a
          · have HCY : Hid (Cyc E a) := TV.out.wb.hit ca
            have BF := hide TV.out.b
            subst ca
            clear TV
            go_wp2_with fail
            go_ret
            first | exact ⟨⟨true, rfl, ⟨fun _ => HCY.out, fun _ => rfl⟩⟩, BF.out⟩ | exact ⟨.inr ⟨rfl, HCY.out⟩, BF.out⟩
          · have f1 : ((y : Int) == (a : Int)) = false := beq_eq_false_iff_ne.2 (by omega)
            obtain ⟨s0, s1⟩ := TV.out.bm.at hyn
            cases hse : seen' y with
            | true =>
              rw [hse] at s0
              have RN : Hid (Dt (fun _ => True) w gS nf E a seen' todo' x ((L.drop (i + 1)).map Int.toNat) (.slice (some ⟨g7, o7, none⟩) todo'.length k7) wr) := ⟨TV.out.wb.known ca hse, TV.out.bm, TV.out.q, TV.out.b, TV.out.m, TV.out.k⟩
              clear TV ca
              go_wp2_with fail
              go_roundw
              case rel => exact ⟨seen', todo', i + 1, by omega, by go_num, HM, RN, HLX⟩
              case measure => simp [intOf]; omega
            | false =>
              rw [hse] at s0
              obtain ⟨ds, hds, -⟩ := id TV.out.bm
              obtain ⟨W5, hW5⟩ : ∃ X, X = wr.setCell ⟨gS, y, none⟩ (.bool true) := ⟨_, rfl⟩
              have BM5 : Hid (Bm W5 gS nf (addS seen' y)) := by rw [hW5]; exact TV.out.bm.put hyn
              have Q5 : Hid (Qi W5 w.heap.size (.slice (some ⟨g7, o7, none⟩) todo'.length k7) todo') := TV.out.q.kind (fun g cs _ h => by rw [hW5]; exact setCell_kind wr gS _ _ hds h (by decide))
              have B5 : Hid (Below w.heap.size w W5) := by rw [hW5]; exact TV.out.b.setCell (by show _ ≤ gS; have := HGS.out; omega) _
              have LX5 : Hid (Lx W5 (.slice (some ⟨g12, 0, none⟩) nl c10) L (.slice (some ⟨g7, o7, none⟩) todo'.length k7)) := ⟨HLX.out.1.kind (fun g cs h => by rw [hW5]; exact setCell_kind wr gS _ _ hds h (by decide)), HLX.out.2⟩
              have x5 : W5.cell? ⟨g12, i, none⟩ = some (.int .i64 (y : Int)) := by
                obtain ⟨ga, cca, ea, -, -, xa, cs', hcs'⟩ := HLX.out.1.at HIC.out
                injection ea with ea
                injection ea with ea
                injection ea with ea
                subst ea
                have hq := setCell_kind wr gS y (.bool true) hds hcs' (by decide)
                rw [← hW5] at hq
                rw [cell_of_row W5 _ _ _ 3 (0, 0) hq, ← cell_of_row wr _ _ _ 3 (0, 0) hcs']
                exact x0
              have WP := hide (TV.out.wb.put ca hyn)
              have M5 : Hid (woM nf (addS seen' y) (todo' ++ [y]) = woM nf seen' todo') := woM_put hyn hse
              have M6 : Hid (todo'.length ≤ 1000000 ∧ woM nf seen' todo' ≤ 2001) := by have h1 := TV.out.m; have h2 := @woM_len nf seen' todo'; exact ⟨by omega, h1⟩
              obtain ⟨no, hno⟩ : ∃ x, x = todo'.length := ⟨_, rfl⟩
              rw [← hno] at Q5 LX5 ⊢
              clear hno
              go_upto_region 15 with fail
              rw [← hW5]
              clear hW5 s0 s1 hds TV x0
              have BA : Hid (Below W5.heap.size W5 (W5.alloc (.cells #[.int .i64 (y : Int)] 3))) := below_alloc W5 _
              go_wp2_with (at_builtin; refine appendN rfl _ _ rfl w.heap.size _ todo' rfl ?q1 ⟨W5.heap.size, 0, none⟩ 1 y rfl ?q2 ?q3 ?q4 ?_)
              case q1 => exact Q5.out.later BA.out
              case q2 =>
                intro j u hj
                match j, hj with
                | 0, hj => simp [nz] at hj; subst hj; simp []
              case q3 => exact M6.out.1
              case q4 => have h1 := B5.out.size; have h2 := BA.out.size; omega
              intro v6 w6 hq6 hg6 hat6
              have QA := Q5.out.later BA.out
              have RN : Hid (Dt (fun _ => True) w gS nf (E) a (addS seen' y) (todo' ++ [y]) x ((L.drop (i + 1)).map Int.toNat) v6 w6) := by
                refine ⟨WP.out, Bm.grown QA hg6 (BM5.out.later BA.out), hq6, ?_, by have h1 := M5.out; have h2 := M6.out.2; omega, ?_⟩
                · have bb := below_on B5.out BA.out
                  refine bb.grown hg6 bb.size (fun j e => ?_)
                  obtain ⟨ga, oa, ca', ea, -, -, ha, -⟩ := QA.form
                  rw [ea] at e
                  simp only [Value.ownBlock, Option.some.injEq] at e
                  omega
                · trivial
              have RL : Hid (Lx w6 (.slice (some ⟨g12, 0, none⟩) nl c10) L v6) := by
                have hl : Lx (W5.alloc (.cells #[.int .i64 (y : Int)] 3)) (.slice (some ⟨g12, 0, none⟩) nl c10) L (.slice (some ⟨g7, o7, none⟩) no k7) := ⟨LX5.out.1.later BA.out, LX5.out.2⟩
                refine ⟨hl.1.grown hg6 hl.2, fun h0 g e e' => ?_⟩
                rcases hat6 with q | q
                · exact hl.2 h0 g e (q ▸ e')
                · obtain ⟨ga, cca, ea, -, -, -, cs', hcs'⟩ := hl.1.at h0
                  injection ea with ea
                  injection ea with ea
                  injection ea with ea
                  subst ea
                  have h1 := lt_of_block hcs'
                  rw [q] at e'
                  have e2 := Option.some.inj e'
                  have e3 : g12 = g := by simpa [Value.ownBlock] using e
                  have h1b : g12 < W5.heap.size + 1 := by simpa using h1
                  have h1c : (W5.alloc (.cells #[.int .i64 (y : Int)] 3)).heap.size = W5.heap.size + 1 := by simp
                  omega
              have M7 : Hid (woM nf (addS seen' y) (todo' ++ [y]) ≤ woM nf seen t) := by have h1 := M5.out; have h2 := HM.out; unfold Hid; omega
              obtain ⟨g9, o9, k9, rfl, -⟩ := hq6.form
              clear hq6 hg6 hat6 QA BA B5 Q5 BM5 LX5 x5 WP ca
              go_wp2_with fail
              go_roundw
              case rel => exact ⟨_, _, i + 1, by omega, by go_num, M7, RN, RL⟩
              case measure => simp [intOf]; omega
        · have hii : ¬ (i : Int) < (nl : Int) := by omega
          have RN : Hid (Ds (fun _ => True) w gS nf E a seen' todo' (.slice (some ⟨g7, o7, none⟩) todo'.length k7) wr) := by
            have h := HV.out
            have hd : L.drop i = [] := List.drop_eq_nil_of_le (by have := HNL.out; omega)
            rw [hd] at h
            exact ⟨h.wb.leave, h.bm, h.q, h.b, h.m, h.k⟩
          have M8 : Hid (woM nf seen' todo' < woM nf seen (x :: t)) := Nat.lt_of_le_of_lt HM.out MLT.out
          clear HV
          go_wp2_with fail
          go_roundg (woM nf seen' todo')
          case measure => exact M8.out
          case rel => exact ⟨seen', todo', rfl, RN⟩
end Go.Proofs.YtfkhhplcogedmaaGreatDoor
