/-
  Verify: the law's lent, of any size, its walk.
-/
import Derived.Test.YtfkhhplcogedmaaGreatDoorVdH
namespace Go.Proofs.YtfkhhplcogedmaaGreatDoor.Wd
open Go.RowKit
set_option maxRecDepth 100000
def Small5 (s : Sy) : Prop := s.wi.length ≤ 18000000000000 ∧ s.wo.length ≤ 18000000000000 ∧ s.re.length ≤ 18000000000000 ∧ s.wr.length ≤ 18000000000000 ∧ s.run.code.length ≤ 8800000000000
theorem Lq.qc {N : Nat} {w W W' : World} {gp gr gq : Nat} {vp1 vp2 vs vf v : Value} {ls : List (Sy × Lv)} {lf : List (Rt × Value)} {B e t n : Nat} {xs : List Value} (h : Lq N w W gp gr gq vp1 vp2 vs vf ls lf) (ho : W.ownsRow B e t v n xs) (he : e ≠ 25) (hg : W.grownBy W' v.ownBlock) : W'.cell? ⟨gq, 0, none⟩ = some vs ∧ W'.cell? ⟨gq, 1, none⟩ = some vf ∧ W'.frozen? ⟨gq, 0, none⟩ = false ∧ W'.frozen? ⟨gq, 1, none⟩ = false := by
  have hq := (mv_grown hg).at h.q (notPg ho h.q he)
  refine ⟨?_, ?_, frozen_of_row W' gq _ _ 25 hq, frozen_of_row W' gq _ _ 25 hq⟩ <;> rw [cell_of_row W' _ _ _ 25 (0, 0) hq] <;> rfl
/-- The answer is told. -/
theorem Lq.told {N : Nat} {w W : World} {gp gr gq : Nat} {vp1 vp2 vs vf : Value} {ls : List (Sy × Lv)} {lf : List (Rt × Value)} (h : Lq N w W gp gr gq vp1 vp2 vs vf ls lf) : ((W.setCell ⟨gr, 0, none⟩ vs).setCell ⟨gr, 1, none⟩ vf).heap[gr]? = some (.cells #[vs, vf] 25 (0, 0)) ∧ LS N ((W.setCell ⟨gr, 0, none⟩ vs).setCell ⟨gr, 1, none⟩ vf) vs ls ∧ LF N ((W.setCell ⟨gr, 0, none⟩ vs).setCell ⟨gr, 1, none⟩ vf) vf lf ∧ Below w.heap.size w ((W.setCell ⟨gr, 0, none⟩ vs).setCell ⟨gr, 1, none⟩ vf) := by
  obtain ⟨n1, n2, n3, n4⟩ := h.n
  have k1 := heap_setCell_same W gr 0 _ 25 vs h.r
  have k2 := heap_setCell_same (W.setCell ⟨gr, 0, none⟩ vs) gr 1 _ 25 vf k1
  have m1 := mv_set W gr 0 vs
  have m2 := mv_set (W.setCell ⟨gr, 0, none⟩ vs) gr 1 vf
  have m := m1.trans m2 (fun _ _ e => e)
  have li : ∀ j, Li N W j → ¬ j = gr := fun j hj => hj.notb h.r (by decide) (by decide)
  refine ⟨by rw [k2]; rfl, h.s.mv m li ?_, h.f.mv m li ?_, ?_⟩
  · rintro j e rfl
    exact notPg h.s.row h.r (by decide) e
  · rintro j e rfl
    exact notPg h.f.row h.r (by decide) e
  · exact (h.b.setCell (by show _ ≤ gr; omega) vs).setCell (by show _ ≤ gr; omega) vf
/-- A routine that is copied. -/
structure Fp (N : Nat) (w0 W : World) (gs : Nat) (x : Value) (r : Rt) (d : Nat) : Prop where
  blk : W.heap[gs]? = some (.cells #[.string r.name, .int .i64 r.pa, .int .i64 r.lo, x] 35 (0, 0))
  bel : Below w0.heap.size w0 W
  ge : w0.heap.size ≤ gs
  a1 : 1 ≤ d → Ix (Li N W) W x r.code
section
variable {N : Nat} {w0 W w' : World} {gs : Nat} {x y : Value} {r : Rt} {d : Nat}
theorem Fp.cells (h : Fp N w0 W gs x r d) : W.cell? ⟨gs, 0, none⟩ = some (.string r.name) ∧ W.cell? ⟨gs, 1, none⟩ = some (.int .i64 r.pa) ∧ W.cell? ⟨gs, 2, none⟩ = some (.int .i64 r.lo) ∧ W.cell? ⟨gs, 3, none⟩ = some x := by
  refine ⟨?_, ?_, ?_, ?_⟩ <;> rw [cell_of_row W _ _ _ 35 (0, 0) h.blk] <;> rfl
theorem Fp.later (h : Fp N w0 W gs x r d) (hb : Below W.heap.size W w') : Fp N w0 w' gs x r d := ⟨(hb.block _ (lt_of_block h.blk)).trans h.blk, below_on h.bel hb, h.ge, fun e => (h.a1 e).li (Mv.of_below hb (fun _ => False)) (fun _ _ e => e)⟩
theorem Fp.next (h : Fp N w0 W gs x r 0) (hy : Ix (Li N W) W y r.code) : Fp N w0 (W.setCell ⟨gs, 3, none⟩ y) gs y r 1 :=
  ⟨by rw [heap_setCell_same W gs 3 _ 35 y h.blk]; rfl, h.bel.setCell h.ge y, h.ge, fun _ => hy.li (mv_set W gs 3 y) (fun j hj => hj.notb h.blk (by decide) (by decide))⟩
end
/-- The lists of a system. -/
def lvS (x : Sy × Lv) : List Value := [x.2.v1, x.2.v2, x.2.v3, x.2.v4, x.2.vc]
/-- Lists of one's own, each in a block newer than those before. -/
def Rs (m : Nat) (l : List Value) : Prop := ∃ bks : List Nat, l.map Value.ownBlock = bks.map some ∧ bks.Pairwise (· < ·) ∧ ∀ b ∈ bks, b < m
theorem Rs.nil (m : Nat) : Rs m [] := ⟨[], rfl, List.Pairwise.nil, by simp⟩
theorem Rs.le {m m' : Nat} {l : List Value} (h : Rs m l) (hm : m ≤ m') : Rs m' l := by
  obtain ⟨bks, e, p, q⟩ := h
  exact ⟨bks, e, p, fun b hb => Nat.lt_of_lt_of_le (q b hb) hm⟩
theorem Rs.push {m m' g : Nat} {l : List Value} {v : Value} (h : Rs m l) (hv : v.ownBlock = some g) (h1 : m ≤ g) (h2 : g < m') : Rs m' (l ++ [v]) := by
  obtain ⟨bks, e, p, q⟩ := h
  refine ⟨bks ++ [g], by rw [List.map_append, List.map_append, e]; simp [hv], List.pairwise_append.2 ⟨p, List.pairwise_singleton _ _, fun a ha b hb => ?_⟩, fun b hb => ?_⟩
  · obtain rfl := List.mem_singleton.1 hb
    have := q a ha
    omega
  · rcases List.mem_append.1 hb with hb | hb
    · have := q b hb
      omega
    · obtain rfl := List.mem_singleton.1 hb
      exact h2
theorem Rs.lt {m i : Nat} {l : List Value} (h : Rs m l) (hi : i < l.length) : ∃ b, l[i].ownBlock = some b ∧ b < m := by
  obtain ⟨bks, e, -, q⟩ := h
  have hl : l.length = bks.length := by have := congrArg List.length e; simpa using this
  have e1 : (l.map Value.ownBlock)[i]? = (bks.map some)[i]? := by rw [e]
  rw [List.getElem?_map, List.getElem?_map, List.getElem?_eq_getElem hi, List.getElem?_eq_getElem (by omega)] at e1
  exact ⟨bks[i], by simpa using e1, q _ (List.getElem_mem _)⟩
theorem Rs.ne {m i j : Nat} {l : List Value} (h : Rs m l) (hi : i < l.length) (hj : j < l.length) (hne : i ≠ j) : l[i].ownBlock ≠ l[j].ownBlock := by
  obtain ⟨bks, e, p, -⟩ := h
  have hl : l.length = bks.length := by have := congrArg List.length e; simpa using this
  have key : ∀ k (hk : k < l.length), l[k].ownBlock = some (bks[k]'(by omega)) := fun k hk => by
    have e1 : (l.map Value.ownBlock)[k]? = (bks.map some)[k]? := by rw [e]
    rw [List.getElem?_map, List.getElem?_map, List.getElem?_eq_getElem hk, List.getElem?_eq_getElem (by omega)] at e1
    simpa using e1
  rw [key i hi, key j hj]
  intro e2
  injection e2 with e2
  have hp := List.pairwise_iff_getElem.1 p
  rcases Nat.lt_or_gt_of_ne hne with h1 | h1
  · have := hp i j (by omega) (by omega) h1
    omega
  · have := hp j i (by omega) (by omega) h1
    omega
set_option maxHeartbeats 8000000 in
theorem lent_any {Q : Nat → Prop} {w : World} {ns cs nf cf : Nat} {sa fa : Option Addr} (sys : List Sy) (fns : List Rt) (hns : ns = sys.length) (hnf : nf = fns.length) (_hc1 : ns ≤ cs) (_hc2 : cs ≤ 9223372036854775807) (_hc3 : nf ≤ cf) (_hc4 : cf ≤ 9223372036854775807) (hS : Sys Q w (.slice sa ns cs) sys) (hF : Rts Q w (.slice fa nf cf) fns) (hn1 : ns ≤ 930000000000) (hn2 : nf ≤ 2600000000000) (hz1 : ∀ s ∈ sys, Small5 s) (hz2 : ∀ r ∈ fns, r.code.length ≤ 8800000000000) :
    Calls Tryz.prog 5 #[.agg #[.slice sa ns cs, .slice fa nf cf]] w fun e w' => ∃ gs gf c1 c2 ls lf, e = .returned (.agg #[.slice (some ⟨gs, 0, none⟩) ns c1, .slice (some ⟨gf, 0, none⟩) nf c2]) ∧ LS w.heap.size w' (.slice (some ⟨gs, 0, none⟩) ns c1) ls ∧ LF w.heap.size w' (.slice (some ⟨gf, 0, none⟩) nf c2) lf ∧ ls.map Prod.fst = sys ∧ lf.map Prod.fst = fns ∧ (BhS w' gs ns ∧ BhF w' gf nf ∧ ns + 1 ≤ c1 ∧ nf + 1 ≤ c2 ∧ c1 ≤ 9223372036854775807 ∧ c2 ≤ 9223372036854775807) ∧ Below w.heap.size w w' ∧ Rs w'.heap.size ((ls.flatMap lvS) ++ lf.map Prod.snd) := by
  obtain ⟨iy, hiy, hy0, hy1, hy2⟩ := info_parts infoSys
  obtain ⟨iu, hiu, hu0, hu1, hu2⟩ := info_parts infoRou
  have HS := hide hS
  have HF := hide hF
  have HNS := hide hns
  have HNF := hide hnf
  have HZ1 := hide hz1
  have HZ2 := hide hz2
  obtain ⟨N, hN⟩ : ∃ x, x = w.heap.size := ⟨_, rfl⟩
  have HN := hide hN
  obtain ⟨w3, hw3⟩ : ∃ X, X = ((w.alloc (.cells #[.slice sa ns cs, .slice fa nf cf] 25)).alloc (.cells #[.slice none 0 0, .slice none 0 0] 25)).alloc (.cells #[.slice none 0 0, .slice none 0 0] 25) := ⟨_, rfl⟩
  obtain ⟨gp, hgp⟩ : ∃ x, x = w.heap.size := ⟨_, rfl⟩
  obtain ⟨gr, hgr⟩ : ∃ x, x = w.heap.size + 1 := ⟨_, rfl⟩
  obtain ⟨gq, hgq⟩ : ∃ x, x = w.heap.size + 1 + 1 := ⟨_, rfl⟩
  have L0 : Hid (Lq N w w3 gp gr gq (.slice sa ns cs) (.slice fa nf cf) (.slice none 0 0) (.slice none 0 0) [] []) := by
    have b1 := below_alloc w (.cells #[.slice sa ns cs, .slice fa nf cf] 25)
    have b2 := below_alloc (w.alloc (.cells #[.slice sa ns cs, .slice fa nf cf] 25)) (.cells #[.slice none 0 0, .slice none 0 0] 25)
    have b3 := below_alloc ((w.alloc (.cells #[.slice sa ns cs, .slice fa nf cf] 25)).alloc (.cells #[.slice none 0 0, .slice none 0 0] 25)) (.cells #[.slice none 0 0, .slice none 0 0] 25)
    have k1 := heap_alloc_new w (.cells #[.slice sa ns cs, .slice fa nf cf] 25)
    have k2 := heap_alloc_new (w.alloc (.cells #[.slice sa ns cs, .slice fa nf cf] 25)) (.cells #[.slice none 0 0, .slice none 0 0] 25)
    have k3 := heap_alloc_new ((w.alloc (.cells #[.slice sa ns cs, .slice fa nf cf] 25)).alloc (.cells #[.slice none 0 0, .slice none 0 0] 25)) (.cells #[.slice none 0 0, .slice none 0 0] 25)
    have e2 : gr = (w.alloc (.cells #[.slice sa ns cs, .slice fa nf cf] 25)).heap.size := by rw [hgr]; simp
    have e3 : gq = ((w.alloc (.cells #[.slice sa ns cs, .slice fa nf cf] 25)).alloc (.cells #[.slice none 0 0, .slice none 0 0] 25)).heap.size := by rw [hgq]; simp
    have b23 := below_on b2 b3
    rw [hw3]
    exact ⟨(b23.block gp (by rw [hgp]; exact lt_of_block k1)).trans (by rw [hgp]; exact k1), (b3.block gr (by rw [e2]; exact lt_of_block k2)).trans (by rw [e2]; exact k2), by rw [e3]; exact k3, LS.nil, LF.nil, below_on b1 b23, hN, by omega, by omega, by omega⟩
  obtain ⟨x0, x1, x2, x3⟩ := L0.out.cells
  clear hS hF hns hnf hz1 hz2 hN
  go_enter Tryz.func5, Tryz.ntmps5
  go_upto_region 2 with fail
  rw [← hw3, ← hgq, ← hgr, ← hgp]
  clear hw3 hgq hgr hgp
  go_wp2_with fail
  clear x0 x1 x2 x3
  go_loopw [4] (fun v4 W => ∃ (i : Nat) (vs : Value) (ls : List (Sy × Lv)), i ≤ ns ∧ v4 = .int .i64 (i : Int) ∧ Hid (ls.map Prod.fst = sys.take i) ∧ Hid (Lq N w W gp gr gq (.slice sa ns cs) (.slice fa nf cf) vs (.slice none 0 0) ls []) ∧ Hid (Rs W.heap.size (ls.flatMap lvS))) (fun v4 _ => ns - (intOf v4).toNat)
  case atStart => exact ⟨0, _, [], Nat.zero_le _, rfl, rfl, L0, Rs.nil _⟩
  case round =>
    obtain ⟨i, vs, ls, hi, rfl, HL, HR, HRS⟩ := hrel
    clear L0
    obtain ⟨x0, x1, x2, x3⟩ := HR.out.cells
    by_cases hlt : i < ns
    · have t1 : (i : Int) < (ns : Int) := by omega
      have his : i < sys.length := by have := HNS.out; omega
      obtain ⟨g, o, rfl, -, hat⟩ := HS.out.nth his
      obtain ⟨a1, a2, a3, a4, a5, n1, n2, n3, n4, n5, k1, k2, k3, k4, k5, HV, y1, y2, y3, y4, y5, y6, y7, y8⟩ := hat.vs
      have hM := Mv.of_below HR.out.b (fun _ => False)
      have z1 := hM.cell y1 id
      have z2 := hM.cell y2 id
      have z3 := hM.cell y3 id
      have z4 := hM.cell y4 id
      have z5 := hM.cell y5 id
      have z6 := hM.cell y6 id
      have z7 := hM.cell y7 id
      have z8 := hM.cell y8 id
      have HVV := hide HV
      have HZ5 : Hid (Small5 sys[i]) := HZ1.out _ (List.getElem_mem his)
      have HT : Hid (sys.take (i + 1) = sys.take i ++ [sys[i]]) := List.take_succ_eq_append_getElem his
      clear hat HV hM y1 y2 y3 y4 y5 y6 y7 y8
      generalize sys[i] = s at *
      obtain ⟨wi, wo, re, wrt, nm, pa, lo, code⟩ := s
      dsimp only at z1 z2 z3 z4 z5 z6 z7 z8
      obtain ⟨W0, hW0⟩ : ∃ X, X = wr.alloc (.cells #[.slice a1 n1 k1, .slice a2 n2 k2, .slice a3 n3 k3, .slice a4 n4 k4, .string nm, .int .i64 pa, .int .i64 lo, .slice a5 n5 k5] 38) := ⟨_, rfl⟩
      obtain ⟨gs, hgs⟩ : ∃ x, x = wr.heap.size := ⟨_, rfl⟩
      have SP0 : Hid (Sp N wr W0 gs ⟨.slice a1 n1 k1, .slice a2 n2 k2, .slice a3 n3 k3, .slice a4 n4 k4, .slice a5 n5 k5⟩ ⟨wi, wo, re, wrt, ⟨nm, pa, lo, code⟩⟩ 0) := by
        rw [hW0]
        exact ⟨by rw [hgs]; exact heap_alloc_new wr _, below_alloc wr _, by omega, fun e => absurd e (by omega), fun e => absurd e (by omega), fun e => absurd e (by omega), fun e => absurd e (by omega), fun e => absurd e (by omega)⟩
      go_upto_region 6 with fail
      rw [← hW0, ← hgs]
      clear hW0 hgs z1 z2 z3 z4 z5 z6 z7 z8 x0 x1 x2 x3
      have HNW : Hid (N ≤ wr.heap.size) := by have h1 := HR.out.n.1; have h2 := HR.out.b.size; unfold Hid; omega
      have hzz := HZ5.out
      unfold Small5 at hzz
      dsimp only at hzz
      obtain ⟨hq1, hq2, hq3, hq4, hq5⟩ := hzz
      have hl1 : n1 = wi.length := nl_len HVV.out.w
      have J1 := hide (lsetW_any wi (HVV.out.w.later (below_on HR.out.b SP0.out.bel)) hl1 (by omega))
      obtain ⟨c0, c1, c2, c3, c4, c5, c6, c7⟩ := SP0.out.cells
      dsimp only at c0 c1 c2 c3 c4 c5 c6 c7
      clear hl1
      go_wp2_with fail
      refine J1.out.mono ?_
      rintro e w1 ⟨g1, d1, rfl, lk, nl, q1, q2, bb⟩
      have SA := hide (SP0.out.later bb)
      have SP1 := hide (SA.out.next1 (y := .slice (some ⟨g1, 0, none⟩) n1 d1) (nl.mono (fun j e => e ▸ Or.inl ⟨by have h1 := HNW.out; have h2 := SP0.out.bel.size; have h3 := lk.1; omega, lk.2⟩)))
      obtain ⟨W1, hW1⟩ : ∃ X, X = w1.setCell ⟨gs, 0, none⟩ (.slice (some ⟨g1, 0, none⟩) n1 d1) := ⟨_, rfl⟩
      rw [← hW1] at SP1
      have RS1 : Hid (Rs W1.heap.size (ls.flatMap lvS ++ [.slice (some ⟨g1, 0, none⟩) n1 d1])) := by
        obtain ⟨cs, u4⟩ := lk.2
        unfold Hid
        rw [hW1, World.size_setCell]
        exact HRS.out.push (g := g1) rfl (by have u1 := SP0.out.bel.size; have u2 := lk.1; omega) (lt_of_block u4)
      clear c0 c1 c2 c3 c4 c5 c6 c7
      obtain ⟨c0, c1, c2, c3, c4, c5, c6, c7⟩ := SA.out.cells
      dsimp only at c0 c1 c2 c3 c4 c5 c6 c7
      have hfr := frozen_of_row w1 gs 0 _ 38 SA.out.blk
      clear lk nl bb J1
      go_upto_region 7 with fail
      rw [← hW1]
      clear hW1 c0 c1 c2 c3 c4 c5 c6 c7 hfr SA SP0
      have hl2 : n2 = wo.length := nl_len HVV.out.wo
      have J2 := hide (lsetW_any wo (HVV.out.wo.later (below_on HR.out.b SP1.out.bel)) hl2 (by omega))
      obtain ⟨c0, c1, c2, c3, c4, c5, c6, c7⟩ := SP1.out.cells
      dsimp only at c0 c1 c2 c3 c4 c5 c6 c7
      clear hl2
      go_wp2_with fail
      refine J2.out.mono ?_
      rintro e w2 ⟨g2, d2, rfl, lk, nl, q1, q2, bb⟩
      have SA := hide (SP1.out.later bb)
      have SP2 := hide (SA.out.next2 (y := .slice (some ⟨g2, 0, none⟩) n2 d2) (nl.mono (fun j e => e ▸ Or.inl ⟨by have h1 := HNW.out; have h2 := SP1.out.bel.size; have h3 := lk.1; omega, lk.2⟩)))
      obtain ⟨W2, hW2⟩ : ∃ X, X = w2.setCell ⟨gs, 1, none⟩ (.slice (some ⟨g2, 0, none⟩) n2 d2) := ⟨_, rfl⟩
      rw [← hW2] at SP2
      have RS2 : Hid (Rs W2.heap.size ((ls.flatMap lvS ++ [.slice (some ⟨g1, 0, none⟩) n1 d1]) ++ [.slice (some ⟨g2, 0, none⟩) n2 d2])) := by
        obtain ⟨cs, u4⟩ := lk.2
        unfold Hid
        rw [hW2, World.size_setCell]
        exact RS1.out.push (g := g2) rfl lk.1 (lt_of_block u4)
      clear RS1
      clear c0 c1 c2 c3 c4 c5 c6 c7
      obtain ⟨c0, c1, c2, c3, c4, c5, c6, c7⟩ := SA.out.cells
      dsimp only at c0 c1 c2 c3 c4 c5 c6 c7
      have hfr := frozen_of_row w2 gs 1 _ 38 SA.out.blk
      clear lk nl bb J2
      go_upto_region 8 with fail
      rw [← hW2]
      clear hW2 c0 c1 c2 c3 c4 c5 c6 c7 hfr SA SP1
      have hl3 : n3 = re.length := nl_len HVV.out.re
      have J3 := hide (lsetW_any re (HVV.out.re.later (below_on HR.out.b SP2.out.bel)) hl3 (by omega))
      obtain ⟨c0, c1, c2, c3, c4, c5, c6, c7⟩ := SP2.out.cells
      dsimp only at c0 c1 c2 c3 c4 c5 c6 c7
      clear hl3
      go_wp2_with fail
      refine J3.out.mono ?_
      rintro e w3 ⟨g3, d3, rfl, lk, nl, q1, q2, bb⟩
      have SA := hide (SP2.out.later bb)
      have SP3 := hide (SA.out.next3 (y := .slice (some ⟨g3, 0, none⟩) n3 d3) (nl.mono (fun j e => e ▸ Or.inl ⟨by have h1 := HNW.out; have h2 := SP2.out.bel.size; have h3 := lk.1; omega, lk.2⟩)))
      obtain ⟨W3, hW3⟩ : ∃ X, X = w3.setCell ⟨gs, 2, none⟩ (.slice (some ⟨g3, 0, none⟩) n3 d3) := ⟨_, rfl⟩
      rw [← hW3] at SP3
      have RS3 : Hid (Rs W3.heap.size (((ls.flatMap lvS ++ [.slice (some ⟨g1, 0, none⟩) n1 d1]) ++ [.slice (some ⟨g2, 0, none⟩) n2 d2]) ++ [.slice (some ⟨g3, 0, none⟩) n3 d3])) := by
        obtain ⟨cs, u4⟩ := lk.2
        unfold Hid
        rw [hW3, World.size_setCell]
        exact RS2.out.push (g := g3) rfl lk.1 (lt_of_block u4)
      clear RS2
      clear c0 c1 c2 c3 c4 c5 c6 c7
      obtain ⟨c0, c1, c2, c3, c4, c5, c6, c7⟩ := SA.out.cells
      dsimp only at c0 c1 c2 c3 c4 c5 c6 c7
      have hfr := frozen_of_row w3 gs 2 _ 38 SA.out.blk
      clear lk nl bb J3
      go_upto_region 9 with fail
      rw [← hW3]
      clear hW3 c0 c1 c2 c3 c4 c5 c6 c7 hfr SA SP2
      have hl4 : n4 = wrt.length := nl_len HVV.out.wr
      have J4 := hide (lsetW_any wrt (HVV.out.wr.later (below_on HR.out.b SP3.out.bel)) hl4 (by omega))
      obtain ⟨c0, c1, c2, c3, c4, c5, c6, c7⟩ := SP3.out.cells
      dsimp only at c0 c1 c2 c3 c4 c5 c6 c7
      clear hl4
      go_wp2_with fail
      refine J4.out.mono ?_
      rintro e w4 ⟨g4, d4, rfl, lk, nl, q1, q2, bb⟩
      have SA := hide (SP3.out.later bb)
      have SP4 := hide (SA.out.next4 (y := .slice (some ⟨g4, 0, none⟩) n4 d4) (nl.mono (fun j e => e ▸ Or.inl ⟨by have h1 := HNW.out; have h2 := SP3.out.bel.size; have h3 := lk.1; omega, lk.2⟩)))
      obtain ⟨W4, hW4⟩ : ∃ X, X = w4.setCell ⟨gs, 3, none⟩ (.slice (some ⟨g4, 0, none⟩) n4 d4) := ⟨_, rfl⟩
      rw [← hW4] at SP4
      have RS4 : Hid (Rs W4.heap.size ((((ls.flatMap lvS ++ [.slice (some ⟨g1, 0, none⟩) n1 d1]) ++ [.slice (some ⟨g2, 0, none⟩) n2 d2]) ++ [.slice (some ⟨g3, 0, none⟩) n3 d3]) ++ [.slice (some ⟨g4, 0, none⟩) n4 d4])) := by
        obtain ⟨cs, u4⟩ := lk.2
        unfold Hid
        rw [hW4, World.size_setCell]
        exact RS3.out.push (g := g4) rfl lk.1 (lt_of_block u4)
      clear RS3
      clear c0 c1 c2 c3 c4 c5 c6 c7
      obtain ⟨c0, c1, c2, c3, c4, c5, c6, c7⟩ := SA.out.cells
      dsimp only at c0 c1 c2 c3 c4 c5 c6 c7
      have hfr := frozen_of_row w4 gs 3 _ 38 SA.out.blk
      clear lk nl bb J4
      go_upto_region 10 with fail
      rw [← hW4]
      clear hW4 c0 c1 c2 c3 c4 c5 c6 c7 hfr SA SP3
      have hl5 : n5 = code.length := il_len HVV.out.co
      have J5 := hide (lrowW_any code (HVV.out.co.later (below_on HR.out.b SP4.out.bel)) hl5 (by omega))
      obtain ⟨c0, c1, c2, c3, c4, c5, c6, c7⟩ := SP4.out.cells
      dsimp only at c0 c1 c2 c3 c4 c5 c6 c7
      clear hl5
      go_wp2_with fail
      refine J5.out.mono ?_
      rintro e w5 ⟨g5, d5, rfl, lk, nl, q1, q2, bb⟩
      have SA := hide (SP4.out.later bb)
      have SP5 := hide (SA.out.next5 (y := .slice (some ⟨g5, 0, none⟩) n5 d5) (nl.mono (fun j e => e ▸ Or.inr ⟨by have h1 := HNW.out; have h2 := SP4.out.bel.size; have h3 := lk.1; omega, lk.2⟩)))
      obtain ⟨W5, hW5⟩ : ∃ X, X = w5.setCell ⟨gs, 7, none⟩ (.slice (some ⟨g5, 0, none⟩) n5 d5) := ⟨_, rfl⟩
      rw [← hW5] at SP5
      have RS5 : Hid (Rs W5.heap.size (((((ls.flatMap lvS ++ [.slice (some ⟨g1, 0, none⟩) n1 d1]) ++ [.slice (some ⟨g2, 0, none⟩) n2 d2]) ++ [.slice (some ⟨g3, 0, none⟩) n3 d3]) ++ [.slice (some ⟨g4, 0, none⟩) n4 d4]) ++ [.slice (some ⟨g5, 0, none⟩) n5 d5])) := by
        obtain ⟨cs, u4⟩ := lk.2
        unfold Hid
        rw [hW5, World.size_setCell]
        exact RS4.out.push (g := g5) rfl lk.1 (lt_of_block u4)
      clear RS4
      clear c0 c1 c2 c3 c4 c5 c6 c7
      obtain ⟨c0, c1, c2, c3, c4, c5, c6, c7⟩ := SA.out.cells
      dsimp only at c0 c1 c2 c3 c4 c5 c6 c7
      have hfr := frozen_of_row w5 gs 7 _ 38 SA.out.blk
      clear lk nl bb J5
      go_upto_region 11 with fail
      rw [← hW5]
      clear hW5 c0 c1 c2 c3 c4 c5 c6 c7 hfr SA SP4
      have HR5 := hide (HR.out.later SP5.out.bel)
      obtain ⟨c0, c1, c2, c3, c4, c5, c6, c7⟩ := SP5.out.cells
      dsimp only at c0 c1 c2 c3 c4 c5 c6 c7
      obtain ⟨-, -, x2, -⟩ := HR5.out.cells
      have hll : ls.length = i := by
        have := congrArg List.length HL.out
        rw [List.length_map, List.length_take] at this
        omega
      have HLL := hide hll
      obtain ⟨av, cv, hvs⟩ := own_len HR5.out.s.row
      rw [hll] at hvs
      subst hvs
      obtain ⟨W6, hW6⟩ : ∃ X, X = W5.alloc (.cells #[.slice (some ⟨g1, 0, none⟩) n1 d1, .slice (some ⟨g2, 0, none⟩) n2 d2, .slice (some ⟨g3, 0, none⟩) n3 d3, .slice (some ⟨g4, 0, none⟩) n4 d4, .string nm, .int .i64 pa, .int .i64 lo, .slice (some ⟨g5, 0, none⟩) n5 d5] 38) := ⟨_, rfl⟩
      have B6 : Hid (Below W5.heap.size W5 W6) := by unfold Hid; rw [hW6]; exact below_alloc W5 _
      have HR6 := hide (HR5.out.later B6.out)
      have SY6 : Hid (SyL N W6 (⟨wi, wo, re, wrt, ⟨nm, pa, lo, code⟩⟩, ⟨.slice (some ⟨g1, 0, none⟩) n1 d1, .slice (some ⟨g2, 0, none⟩) n2 d2, .slice (some ⟨g3, 0, none⟩) n3 d3, .slice (some ⟨g4, 0, none⟩) n4 d4, .slice (some ⟨g5, 0, none⟩) n5 d5⟩)) := (SP5.out.later B6.out).done HVV.out.pa HVV.out.lo
      have HC6 : Hid (∀ j u, (lvC (⟨wi, wo, re, wrt, ⟨nm, pa, lo, code⟩⟩, ⟨.slice (some ⟨g1, 0, none⟩) n1 d1, .slice (some ⟨g2, 0, none⟩) n2 d2, .slice (some ⟨g3, 0, none⟩) n3 d3, .slice (some ⟨g4, 0, none⟩) n4 d4, .slice (some ⟨g5, 0, none⟩) n5 d5⟩))[j]? = some u → W6.cell? ((⟨W5.heap.size, 0, none⟩ : Addr).add j) = some u) := by unfold Hid; rw [hW6]; exact cells_new W5 #[.slice (some ⟨g1, 0, none⟩) n1 d1, .slice (some ⟨g2, 0, none⟩) n2 d2, .slice (some ⟨g3, 0, none⟩) n3 d3, .slice (some ⟨g4, 0, none⟩) n4 d4, .string nm, .int .i64 pa, .int .i64 lo, .slice (some ⟨g5, 0, none⟩) n5 d5] 38
      have OW6 : Hid (W6.ownsRow N 38 8 (.slice av i cv) i (fl lvC ls)) := by have := HR6.out.s.row; rw [HLL.out] at this; exact this
      have BN : Hid (N ≤ W6.heap.size) := by have h1 := HR6.out.n.1; have h2 := HR6.out.b.size; unfold Hid; omega
      clear hll HR HR5 SP5
      go_wp2_with (at_builtin; rw [← hW6]; refine wpList_append_own_wide _ rfl _ _ 22 rfl N 38 iy (.agg #[.slice none 0 0, .slice none 0 0, .slice none 0 0, .slice none 0 0, .string ⟨#[]⟩, .int .i64 0, .int .i64 0, .slice none 0 0]) 8 152 Tryz.underlying22 hiy hy0 hy1 hy2 rfl (by decide) _ i (fl lvC ls) rfl OW6.out ⟨W5.heap.size, 0, none⟩ 1 1 (lvC (⟨wi, wo, re, wrt, ⟨nm, pa, lo, code⟩⟩, ⟨.slice (some ⟨g1, 0, none⟩) n1 d1, .slice (some ⟨g2, 0, none⟩) n2 d2, .slice (some ⟨g3, 0, none⟩) n3 d3, .slice (some ⟨g4, 0, none⟩) n4 d4, .slice (some ⟨g5, 0, none⟩) n5 d5⟩)) rfl rfl HC6.out SY6.out.one ?s3 ?s4 BN.out ?_)
      case s3 => unfold maxLen; omega
      case s4 => omega
      intro v7 w7 o7 g7 _
      rw [← hW6] at g7
      have LS7 : Hid (LS N w7 v7 (ls ++ ([(⟨wi, wo, re, wrt, ⟨nm, pa, lo, code⟩⟩, ⟨.slice (some ⟨g1, 0, none⟩) n1 d1, .slice (some ⟨g2, 0, none⟩) n2 d2, .slice (some ⟨g3, 0, none⟩) n3 d3, .slice (some ⟨g4, 0, none⟩) n4 d4, .slice (some ⟨g5, 0, none⟩) n5 d5⟩)] : List (Sy × Lv)))) := HR6.out.s.push SY6.out (by rw [HLL.out]; exact o7) g7
      have LQ7 := hide (HR6.out.putS g7 LS7.out)
      obtain ⟨f0, f1, f2, f3⟩ := HR6.out.qc OW6.out (by decide) g7
      have HMP : Hid ((ls ++ ([(⟨wi, wo, re, wrt, ⟨nm, pa, lo, code⟩⟩, ⟨.slice (some ⟨g1, 0, none⟩) n1 d1, .slice (some ⟨g2, 0, none⟩) n2 d2, .slice (some ⟨g3, 0, none⟩) n3 d3, .slice (some ⟨g4, 0, none⟩) n4 d4, .slice (some ⟨g5, 0, none⟩) n5 d5⟩)] : List (Sy × Lv))).map Prod.fst = sys.take (i + 1)) := by unfold Hid; rw [HT.out, List.map_append, HL.out]; rfl
      have HRS7 : Hid (Rs (w7.setCell ⟨gq, 0, none⟩ v7).heap.size ((ls ++ ([(⟨wi, wo, re, wrt, ⟨nm, pa, lo, code⟩⟩, ⟨.slice (some ⟨g1, 0, none⟩) n1 d1, .slice (some ⟨g2, 0, none⟩) n2 d2, .slice (some ⟨g3, 0, none⟩) n3 d3, .slice (some ⟨g4, 0, none⟩) n4 d4, .slice (some ⟨g5, 0, none⟩) n5 d5⟩)] : List (Sy × Lv))).flatMap lvS)) := by
        unfold Hid
        rw [World.size_setCell, List.flatMap_append]
        have := RS5.out.le (m' := w7.heap.size) (by have u1 := B6.out.size; have u2 := g7.size; omega)
        simpa [lvS] using this
      clear RS5
      obtain ⟨a7, c7', hv7⟩ := own_len o7
      subst hv7
      clear o7 g7 LS7 HR6 SY6 HC6 OW6 BN B6 hW6 x2 c0 c1 c2 c3 c4 c5 c6 c7
      go_wp2_with fail
      go_roundw
      case rel => exact ⟨i + 1, _, _, by omega, by go_num, HMP, LQ7, HRS7⟩
      case measure => simp [intOf]; omega
    · have t1 : ¬ (i : Int) < (ns : Int) := by omega
      have HLS : Hid (ls.map Prod.fst = sys) := by
        unfold Hid
        rw [HL.out, List.take_of_length_le (by have := HNS.out; omega)]
      have LQ0 := HR
      have RS0 := HRS
      clear HR HL HRS
      go_wp2_with fail
      clear t1 x0 x1 x2 x3
      go_loopw [6] (fun v6 W => ∃ (j : Nat) (vf : Value) (lf : List (Rt × Value)), j ≤ nf ∧ v6 = .int .i64 (j : Int) ∧ Hid (lf.map Prod.fst = fns.take j) ∧ Hid (Lq N w W gp gr gq (.slice sa ns cs) (.slice fa nf cf) vs vf ls lf) ∧ Hid (Rs W.heap.size ((ls.flatMap lvS) ++ lf.map Prod.snd))) (fun v6 _ => nf - (intOf v6).toNat)
      case atStart => exact ⟨0, _, [], Nat.zero_le _, rfl, rfl, LQ0, by unfold Hid; rw [List.map_nil, List.append_nil]; exact RS0.out⟩
      case round =>
        obtain ⟨j, vf, lf, hj, rfl, HL, HR, HRS⟩ := hrel
        clear RS0
        clear LQ0
        obtain ⟨x0, x1, x2, x3⟩ := HR.out.cells
        by_cases hltj : j < nf
        · have t1 : (j : Int) < (nf : Int) := by omega
          have hjs : j < fns.length := by have := HNF.out; omega
          obtain ⟨g, o, rfl, -, i1, i2, vc, y1, y2, y3, y4, y5⟩ := HF.out.nth hjs
          have hM := Mv.of_below HR.out.b (fun _ => False)
          have z1 := hM.cell y1 id
          have z2 := hM.cell y2 id
          have z3 := hM.cell y3 id
          have z4 := hM.cell y4 id
          have HCO := hide y5
          have HI1 := hide i1
          have HI2 := hide i2
          have HZ5 : Hid (fns[j].code.length ≤ 8800000000000) := HZ2.out _ (List.getElem_mem hjs)
          have HT : Hid (fns.take (j + 1) = fns.take j ++ [fns[j]]) := List.take_succ_eq_append_getElem hjs
          clear hM y1 y2 y3 y4 y5 i1 i2
          generalize fns[j] = s at *
          obtain ⟨nm, pa, lo, code⟩ := s
          dsimp only at z1 z2 z3 z4 HCO HI1 HI2 HZ5
          obtain ⟨a5, c5, rfl, k1, k2⟩ := HCO.out.at
          obtain ⟨n5, hn5⟩ : ∃ n, n = code.length := ⟨_, rfl⟩
          rw [← hn5] at z4 HCO HZ5 k1
          have hq5 := HZ5.out
          have HN5 := hide hn5
          clear hn5
          obtain ⟨W0, hW0⟩ : ∃ X, X = wr.alloc (.cells #[.string nm, .int .i64 pa, .int .i64 lo, .slice a5 n5 c5] 35) := ⟨_, rfl⟩
          obtain ⟨gs, hgs⟩ : ∃ x, x = wr.heap.size := ⟨_, rfl⟩
          have SP0 : Hid (Fp N wr W0 gs (.slice a5 n5 c5) ⟨nm, pa, lo, code⟩ 0) := by
            rw [hW0]
            exact ⟨by rw [hgs]; exact heap_alloc_new wr _, below_alloc wr _, by omega, fun e => absurd e (by omega)⟩
          go_upto_region 16 with fail
          rw [← hW0, ← hgs]
          clear hW0 hgs z1 z2 z3 z4 x0 x1 x2 x3
          have HNW : Hid (N ≤ wr.heap.size) := by have h1 := HR.out.n.1; have h2 := HR.out.b.size; unfold Hid; omega
          have J5 := hide (lrowW_any code (HCO.out.later (below_on HR.out.b SP0.out.bel)) HN5.out (by omega))
          obtain ⟨c0, c1, c2, c3⟩ := SP0.out.cells
          dsimp only at c0 c1 c2 c3
          go_wp2_with fail
          refine J5.out.mono ?_
          rintro e w5 ⟨g5, d5, rfl, lk, nl, q1, q2, bb⟩
          have HG : Hid (wr.heap.size ≤ g5 ∧ g5 < w5.heap.size) := by
            obtain ⟨u1, cs, u2⟩ := lk
            have u3 := SP0.out.bel.size
            exact ⟨by omega, lt_of_block u2⟩
          have SA := hide (SP0.out.later bb)
          have SP1 := hide (SA.out.next (y := .slice (some ⟨g5, 0, none⟩) n5 d5) (nl.mono (fun j e => e ▸ Or.inr ⟨by have h1 := HNW.out; have h2 := SP0.out.bel.size; have h3 := lk.1; omega, lk.2⟩)))
          obtain ⟨W5, hW5⟩ : ∃ X, X = w5.setCell ⟨gs, 3, none⟩ (.slice (some ⟨g5, 0, none⟩) n5 d5) := ⟨_, rfl⟩
          rw [← hW5] at SP1
          have HG5 : Hid (g5 < W5.heap.size) := by unfold Hid; rw [hW5, World.size_setCell]; exact HG.out.2
          clear c0 c1 c2 c3
          obtain ⟨c0, c1, c2, c3⟩ := SA.out.cells
          dsimp only at c0 c1 c2 c3
          have hfr := frozen_of_row w5 gs 3 _ 35 SA.out.blk
          clear lk nl bb J5
          go_upto_region 17 with fail
          rw [← hW5]
          clear hW5 c0 c1 c2 c3 hfr SA SP0
          have HR5 := hide (HR.out.later SP1.out.bel)
          obtain ⟨c0, c1, c2, c3⟩ := SP1.out.cells
          dsimp only at c0 c1 c2 c3
          obtain ⟨-, -, -, x3⟩ := HR5.out.cells
          have hll : lf.length = j := by
            have := congrArg List.length HL.out
            rw [List.length_map, List.length_take] at this
            omega
          have HLL := hide hll
          obtain ⟨av, cv, hvs⟩ := own_len HR5.out.f.row
          rw [hll] at hvs
          subst hvs
          obtain ⟨W6, hW6⟩ : ∃ X, X = W5.alloc (.cells #[.string nm, .int .i64 pa, .int .i64 lo, .slice (some ⟨g5, 0, none⟩) n5 d5] 35) := ⟨_, rfl⟩
          have B6 : Hid (Below W5.heap.size W5 W6) := by unfold Hid; rw [hW6]; exact below_alloc W5 _
          have HR6 := hide (HR5.out.later B6.out)
          have SY6 : Hid (RtL N W6 (⟨nm, pa, lo, code⟩, .slice (some ⟨g5, 0, none⟩) n5 d5)) := ⟨HI1.out, HI2.out, (SP1.out.later B6.out).a1 (by omega)⟩
          have HC6 : Hid (∀ j u, (rwC (⟨nm, pa, lo, code⟩, .slice (some ⟨g5, 0, none⟩) n5 d5))[j]? = some u → W6.cell? ((⟨W5.heap.size, 0, none⟩ : Addr).add j) = some u) := by unfold Hid; rw [hW6]; exact cells_new W5 #[.string nm, .int .i64 pa, .int .i64 lo, .slice (some ⟨g5, 0, none⟩) n5 d5] 35
          have OW6 : Hid (W6.ownsRow N 35 4 (.slice av j cv) j (fl rwC lf)) := by have := HR6.out.f.row; rw [HLL.out] at this; exact this
          have BN : Hid (N ≤ W6.heap.size) := by have h1 := HR6.out.n.1; have h2 := HR6.out.b.size; unfold Hid; omega
          clear hll HR HR5 SP1
          go_wp2_with (at_builtin; rw [← hW6]; refine wpList_append_own_wide _ rfl _ _ 23 rfl N 35 iu (.agg #[.string ⟨#[]⟩, .int .i64 0, .int .i64 0, .slice none 0 0]) 4 56 Tryz.underlying23 hiu hu0 hu1 hu2 rfl (by decide) _ j (fl rwC lf) rfl OW6.out ⟨W5.heap.size, 0, none⟩ 1 1 (rwC (⟨nm, pa, lo, code⟩, .slice (some ⟨g5, 0, none⟩) n5 d5)) rfl rfl HC6.out SY6.out.one ?s3 ?s4 BN.out ?_)
          case s3 => unfold maxLen; omega
          case s4 => omega
          intro v7 w7 o7 g7 _
          rw [← hW6] at g7
          have LF7 : Hid (LF N w7 v7 (lf ++ ([(⟨nm, pa, lo, code⟩, .slice (some ⟨g5, 0, none⟩) n5 d5)] : List (Rt × Value)))) := HR6.out.f.push SY6.out (by rw [HLL.out]; exact o7) g7
          have LQ7 := hide (HR6.out.putF g7 LF7.out)
          obtain ⟨f0, f1, f2, f3⟩ := HR6.out.qc OW6.out (by decide) g7
          have HMP : Hid ((lf ++ ([(⟨nm, pa, lo, code⟩, .slice (some ⟨g5, 0, none⟩) n5 d5)] : List (Rt × Value))).map Prod.fst = fns.take (j + 1)) := by unfold Hid; rw [HT.out, List.map_append, HL.out]; rfl
          have HRS7 : Hid (Rs (w7.setCell ⟨gq, 1, none⟩ v7).heap.size ((ls.flatMap lvS) ++ (lf ++ ([(⟨nm, pa, lo, code⟩, .slice (some ⟨g5, 0, none⟩) n5 d5)] : List (Rt × Value))).map Prod.snd)) := by
            unfold Hid
            rw [World.size_setCell, List.map_append, ← List.append_assoc]
            exact HRS.out.push (g := g5) rfl HG.out.1 (by have u1 := B6.out.size; have u2 := g7.size; have u3 := HG5.out; omega)
          obtain ⟨a7, c7', hv7⟩ := own_len o7
          subst hv7
          clear o7 g7 LF7 HR6 SY6 HC6 OW6 BN B6 hW6 x3 c0 c1 c2 c3
          go_wp2_with fail
          go_roundw
          case rel => exact ⟨j + 1, _, _, by omega, by go_num, HMP, LQ7, HRS7⟩
          case measure => simp [intOf]; omega
        · have t1 : ¬ (j : Int) < (nf : Int) := by omega
          have HLF : Hid (lf.map Prod.fst = fns) := by
            unfold Hid
            rw [HL.out, List.take_of_length_le (by have := HNF.out; omega)]
          have hls : ls.length = ns := by have := congrArg List.length HLS.out; rw [List.length_map] at this; have := HNS.out; omega
          have hlf : lf.length = nf := by have := congrArg List.length HLF.out; rw [List.length_map] at this; have := HNF.out; omega
          have HLL := hide hls
          have HLM := hide hlf
          obtain ⟨av, cv, hvs⟩ := own_len HR.out.s.row
          obtain ⟨af, cg, hvf⟩ := own_len HR.out.f.row
          rw [hls] at hvs
          rw [hlf] at hvf
          subst hvs hvf
          obtain ⟨p1, p2⟩ : ns ≤ cv ∧ cv ≤ 9223372036854775807 := by have := HR.out.s.row; rw [hls] at this; exact own_cap this
          obtain ⟨p3, p4⟩ : nf ≤ cg ∧ cg ≤ 9223372036854775807 := by have := HR.out.f.row; rw [hlf] at this; exact own_cap this
          clear hls hlf HL
          obtain ⟨W6, hW6⟩ : ∃ X, X = (wr.alloc (.cells #[.int .i64 77] 3)).alloc (.cells #[.slice (some ⟨wr.heap.size, 0, none⟩) 1 1, .slice none 0 0, .slice none 0 0, .slice none 0 0, .string ⟨#[]⟩, .int .i64 0, .int .i64 0, .slice none 0 0] 38) := ⟨_, rfl⟩
          have B6 : Hid (Below wr.heap.size wr W6) := by unfold Hid; rw [hW6]; exact below_on (below_alloc wr _) (below_alloc _ _)
          have HR6 := hide (HR.out.later B6.out)
          have HC6 : Hid (∀ j u, [.slice (some ⟨wr.heap.size, 0, none⟩) 1 1, .slice none 0 0, .slice none 0 0, .slice none 0 0, Value.string ⟨#[]⟩, .int .i64 0, .int .i64 0, .slice none 0 0][j]? = some u → W6.cell? ((⟨wr.heap.size + 1, 0, none⟩ : Addr).add j) = some u) := by
            unfold Hid
            rw [hW6]
            have := cells_new (wr.alloc (.cells #[.int .i64 77] 3)) #[.slice (some ⟨wr.heap.size, 0, none⟩) 1 1, .slice none 0 0, .slice none 0 0, .slice none 0 0, .string ⟨#[]⟩, .int .i64 0, .int .i64 0, .slice none 0 0] 38
            rw [show (wr.alloc (.cells #[.int .i64 77] 3)).heap.size = wr.heap.size + 1 by simp] at this
            exact this
          have OW6 : Hid (W6.ownsRow N 38 8 (.slice av ns cv) ns (fl lvC ls)) := by have := HR6.out.s.row; rw [HLL.out] at this; exact this
          have BN : Hid (N ≤ W6.heap.size) := by have h1 := HR6.out.n.1; have h2 := HR6.out.b.size; unfold Hid; omega
          clear HR
          go_wp2_with (at_builtin; rw [← hW6]; refine wpList_append_own_wide _ rfl _ _ 22 rfl N 38 iy (.agg #[.slice none 0 0, .slice none 0 0, .slice none 0 0, .slice none 0 0, .string ⟨#[]⟩, .int .i64 0, .int .i64 0, .slice none 0 0]) 8 152 Tryz.underlying22 hiy hy0 hy1 hy2 rfl (by decide) _ ns (fl lvC ls) rfl OW6.out ⟨wr.heap.size + 1, 0, none⟩ 1 1 [.slice (some ⟨wr.heap.size, 0, none⟩) 1 1, .slice none 0 0, .slice none 0 0, .slice none 0 0, .string ⟨#[]⟩, .int .i64 0, .int .i64 0, .slice none 0 0] rfl rfl HC6.out (one8 _) ?s3 ?s4 BN.out ?_)
          case s3 => unfold maxLen; omega
          case s4 => omega
          intro v7 w7 o7 g7 _
          rw [← hW6] at g7
          obtain ⟨gs, c7, rfl, p5, p6⟩ := own_form o7 (by omega)
          have LS7 : Hid (LS N w7 (.slice (some ⟨gs, 0, none⟩) ns c7) ls) := HR6.out.s.cut (by rw [HLL.out]; exact o7) g7 HLL.out.symm
          have LQ7 := hide (HR6.out.putS g7 LS7.out)
          obtain ⟨f0, f1, f2, f3⟩ := HR6.out.qc OW6.out (by decide) g7
          have K77 : W6.heap[wr.heap.size]? = some (.cells #[.int .i64 77] 3 (0, 0)) := by
            rw [hW6]
            exact ((below_alloc (wr.alloc (.cells #[.int .i64 77] 3)) _).block wr.heap.size (by simp)).trans (heap_alloc_new wr _)
          have BS7 : Hid (BhS w7 gs ns) := BhS.of o7 (by rw [fl_len lvC_len, HLL.out]) (KP.grown OW6.out g7 _ _ _ (by decide) K77)
          have HQ7 : w7.heap[gq]? = some (.cells #[.slice av ns cv, .slice af nf cg] 25 (0, 0)) := KP.grown OW6.out g7 _ _ _ (by decide) HR6.out.q
          have BS8 : Hid (BhS (w7.setCell ⟨gq, 0, none⟩ (.slice (some ⟨gs, 0, none⟩) ns c7)) gs ns) := BS7.out.kp (KP.set HQ7) (by decide) (by decide)
          obtain ⟨pp1, pp2⟩ := own_cap o7
          have HCP7 : Hid (ns + 1 ≤ c7 ∧ c7 ≤ 9223372036854775807) := ⟨pp1, pp2⟩
          have t2 : (ns : Int) ≤ c7 := by omega
          obtain ⟨W8, hW8⟩ : ∃ X, X = w7.setCell ⟨gq, 0, none⟩ (.slice (some ⟨gs, 0, none⟩) ns c7) := ⟨_, rfl⟩
          rw [← hW8] at LQ7 BS8
          have RS8 : Hid (Rs W8.heap.size ((ls.flatMap lvS) ++ lf.map Prod.snd)) := by
            unfold Hid
            rw [hW8, World.size_setCell]
            exact HRS.out.le (by have u1 := B6.out.size; have u2 := g7.size; omega)
          clear HRS
          clear K77 BS7 HQ7 pp1 pp2
          clear o7 g7 LS7 HR6 HC6 OW6 BN B6 hW6 x0 x1 x2 x3
          go_upto_region 21 with fail
          rw [← hW8]
          clear hW8 f0 f1 f2 f3 t2
          obtain ⟨W9, hW9⟩ : ∃ X, X = W8.alloc (.cells #[.string ⟨#[98, 101, 104, 105, 110, 100]⟩, .int .i64 0, .int .i64 0, .slice none 0 0] 35) := ⟨_, rfl⟩
          have B9 : Hid (Below W8.heap.size W8 W9) := by unfold Hid; rw [hW9]; exact below_alloc W8 _
          have HR9 := hide (LQ7.out.later B9.out)
          have HC9 : Hid (∀ j u, [Value.string ⟨#[98, 101, 104, 105, 110, 100]⟩, .int .i64 0, .int .i64 0, .slice none 0 0][j]? = some u → W9.cell? ((⟨W8.heap.size, 0, none⟩ : Addr).add j) = some u) := by
            unfold Hid
            rw [hW9]
            exact cells_new W8 #[.string ⟨#[98, 101, 104, 105, 110, 100]⟩, .int .i64 0, .int .i64 0, .slice none 0 0] 35
          have OW9 : Hid (W9.ownsRow N 35 4 (.slice af nf cg) nf (fl rwC lf)) := by have := HR9.out.f.row; rw [HLM.out] at this; exact this
          have BN : Hid (N ≤ W9.heap.size) := by have h1 := HR9.out.n.1; have h2 := HR9.out.b.size; unfold Hid; omega
          obtain ⟨x0, x1, x2, x3⟩ := LQ7.out.cells
          clear LQ7
          go_wp2_with (at_builtin; rw [← hW9]; refine wpList_append_own_wide _ rfl _ _ 23 rfl N 35 iu (.agg #[.string ⟨#[]⟩, .int .i64 0, .int .i64 0, .slice none 0 0]) 4 56 Tryz.underlying23 hiu hu0 hu1 hu2 rfl (by decide) _ nf (fl rwC lf) rfl OW9.out ⟨W8.heap.size, 0, none⟩ 1 1 [.string ⟨#[98, 101, 104, 105, 110, 100]⟩, .int .i64 0, .int .i64 0, .slice none 0 0] rfl rfl HC9.out (one4 _) ?s3 ?s4 BN.out ?_)
          case s3 => unfold maxLen; omega
          case s4 => omega
          intro v10 w10 o10 g10 _
          rw [← hW9] at g10
          obtain ⟨gf, c10, rfl, p7, p8⟩ := own_form o10 (by omega)
          have LF10 : Hid (LF N w10 (.slice (some ⟨gf, 0, none⟩) nf c10) lf) := HR9.out.f.cut (by rw [HLM.out]; exact o10) g10 HLM.out.symm
          have LQ10 := hide (HR9.out.putF g10 LF10.out)
          obtain ⟨f0, f1, f2, f3⟩ := HR9.out.qc OW9.out (by decide) g10
          have BF10 : Hid (BhF w10 gf nf) := BhF.of o10 (by rw [fl_len rwC_len, HLM.out])
          have BS10 : Hid (BhS w10 gs ns) := (BS8.out.kp (KP.below (e := 25) B9.out) (by decide) (by decide)).kp (KP.grown OW9.out g10) (by decide) (by decide)
          have HQ10 := KP.grown OW9.out g10 _ _ _ (by decide) HR9.out.q
          have BF11 : Hid (BhF (w10.setCell ⟨gq, 1, none⟩ (.slice (some ⟨gf, 0, none⟩) nf c10)) gf nf) := BF10.out.kp (KP.set HQ10) (by decide)
          have BS11 : Hid (BhS (w10.setCell ⟨gq, 1, none⟩ (.slice (some ⟨gf, 0, none⟩) nf c10)) gs ns) := BS10.out.kp (KP.set HQ10) (by decide) (by decide)
          obtain ⟨pp1, pp2⟩ := own_cap o10
          have HCP10 : Hid (nf + 1 ≤ c10 ∧ c10 ≤ 9223372036854775807) := ⟨pp1, pp2⟩
          have t3 : (nf : Int) ≤ c10 := by omega
          obtain ⟨W11, hW11⟩ : ∃ X, X = w10.setCell ⟨gq, 1, none⟩ (.slice (some ⟨gf, 0, none⟩) nf c10) := ⟨_, rfl⟩
          rw [← hW11] at LQ10 BF11 BS11
          have RS11 : Hid (Rs W11.heap.size ((ls.flatMap lvS) ++ lf.map Prod.snd)) := by
            unfold Hid
            rw [hW11, World.size_setCell]
            exact RS8.out.le (by have u1 := B9.out.size; have u2 := g10.size; omega)
          clear RS8
          clear BF10 BS10 HQ10 pp1 pp2 BS8
          clear o10 g10 LF10 HR9 HC9 OW9 BN B9 hW9 x0 x1 x2 x3
          go_upto_region 22 with fail
          rw [← hW11]
          clear hW11 f0 f1 f2 f3 t3
          obtain ⟨x0, x1, x2, x3⟩ := LQ10.out.cells
          have r0 : W11.cell? ⟨gr, 0, none⟩ = some (.slice none 0 0) := by rw [cell_of_row W11 _ _ _ 25 (0, 0) LQ10.out.r]; rfl
          have r1 : W11.cell? ⟨gr, 1, none⟩ = some (.slice none 0 0) := by rw [cell_of_row W11 _ _ _ 25 (0, 0) LQ10.out.r]; rfl
          have r2 := frozen_of_row W11 gr 0 _ 25 LQ10.out.r
          have r3 := frozen_of_row W11 gr 1 _ 25 LQ10.out.r
          go_wp2_with fail
          obtain ⟨m1, m2, m3, m4⟩ := LQ10.out.told
          have k1 : KP 25 W11 (W11.setCell ⟨gr, 0, none⟩ (.slice (some ⟨gs, 0, none⟩) ns c7)) := KP.set LQ10.out.r
          have kr := heap_setCell_same W11 gr 0 _ 25 (.slice (some ⟨gs, 0, none⟩) ns c7) LQ10.out.r
          have k2 : KP 25 _ ((W11.setCell ⟨gr, 0, none⟩ (.slice (some ⟨gs, 0, none⟩) ns c7)).setCell ⟨gr, 1, none⟩ (.slice (some ⟨gf, 0, none⟩) nf c10)) := KP.set kr
          have m5 := (BS11.out.kp k1 (by decide) (by decide)).kp k2 (by decide) (by decide)
          have m6 := (BF11.out.kp k1 (by decide)).kp k2 (by decide)
          rw [HN.out] at m2 m3
          exact bodyPost_ret (res_pg1 rfl rfl m1) rfl ⟨_, _, _, _, _, _, rfl, m2, m3, HLS.out, HLF.out, ⟨m5, m6, HCP7.out.1, HCP10.out.1, HCP7.out.2, HCP10.out.2⟩, m4, by have := RS11.out; rw [World.size_setCell, World.size_setCell]; exact this⟩
end Go.Proofs.YtfkhhplcogedmaaGreatDoor.Wd
