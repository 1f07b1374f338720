/-
  Verify: the document's routines.
-/
import Derived.Test.YtfkhhplcogedmaaGreatDoorMgQ
import Derived.Test.YtfkhhplcogedmaaGreatDoorMgS
import Derived.Deep.RegionHeld3
namespace Go.Proofs.YtfkhhplcogedmaaGreatDoor
open Go.RowKit
set_option maxRecDepth 100000
/-- A routine as the document keeps it. -/
structure Dr where
  ro : Ro
  vc : Value
  v1 : Value
  v2 : Value
  v3 : Value
  v4 : Value
  n2 : ByteArray
  p2 : Int
  l2 : Int
  vx : Value
def drC (x : Dr) : List Value := [.string x.ro.rt.name, .int .i64 x.ro.rt.pa, .int .i64 x.ro.rt.lo, x.vc, x.v1, x.v2, x.v3, x.v4, .string x.n2, .int .i64 x.p2, .int .i64 x.l2, x.vx, .bool x.ro.sy, .int .i64 (x.ro.pl : Int)]
theorem drC_len (x : Dr) : (drC x).length = 14 := rfl
/-- What it is read as. -/
structure DrOk (Q : Nat → Prop) (W : World) (x : Dr) : Prop where
  co : Il Q W x.vc x.ro.rt.code
  re : Nl Q W x.v3 x.ro.re
  wr : Nl Q W x.v4 x.ro.wr
  pa : I6 x.ro.rt.pa
  lo : I6 x.ro.rt.lo
  s1 : ∃ a n c, x.v1 = .slice a n c
  s2 : ∃ a n c, x.v2 = .slice a n c
  sx : ∃ a n c, x.vx = .slice a n c
theorem DrOk.later {Q : Nat → Prop} {W W' : World} {x : Dr} (h : DrOk Q W x) (hb : Below W.heap.size W W') : DrOk Q W' x := ⟨h.co.later hb, h.re.later hb, h.wr.later hb, h.pa, h.lo, h.s1, h.s2, h.sx⟩
theorem infoDr : (Tryz.prog.info? 90).map (fun i => (i.zero, i.size, i.bytes)) = some (some (.agg #[.string ⟨#[]⟩, .int .i64 0, .int .i64 0, .slice none 0 0, .slice none 0 0, .slice none 0 0, .slice none 0 0, .slice none 0 0, .string ⟨#[]⟩, .int .i64 0, .int .i64 0, .slice none 0 0, .bool false, .int .i64 0]), 14, 224) := by kernel_rfl
/-- The routines that are laid so far. -/
structure Dl (Q : Nat → Prop) (w : World) (ros : List Ro) (v : Value) (W : World) : Prop where
  ex : ∃ L : List Dr, L.map Dr.ro = ros ∧ (∀ x ∈ L, DrOk Q w x) ∧ W.ownsRow w.heap.size 90 14 v ros.length (fl drC L)
  below : Below w.heap.size w W
theorem Dl.mk' {Q : Nat → Prop} {w w' : World} {ros : List Ro} {L : List Dr} {m : Nat} {v' : Value} {x : Dr} (hm : m = ros.length) (h1 : L.map Dr.ro = ros) (h2 : ∀ x ∈ L, DrOk Q w x) (hx : DrOk Q w x) (ho : w'.ownsRow w.heap.size 90 14 v' (m + 1) (fl drC L ++ drC x)) (hb : Below w.heap.size w w') : Dl Q w (ros ++ [x.ro]) v' w' := by
  refine ⟨⟨L ++ [x], by rw [List.map_append, h1]; rfl, fun y hy => ?_, ?_⟩, hb⟩
  · rw [List.mem_append, List.mem_singleton] at hy
    rcases hy with hy | rfl
    · exact h2 y hy
    · exact hx
  · rw [List.length_append, List.length_singleton, fl_snoc, ← hm]
    exact ho
theorem one14 {a b c d e f g h i j k l m n : Value} (ha : a.oneCell' = true) (hb : b.oneCell' = true) (hc : c.oneCell' = true) (hd : d.oneCell' = true) (he : e.oneCell' = true) (hf : f.oneCell' = true) (hg : g.oneCell' = true) (hh : h.oneCell' = true) (hi : i.oneCell' = true) (hj : j.oneCell' = true) (hk : k.oneCell' = true) (hl : l.oneCell' = true) (hm : m.oneCell' = true) (hn : n.oneCell' = true) : ∀ u ∈ [a, b, c, d, e, f, g, h, i, j, k, l, m, n], u.oneCell' = true := fun u hu => by
  simp only [List.mem_cons, List.not_mem_nil, or_false] at hu
  rcases hu with rfl | rfl | rfl | rfl | rfl | rfl | rfl | rfl | rfl | rfl | rfl | rfl | rfl | rfl <;> assumption
set_option maxHeartbeats 8000000 in
theorem droutines_at {Q : Nat → Prop} {w : World} {ns cs nf cf : Nat} {sa fa : Option Addr} (sys : List Sy) (fns : List Rt) (hns : ns = sys.length) (hnf : nf = fns.length) (_hc1 : ns ≤ cs) (_hc2 : cs ≤ 9223372036854775807) (_hc3 : nf ≤ cf) (_hc4 : cf ≤ 9223372036854775807) (hS : Sys Q w (.slice sa ns cs) sys) (hF : Rts Q w (.slice fa nf cf) fns) (hn1 : ns ≤ 16) (hn2 : nf ≤ 16) (hsum : sumS sys + sumR fns ≤ 2000) :
    Calls Tryz.prog 33 #[.agg #[.slice sa ns cs, .slice fa nf cf]] w fun e w' => ∃ v, e = .returned v ∧ Dl Q w (rosOf ⟨sys, fns⟩) v w' := by
  obtain ⟨ir, hir, hr0, hr1, hr2⟩ := info_parts infoDr
  have HS := hide hS
  have HF := hide hF
  have HNS := hide hns
  have HNF := hide hnf
  have HSUM := hide hsum
  obtain ⟨w0, hw0⟩ : ∃ X, X = w.alloc (.cells #[.slice sa ns cs, .slice fa nf cf] 25) := ⟨_, rfl⟩
  have B0 : Hid (Below w.heap.size w w0) := by unfold Hid; rw [hw0]; exact below_alloc w _
  obtain ⟨gp, hgp⟩ : ∃ x, x = w.heap.size := ⟨_, rfl⟩
  have HGP := hide hgp
  have k0 : w0.heap[gp]? = some (.cells #[.slice sa ns cs, .slice fa nf cf] 25 (0, 0)) := by rw [hw0, hgp]; exact heap_alloc_new w _
  have K0 : Hid (∀ W, Below w0.heap.size w0 W → W.cell? ⟨gp, 0, none⟩ = some (.slice sa ns cs) ∧ W.cell? ⟨gp, 1, none⟩ = some (.slice fa nf cf)) := fun W hW => by
    have e := (hW.block gp (lt_of_block k0)).trans k0
    exact ⟨by rw [cell_of_row W _ _ _ 25 (0, 0) e]; rfl, by rw [cell_of_row W _ _ _ 25 (0, 0) e]; rfl⟩
  obtain ⟨c0, c1⟩ := K0.out w0 (Below.refl _ _)
  have KG := hide k0
  clear hS hF hns hnf k0 hsum
  go_enter Tryz.func33, Tryz.ntmps33
  go_upto_region 1 with fail
  rw [← hw0, ← hgp]
  clear hw0 hgp
  have R0 : Hid (Dl Q w ((roS sys).take 0) (.slice none 0 0) w0) := ⟨⟨[], rfl, fun x hx => absurd hx (by simp), World.ownsRow_nil _ _ _ _⟩, B0.out⟩
  go_wp2_with fail
  clear c0 c1
  go_loopw [3, 4, 5] (fun v3 v4 v12 W => ∃ i : Nat, i ≤ ns ∧ v12 = .int .i64 (i : Int) ∧ v4 = .int .i64 ((sumS (sys.take i) : Nat) : Int) ∧ Hid (Dl Q w ((roS sys).take i) v3 W) ∧ Hid (W.heap[gp]? = some (.cells #[.slice sa ns cs, .slice fa nf cf] 25 (0, 0)))) (fun _ _ v12 _ => ns - (intOf v12).toNat)
  case atStart => exact ⟨0, Nat.zero_le _, rfl, by simp [sumS], R0, KG⟩
  case round =>
    obtain ⟨i, hi, rfl, rfl, HR, HB⟩ := hrel
    clear R0
    have hg0 : wr.cell? ⟨gp, 0, none⟩ = some (.slice sa ns cs) := by rw [cell_of_row wr _ _ _ 25 (0, 0) HB.out]; rfl
    by_cases hlt : i < ns
    · have t1 : (i : Int) < (ns : Int) := by omega
      have his : i < sys.length := by have := HNS.out; omega
      obtain ⟨g, o, rfl, -, hat⟩ := HS.out.nth his
      obtain ⟨a1, a2, a3, a4, a5, n1, n2, n3, n4, n5, k1, k2, k3, k4, k5, HV, y1, y2, y3, y4, y5, y6, y7, y8⟩ := hat.vs
      have HGY : Hid (g < w.heap.size) := World.block_lt_of_cell? w _ y1
      have hM := Mv.of_below HR.out.below (fun _ => False)
      have z1 := hM.cell y1 id
      have z2 := hM.cell y2 id
      have z3 := hM.cell y3 id
      have z4 := hM.cell y4 id
      have z5 := hM.cell y5 id
      have z6 := hM.cell y6 id
      have z7 := hM.cell y7 id
      have z8 := hM.cell y8 id
      have HT : Hid ((roS sys).take (i + 1) = (roS sys).take i ++ [⟨sys[i].run, sumS (sys.take i), true, sys[i].re, sys[i].wr⟩]) := by
        unfold Hid
        rw [List.take_succ_eq_append_getElem (by rw [roS_len]; exact his), roS_at his]
      have HSS : Hid (sumS (sys.take (i + 1)) = sumS (sys.take i) + n5) := by
        unfold Hid
        rw [sumS_snoc his, HV.ln]
      have HLE : Hid (sumS (sys.take i) + n5 ≤ 2000) := by
        have h1 := HSS.out
        have h2 := HSUM.out
        have h3 : sumS (sys.take (i + 1)) ≤ sumS sys := by
          have h := congrArg sumS (List.take_append_drop (i + 1) sys)
          simp only [sumS, List.map_append, List.sum_append] at h ⊢
          omega
        unfold Hid
        omega
      have HRV : Hid (DrOk Q w ⟨⟨sys[i].run, sumS (sys.take i), true, sys[i].re, sys[i].wr⟩, .slice a5 n5 k5, .slice a1 n1 k1, .slice a2 n2 k2, .slice a3 n3 k3, .slice a4 n4 k4, sys[i].run.name, sys[i].run.pa, sys[i].run.lo, .slice a5 n5 k5⟩) := ⟨HV.co, HV.re, HV.wr, HV.pa, HV.lo, ⟨_, _, _, rfl⟩, ⟨_, _, _, rfl⟩, ⟨_, _, _, rfl⟩⟩
      have hle5 := HV.le
      have hcp5 := HV.cp
      clear hat HV hM y1 y2 y3 y4 y5 y6 y7 y8
      generalize sys[i] = s at *
      obtain ⟨wi, wo, re, wrt, nm, pa, lo, code⟩ := s
      dsimp only at z1 z2 z3 z4 z5 z6 z7 z8 HT HRV
      obtain ⟨sm, hsm⟩ : ∃ x, x = sumS (sys.take i) := ⟨_, rfl⟩
      rw [← hsm] at HT HSS HLE HRV ⊢
      have hsm5 : sm + n5 ≤ 2000 := HLE.out
      obtain ⟨rl, hrl⟩ : ∃ x, x = (roS sys).take i := ⟨_, rfl⟩
      rw [← hrl] at HR HT
      have hrl16 : rl.length ≤ 16 := by rw [hrl, List.length_take]; omega
      clear hsm hrl
      obtain ⟨L, l1, l2, l3⟩ := HR.out.ex
      obtain ⟨m3, hm3⟩ : ∃ x, x = rl.length := ⟨_, rfl⟩
      rw [← hm3] at l3 hrl16
      have HM3 := hide hm3
      have OL := hide l3
      obtain ⟨b3, e3, rfl⟩ := own_len l3
      have L12 : Hid (L.map Dr.ro = rl ∧ ∀ x ∈ L, DrOk Q w x) := ⟨l1, l2⟩
      have hsz := HR.out.below.size
      clear l1 l2 l3 hm3
      have HGG : Hid (gp < wr.heap.size ∧ g < wr.heap.size ∧ g ≠ gp ∧ g < w.heap.size) := by
        have h1 := lt_of_block HB.out
        have h2 := HGY.out
        have h3 := HGP.out
        exact ⟨h1, by omega, by omega, h2⟩
      have SX : Hid (∀ V : World, V.heap[gp]? = wr.heap[gp]? → V.heap[g]? = wr.heap[g]? → V.cell? ⟨gp, 0, none⟩ = some (.slice (some ⟨g, o, none⟩) ns cs) ∧ V.cell? ⟨g, o + i * 8, none⟩ = some (.slice a1 n1 k1) ∧ V.cell? ⟨g, o + i * 8 + 1, none⟩ = some (.slice a2 n2 k2) ∧ V.cell? ⟨g, o + i * 8 + 2, none⟩ = some (.slice a3 n3 k3) ∧ V.cell? ⟨g, o + i * 8 + 3, none⟩ = some (.slice a4 n4 k4) ∧ V.cell? ⟨g, o + i * 8 + 4, none⟩ = some (.string nm) ∧ V.cell? ⟨g, o + i * 8 + 5, none⟩ = some (.int .i64 pa) ∧ V.cell? ⟨g, o + i * 8 + 6, none⟩ = some (.int .i64 lo) ∧ V.cell? ⟨g, o + i * 8 + 7, none⟩ = some (.slice a5 n5 k5)) := fun V h1 h2 => by
        have e := h1.trans HB.out
        refine ⟨by rw [cell_of_row V _ _ _ 25 (0, 0) e]; rfl, ?_, ?_, ?_, ?_, ?_, ?_, ?_, ?_⟩ <;> rw [World.cell?_of_block h2] <;> assumption
      have S0 := SX.out wr.drew rfl rfl
      have bda : Below wr.heap.size wr (wr.drew.alloc (.cells #[.string nm, .int .i64 pa, .int .i64 lo, .slice a5 n5 k5, .slice a1 n1 k1, .slice a2 n2 k2, .slice a3 n3 k3, .slice a4 n4 k4, .string nm, .int .i64 pa, .int .i64 lo, .slice a5 n5 k5, .bool true, .int .i64 (sm : Int)] 90)) := below_on (below_drew wr) (below_alloc _ _)
      have SB := SX.out (wr.drew.alloc (.cells #[.string nm, .int .i64 pa, .int .i64 lo, .slice a5 n5 k5, .slice a1 n1 k1, .slice a2 n2 k2, .slice a3 n3 k3, .slice a4 n4 k4, .string nm, .int .i64 pa, .int .i64 lo, .slice a5 n5 k5, .bool true, .int .i64 (sm : Int)] 90)) (bda.block gp HGG.out.1) (bda.block g HGG.out.2.1)
      have OA : (wr.drew.alloc (.cells #[.string nm, .int .i64 pa, .int .i64 lo, .slice a5 n5 k5, .slice a1 n1 k1, .slice a2 n2 k2, .slice a3 n3 k3, .slice a4 n4 k4, .string nm, .int .i64 pa, .int .i64 lo, .slice a5 n5 k5, .bool true, .int .i64 (sm : Int)] 90)).ownsRow w.heap.size 90 14 (.slice b3 m3 e3) m3 (fl drC L) := own_later OL.out bda
      have NW : ∀ j u, [Value.string nm, .int .i64 pa, .int .i64 lo, .slice a5 n5 k5, .slice a1 n1 k1, .slice a2 n2 k2, .slice a3 n3 k3, .slice a4 n4 k4, .string nm, .int .i64 pa, .int .i64 lo, .slice a5 n5 k5, .bool true, .int .i64 (sm : Int)][j]? = some u → (wr.drew.alloc (.cells #[.string nm, .int .i64 pa, .int .i64 lo, .slice a5 n5 k5, .slice a1 n1 k1, .slice a2 n2 k2, .slice a3 n3 k3, .slice a4 n4 k4, .string nm, .int .i64 pa, .int .i64 lo, .slice a5 n5 k5, .bool true, .int .i64 (sm : Int)] 90)).cell? ((⟨wr.heap.size, 0, none⟩ : Addr).add j) = some u := World.news_of_block (heap_alloc_new wr.drew _)
      have nP : Value.ownBlock (.slice b3 m3 e3) ≠ some gp := own_not OL.out HB.out (by decide)
      have nG : Value.ownBlock (.slice b3 m3 e3) ≠ some g := fun e => by have h1 := (OL.out.lt g e).1; have h2 := HGG.out.2.2.2; omega
      have BDA := hide bda
      clear z1 z2 z3 z4 z5 z6 z7 z8
      go_upto_region 6 with fail
      clear hg0
      go_region_held3 (fun V => V.cell? ⟨gp, 0, none⟩ = some (.slice (some ⟨g, o, none⟩) ns cs) ∧ V.cell? ⟨g, o + i * 8, none⟩ = some (.slice a1 n1 k1) ∧ V.cell? ⟨g, o + i * 8 + 1, none⟩ = some (.slice a2 n2 k2) ∧ V.cell? ⟨g, o + i * 8 + 2, none⟩ = some (.slice a3 n3 k3) ∧ V.cell? ⟨g, o + i * 8 + 3, none⟩ = some (.slice a4 n4 k4) ∧ V.cell? ⟨g, o + i * 8 + 4, none⟩ = some (.string nm) ∧ V.cell? ⟨g, o + i * 8 + 5, none⟩ = some (.int .i64 pa) ∧ V.cell? ⟨g, o + i * 8 + 6, none⟩ = some (.int .i64 lo) ∧ V.cell? ⟨g, o + i * 8 + 7, none⟩ = some (.slice a5 n5 k5)) (first | exact S0 | exact SB | exact SA) ((refine step_append_lies _ rfl (.tmp 14) (.tmp 28) 86 rfl w.heap.size 90 ir (.agg #[.string ⟨#[]⟩, .int .i64 0, .int .i64 0, .slice none 0 0, .slice none 0 0, .slice none 0 0, .slice none 0 0, .slice none 0 0, .string ⟨#[]⟩, .int .i64 0, .int .i64 0, .slice none 0 0, .bool false, .int .i64 0]) 14 224 Tryz.underlying86 hir hr0 hr1 hr2 rfl (by decide) (.slice b3 m3 e3) m3 (fl drC L) (by simp [Act.eval]) OA ⟨wr.heap.size, 0, none⟩ 1 1 [.string nm, .int .i64 pa, .int .i64 lo, .slice a5 n5 k5, .slice a1 n1 k1, .slice a2 n2 k2, .slice a3 n3 k3, .slice a4 n4 k4, .string nm, .int .i64 pa, .int .i64 lo, .slice a5 n5 k5, .bool true, .int .i64 (sm : Int)] (by simp [Act.eval]) rfl NW (one14 rfl rfl rfl rfl rfl rfl rfl rfl rfl rfl rfl rfl rfl rfl) (by omega) (by unfold maxLen; omega) (by omega) (by simp; omega) _ rfl ?_; intro g9 c9 w9 ho9 hg9 hw9 _; have gA : wr.grownBy w9 (Value.slice b3 m3 e3).ownBlock := ((grown_later (below_drew wr)).but _).trans ((World.grownBy_alloc _ _ _).trans hg9); have SA := SX.out w9 (gA.block gp HGG.out.1 (fun e => nP e.symm)) (gA.block g HGG.out.2.1 (fun e => nG e.symm))))
      have BW : Hid (Below w.heap.size w w9) := HR.out.below.grown gA HR.out.below.size (fun k e => (OL.out.lt k e).1)
      have BX : Hid (w9.heap[gp]? = some (.cells #[.slice (some ⟨g, o, none⟩) ns cs, .slice fa nf cf] 25 (0, 0))) := (gA.block gp HGG.out.1 (fun e => nP e.symm)).trans HB.out
      have RN : Hid (Dl Q w ((roS sys).take (i + 1)) (.slice (some ⟨g9, 0, none⟩) (m3 + 1) c9) w9) := by
        unfold Hid
        rw [HT.out]
        exact Dl.mk' (x := ⟨⟨⟨nm, pa, lo, code⟩, sm, true, re, wrt⟩, .slice a5 n5 k5, .slice a1 n1 k1, .slice a2 n2 k2, .slice a3 n3 k3, .slice a4 n4 k4, nm, pa, lo, .slice a5 n5 k5⟩) HM3.out L12.out.1 L12.out.2 HRV.out ho9 BW.out
      obtain ⟨y0, -, -, -, -, -, -, -, y8⟩ := SA
      have t5 : (sm : Int) + (n5 : Int) ≤ 2000 := by omega
      clear ho9 hg9 hw9 gA OA NW OL HR HB S0 SB SX bda BDA nP nG
      go_wp2_with fail
      go_roundw
      case rel => exact ⟨i + 1, by omega, by go_num, by rw [HSS.out]; go_num, RN, BX⟩
      case measure => simp [intOf]; omega
    · have t1 : ¬ (i : Int) < (ns : Int) := by omega
      obtain rfl : ns = i := by omega
      have hgc : wr.cell? ⟨gp, 1, none⟩ = some (.slice fa nf cf) := by rw [cell_of_row wr _ _ _ 25 (0, 0) HB.out]; rfl
      have hall : sumS (sys.take ns) = sumS sys := by rw [HNS.out, List.take_length]
      have hall2 : (roS sys).take ns = roS sys := by rw [HNS.out, List.take_of_length_le (by rw [roS_len]; exact Nat.le_refl _)]
      rw [hall2] at HR
      rw [hall]
      obtain ⟨sm, hsm⟩ : ∃ x, x = sumS sys := ⟨_, rfl⟩
      have HSM := hide hsm
      rw [← hsm]
      obtain ⟨L, l1, l2, l3⟩ := HR.out.ex
      obtain ⟨b3, e3, rfl⟩ := own_len l3
      clear l1 l2 l3
      have R1 : Hid (Dl Q w (roS sys ++ (roF sm fns).take 0) (.slice b3 (roS sys).length e3) wr) := by unfold Hid; rw [List.take_zero, List.append_nil]; exact HR.out
      have HB1 := HB
      clear hsm hall hall2 HR HB
      go_wp2_with fail
      clear hgc
      go_loopw [3, 4, 6] (fun v3 v4 v37 W => ∃ i : Nat, i ≤ nf ∧ v37 = .int .i64 (i : Int) ∧ v4 = .int .i64 ((sm + sumR (fns.take i) : Nat) : Int) ∧ Hid (Dl Q w (roS sys ++ (roF sm fns).take i) v3 W) ∧ Hid (W.heap[gp]? = some (.cells #[.slice sa ns cs, .slice fa nf cf] 25 (0, 0)))) (fun _ _ v37 _ => nf - (intOf v37).toNat)
      case atStart => exact ⟨0, Nat.zero_le _, rfl, by simp [sumR], R1, HB1⟩
      case round =>
        obtain ⟨j, hj, rfl, rfl, HR, HGB⟩ := hrel
        clear R1 HB1
        have hgc : wr.cell? ⟨gp, 1, none⟩ = some (.slice fa nf cf) := by rw [cell_of_row wr _ _ _ 25 (0, 0) HGB.out]; rfl
        obtain ⟨L, l1, l2, l3⟩ := HR.out.ex
        obtain ⟨m3, hm3⟩ : ∃ x, x = (roS sys ++ (roF sm fns).take j).length := ⟨_, rfl⟩
        rw [← hm3] at l3
        have HM3 := hide hm3
        have OL := hide l3
        obtain ⟨b4, e4, rfl⟩ := own_len l3
        have L12 : Hid (L.map Dr.ro = roS sys ++ (roF sm fns).take j ∧ ∀ x ∈ L, DrOk Q w x) := ⟨l1, l2⟩
        have hm32 : m3 ≤ 32 := by rw [hm3, List.length_append, roS_len, List.length_take, roF_len]; have := HNS.out; omega
        have hsz := HR.out.below.size
        clear l1 l2 l3 hm3
        by_cases hlt : j < nf
        · have u1 : (j : Int) < (nf : Int) := by omega
          have hjf : j < fns.length := by have := HNF.out; omega
          obtain ⟨g, o, rfl, -, ip, il, vc, y1, y2, y3, y4, y5⟩ := HF.out.nth hjf
          have HGY : Hid (g < w.heap.size) := World.block_lt_of_cell? w _ y1
          have hM := Mv.of_below HR.out.below (fun _ => False)
          have z1 := hM.cell y1 id
          have z2 := hM.cell y2 id
          have z3 := hM.cell y3 id
          have z4 := hM.cell y4 id
          obtain ⟨n5, hn5⟩ : ∃ x, x = fns[j].code.length := ⟨_, rfl⟩
          obtain ⟨a5, k5, rfl, hle5, hcp5⟩ := y5.at
          have HT : Hid (roS sys ++ (roF sm fns).take (j + 1) = (roS sys ++ (roF sm fns).take j) ++ [⟨fns[j], sm + sumR (fns.take j), false, [], []⟩]) := by
            unfold Hid
            rw [List.take_succ_eq_append_getElem (by rw [roF_len]; exact hjf), roF_at hjf, List.append_assoc]
          have HSS : Hid (sumR (fns.take (j + 1)) = sumR (fns.take j) + n5) := by
            unfold Hid
            rw [sumR_snoc hjf, hn5]
          have HLE : Hid (sm + sumR (fns.take j) + n5 ≤ 2000) := by
            have h1 := HSS.out
            have h2 := HSUM.out
            have h4 := HSM.out
            have h3 : sumR (fns.take (j + 1)) ≤ sumR fns := by
              have h := congrArg sumR (List.take_append_drop (j + 1) fns)
              simp only [sumR, List.map_append, List.sum_append] at h ⊢
              omega
            unfold Hid
            omega
          have HRV : Hid (DrOk Q w ⟨⟨fns[j], sm + sumR (fns.take j), false, [], []⟩, .slice a5 fns[j].code.length k5, .slice none 0 0, .slice none 0 0, .slice none 0 0, .slice none 0 0, ⟨#[]⟩, 0, 0, .slice none 0 0⟩) := ⟨y5, Nl.nil _ _, Nl.nil _ _, ip, il, ⟨_, _, _, rfl⟩, ⟨_, _, _, rfl⟩, ⟨_, _, _, rfl⟩⟩
          rw [← hn5] at HRV z4 hle5
          clear hM y1 y2 y3 y4 y5 hn5 ip il
          generalize fns[j] = rt at *
          obtain ⟨nm, pa, lo, code⟩ := rt
          dsimp only at z1 z2 z3 z4 HT HRV
          obtain ⟨sr, hsr⟩ : ∃ x, x = sm + sumR (fns.take j) := ⟨_, rfl⟩
          rw [← hsr] at HT HLE HRV ⊢
          have hsm5 : sr + n5 ≤ 2000 := HLE.out
          have HSR := hide hsr
          clear hsr
          obtain ⟨W2, hW2⟩ : ∃ X, X = wr.alloc (.cells #[.string nm, .int .i64 pa, .int .i64 lo, .slice a5 n5 k5, .slice none 0 0, .slice none 0 0, .slice none 0 0, .slice none 0 0, .string ⟨#[]⟩, .int .i64 0, .int .i64 0, .slice none 0 0, .bool false, .int .i64 (sr : Int)] 90) := ⟨_, rfl⟩
          have b2 : Below wr.heap.size wr W2 := hW2 ▸ below_alloc wr _
          have O2 : Hid (W2.ownsRow w.heap.size 90 14 (.slice b4 m3 e4) m3 (fl drC L)) := own_later OL.out b2
          have NW : Hid (∀ j u, [.string nm, .int .i64 pa, .int .i64 lo, .slice a5 n5 k5, .slice none 0 0, .slice none 0 0, .slice none 0 0, .slice none 0 0, .string ⟨#[]⟩, .int .i64 0, .int .i64 0, .slice none 0 0, .bool false, .int .i64 (sr : Int)][j]? = some u → W2.cell? ((⟨wr.heap.size, 0, none⟩ : Addr).add j) = some u) := by
            unfold Hid
            rw [hW2]
            exact World.news_of_block (heap_alloc_new wr _)
          have B2 := hide b2
          have HW2 := hide hW2
          have SZ2 : Hid (w.heap.size ≤ W2.heap.size) := by have := b2.size; unfold Hid; omega
          have ZK : Hid (∀ V : World, V.heap[gp]? = wr.heap[gp]? → V.heap[g]? = wr.heap[g]? → V.cell? ⟨gp, 1, none⟩ = some (.slice (some ⟨g, o, none⟩) nf cf) ∧ V.cell? ⟨g, o + j * 4 + 3, none⟩ = some (.slice a5 n5 k5)) := fun V h1 h2 => by
            have e := h1.trans HGB.out
            refine ⟨by rw [cell_of_row V _ _ _ 25 (0, 0) e]; rfl, ?_⟩
            rw [World.cell?_of_block h2]
            exact z4
          obtain ⟨q1, -⟩ := ZK.out wr rfl rfl
          clear hW2 b2
          go_wp2_with (at_builtin; rw [← HW2.out]; refine wpList_append_lies _ rfl _ _ 86 rfl w.heap.size 90 ir (.agg #[.string ⟨#[]⟩, .int .i64 0, .int .i64 0, .slice none 0 0, .slice none 0 0, .slice none 0 0, .slice none 0 0, .slice none 0 0, .string ⟨#[]⟩, .int .i64 0, .int .i64 0, .slice none 0 0, .bool false, .int .i64 0]) 14 224 Tryz.underlying86 hir hr0 hr1 hr2 rfl (by decide) (.slice b4 m3 e4) m3 (fl drC L) rfl O2.out ⟨wr.heap.size, 0, none⟩ 1 1 [.string nm, .int .i64 pa, .int .i64 lo, .slice a5 n5 k5, .slice none 0 0, .slice none 0 0, .slice none 0 0, .slice none 0 0, .string ⟨#[]⟩, .int .i64 0, .int .i64 0, .slice none 0 0, .bool false, .int .i64 (sr : Int)] rfl rfl NW.out (one14 rfl rfl rfl rfl rfl rfl rfl rfl rfl rfl rfl rfl rfl rfl) (by omega) (by unfold maxLen; omega) (by omega) SZ2.out _ rfl ?_)
          intro g9 c9 w9 ho9 hg9 hw9 _
          have nP : Value.ownBlock (.slice b4 m3 e4) ≠ some gp := own_not OL.out HGB.out (by decide)
          have nG : Value.ownBlock (.slice b4 m3 e4) ≠ some g := fun e => by have h1 := (OL.out.lt g e).1; have h2 := HGY.out; omega
          have hgp1 := lt_of_block HGB.out
          have hg1 : g < wr.heap.size := by have h2 := HGY.out; have h3 := HR.out.below.size; omega
          have PK : w9.heap[gp]? = wr.heap[gp]? := (hg9.block gp (Nat.lt_of_lt_of_le hgp1 B2.out.size) (fun e => nP e.symm)).trans (B2.out.block gp hgp1)
          have GK : w9.heap[g]? = wr.heap[g]? := (hg9.block g (Nat.lt_of_lt_of_le hg1 B2.out.size) (fun e => nG e.symm)).trans (B2.out.block g hg1)
          obtain ⟨q2, q3⟩ := ZK.out w9 PK GK
          have BX : Hid (w9.heap[gp]? = some (.cells #[.slice sa ns cs, .slice (some ⟨g, o, none⟩) nf cf] 25 (0, 0))) := PK.trans HGB.out
          have BW : Hid (Below w.heap.size w w9) := by
            have hb := below_on HR.out.below B2.out
            exact hb.grown hg9 hb.size (fun k e => (O2.out.lt k e).1)
          have RN : Hid (Dl Q w (roS sys ++ (roF sm fns).take (j + 1)) (.slice (some ⟨g9, 0, none⟩) (m3 + 1) c9) w9) := by
            unfold Hid
            rw [HT.out]
            exact Dl.mk' (x := ⟨⟨⟨nm, pa, lo, code⟩, sr, false, [], []⟩, .slice a5 n5 k5, .slice none 0 0, .slice none 0 0, .slice none 0 0, .slice none 0 0, ⟨#[]⟩, 0, 0, .slice none 0 0⟩) HM3.out L12.out.1 L12.out.2 HRV.out ho9 BW.out
          have t5 : (sr : Int) + (n5 : Int) ≤ 2000 := by omega
          clear ho9 hg9 hw9 O2 NW OL HR B2 SZ2 HW2 q1 z1 z2 z3 z4 nP nG PK GK ZK HGB
          go_wp2_with fail
          go_roundw
          case rel => exact ⟨j + 1, by omega, by go_num, by rw [HSS.out, ← Nat.add_assoc, ← HSR.out]; go_num, RN, BX⟩
          case measure => simp [intOf]; omega
        · have u1 : ¬ (j : Int) < (nf : Int) := by omega
          have RF : Hid (Dl Q w (rosOf ⟨sys, fns⟩) (.slice b4 m3 e4) wr) := by
            have e : (roF sm fns).take j = roF sm fns := List.take_of_length_le (by rw [roF_len]; have := HNF.out; omega)
            have h1 := HR.out
            rw [e, HSM.out] at h1
            exact h1
          clear HR OL
          go_wp2_with fail
          go_ret
          exact ⟨_, rfl, RF.out⟩
end Go.Proofs.YtfkhhplcogedmaaGreatDoor
