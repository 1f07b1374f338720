/-
  Verify: the document's Verify.
-/
import Derived.Test.YtfkhhplcogedmaaGreatDoorVsH
import Derived.Test.YtfkhhplcogedmaaGreatDoorMgV
import Derived.Test.YtfkhhplcogedmaaGreatDoorVsC
import Derived.Test.YtfkhhplcogedmaaGreatDoorVsD
import Derived.Test.YtfkhhplcogedmaaGreatDoorVdF
import Derived.Test.YtfkhhplcogedmaaGreatDoorMgP
namespace Go.Proofs.YtfkhhplcogedmaaGreatDoor
open Go.RowKit
set_option maxRecDepth 100000
def atV (o : Option (Int × Int)) : Int := (o.map Prod.fst).getD 0
def erV (o : Option (Int × Int)) : Int := (o.map Prod.snd).getD 0
theorem infoLl : (Tryz.prog.info? 36).map (fun i => (i.zero, i.size, i.bytes)) = some (some (.slice none 0 0), 1, 24) := by kernel_rfl
theorem DA.none {fs : List Rt} {c : List Ins} {a e : Int} {l : List Int} (h : DA fs c a e l) (he : e = 0) : RD fs c ∧ a = 0 ∧ l = (List.range c.length).map fun p => dpR fs c p := by
  rcases h with ⟨-, -, h, -⟩ | ⟨-, -, h, -⟩ | ⟨-, -, p, hp, -, h, -⟩ | ⟨-, h1, h2, h3, -, h4⟩
  · omega
  · omega
  · exact absurd (h.symm.trans he) hp.2.1.2
  · exact ⟨⟨h1, h2⟩, h3, h4⟩
theorem DA.some {fs : List Rt} {c : List Ins} {a e : Int} {l : List Int} (h : DA fs c a e l) (hc : c.length ≤ 2000) (he : e ≠ 0) (pl : Int) : (c = [] ∧ some (pl + a, e) = some (pl, 153)) ∨ ∃ q : Nat, c ≠ [] ∧ Dpo 150 151 153 fs c (Option.some q) ∧ some (pl + a, e) = some (pl + (q : Int), wrR 150 151 153 fs c q) := by
  rcases h with ⟨h, -⟩ | ⟨h1, h2, h3, -⟩ | ⟨-, h1, p, hp, h2, h3, -⟩ | ⟨-, -, -, -, h, -⟩
  · omega
  · exact .inl ⟨h1, by rw [h2, h3]; simp⟩
  · exact .inr ⟨p, h1, hp, by rw [h2, h3]⟩
  · exact absurd h he
section
variable {p : Pg} {ks : List Kind} (hm : mayB ks) (hk : mayOk p = true)
include hm hk
theorem vo_1 {i : Nat} (h1 : Fst p.sys.length (SetBad ks.length p.sys) (some i)) : Vo p ks (some (plOf p i, 60)) := .inr (.inr ⟨hm, hk, some i, h1, .inl ⟨i, rfl, rfl⟩⟩)
theorem vo_2 {x : Int × Int} (h1 : Fst p.sys.length (SetBad ks.length p.sys) none) (h2 : TcO p.fns.length ks (rosOf p) (some x)) : Vo p ks (some x) := .inr (.inr ⟨hm, hk, none, h1, .inr ⟨rfl, some x, h2, .inl ⟨x, rfl, rfl⟩⟩⟩)
theorem vo_3 {n : Nat} (h1 : Fst p.sys.length (SetBad ks.length p.sys) none) (h2 : TcO p.fns.length ks (rosOf p) none) (h3 : Fst p.fns.length (Cyc (Eg (cls p.fns))) (some n)) : Vo p ks (some (plOf p (p.sys.length + n), 115)) := .inr (.inr ⟨hm, hk, none, h1, .inr ⟨rfl, none, h2, .inr ⟨rfl, some n, h3, .inl ⟨n, rfl, rfl⟩⟩⟩⟩)
theorem vo_4 {x : Int × Int} (h1 : Fst p.sys.length (SetBad ks.length p.sys) none) (h2 : TcO p.fns.length ks (rosOf p) none) (h3 : Fst p.fns.length (Cyc (Eg (cls p.fns))) none) (h4 : DaO p.fns (rosOf p) (some x)) : Vo p ks (some x) := .inr (.inr ⟨hm, hk, none, h1, .inr ⟨rfl, none, h2, .inr ⟨rfl, none, h3, .inr ⟨rfl, some x, h4, .inl ⟨x, rfl, rfl⟩⟩⟩⟩⟩)
theorem vo_5 {o : Option (Int × Int)} (h1 : Fst p.sys.length (SetBad ks.length p.sys) none) (h2 : TcO p.fns.length ks (rosOf p) none) (h3 : Fst p.fns.length (Cyc (Eg (cls p.fns))) none) (h4 : DaO p.fns (rosOf p) none) (h5 : RnO p.fns (rosOf p) o) : Vo p ks o := .inr (.inr ⟨hm, hk, none, h1, .inr ⟨rfl, none, h2, .inr ⟨rfl, none, h3, .inr ⟨rfl, none, h4, .inr ⟨rfl, h5⟩⟩⟩⟩⟩)
end
theorem plOf_at {p : Pg} {i : Nat} (h : i < (rosOf p).length) : plOf p i = ((rosOf p)[i].pl : Int) := by unfold plOf; rw [List.getElem?_eq_getElem h]; rfl
/-- The lists of a system. -/
def llS (s : Sy) : Nat → List Int := fun m => match m with | 0 => s.wi | 1 => s.wo | 2 => s.re | _ => s.wr
theorem setBad_ll {nk : Nat} {sys : List Sy} {i : Nat} (h : i < sys.length) : SetBad nk sys i ↔ ∃ m, m < 4 ∧ ∃ x ∈ llS sys[i] m, (nk : Int) < x := by
  constructor
  · rintro ⟨_, x, hx, hx2⟩
    simp only [List.mem_append] at hx
    rcases hx with ((hx | hx) | hx) | hx
    · exact ⟨0, by omega, x, hx, hx2⟩
    · exact ⟨1, by omega, x, hx, hx2⟩
    · exact ⟨2, by omega, x, hx, hx2⟩
    · exact ⟨3, by omega, x, hx, hx2⟩
  · rintro ⟨m, hm, x, hx, hx2⟩
    refine ⟨h, x, ?_, hx2⟩
    simp only [List.mem_append]
    match m, hm, hx with
    | 0, _, hx => exact .inl (.inl (.inl hx))
    | 1, _, hx => exact .inl (.inl (.inr hx))
    | 2, _, hx => exact .inl (.inr hx)
    | 3, _, hx => exact .inr hx
/-- The depths that are kept so far. -/
def Dpk (N : Nat) (fs : List Rt) (ros : List Ro) (i : Nat) (v : Value) (W : World) : Prop := ∃ rows : List Value, rows.length = i ∧ W.ownsRow N 36 1 v i rows ∧ ∀ j (h : j < rows.length) (h2 : j < ros.length), RD fs ros[j].rt.code ∧ W.ownsRow N 3 1 rows[j] ros[j].rt.code.length (zq ((List.range ros[j].rt.code.length).map fun p => dpR fs ros[j].rt.code p))
theorem Dpk.later {N : Nat} {fs : List Rt} {ros : List Ro} {i : Nat} {v : Value} {W W' : World} (h : Dpk N fs ros i v W) (hb : Below W.heap.size W W') : Dpk N fs ros i v W' := by
  obtain ⟨rows, h1, h2, h3⟩ := h
  exact ⟨rows, h1, own_later h2 hb, fun j a b => ⟨(h3 j a b).1, own_later (h3 j a b).2 hb⟩⟩
theorem Dpk.put {N : Nat} {fs : List Rt} {ros : List Ro} {i : Nat} {v v' u : Value} {W W' : World} (h : Dpk N fs ros i v W) (hi : i < ros.length) (hr : RD fs ros[i].rt.code) (hu : W.ownsRow N 3 1 u ros[i].rt.code.length (zq ((List.range ros[i].rt.code.length).map fun p => dpR fs ros[i].rt.code p))) (hg : W.grownBy W' v.ownBlock) (rows : List Value) (hrows : rows.length = i) (h2 : W.ownsRow N 36 1 v i rows) (h3 : ∀ j (h : j < rows.length) (h2 : j < ros.length), RD fs ros[j].rt.code ∧ W.ownsRow N 3 1 rows[j] ros[j].rt.code.length (zq ((List.range ros[j].rt.code.length).map fun p => dpR fs ros[j].rt.code p))) (ho : W'.ownsRow N 36 1 v' (i + 1) (rows ++ [u])) : Dpk N fs ros (i + 1) v' W' := by
  refine ⟨rows ++ [u], by rw [List.length_append, hrows]; rfl, ho, fun j hj hj2 => ?_⟩
  have key : ∀ {z : Value} {k : Nat} {xs : List Value}, W.ownsRow N 3 1 z k xs → W'.ownsRow N 3 1 z k xs := fun hz => own_kept hz hg (fun k e e' => own_ap2 h2 hz (by decide) k e' e)
  by_cases c : j < rows.length
  · rw [List.getElem_append_left c]
    exact ⟨(h3 j c hj2).1, key (h3 j c hj2).2⟩
  · obtain rfl : j = i := by rw [List.length_append, List.length_singleton] at hj; omega
    rw [List.getElem_append_right (by omega)]
    simp only [hrows, Nat.sub_self, List.getElem_cons_zero]
    exact ⟨hr, key hu⟩
theorem own_base {w : World} {B B' e s n : Nat} {v : Value} {xs : List Value} (h : w.ownsRow B e s v n xs) (hb : B' ≤ B) : w.ownsRow B' e s v n xs := ⟨h.1, h.2.imp id (fun ⟨g, c, k, e1, e2, e3⟩ => ⟨g, c, k, e1, Nat.le_trans hb e2, e3⟩)⟩
theorem dpR_six (fs : List Rt) (c : List Ins) (q : Nat) (h0 : c ≠ []) : I6 (dpR fs c q) := by
  unfold dpR I6
  by_cases h : Rcd fs c q
  · rw [dif_pos h]
    have := (h.choose_spec.lt (List.length_pos_iff.2 h0)).2
    omega
  · rw [dif_neg h]
    omega
theorem own_nlV {W : World} {B : Nat} {v : Value} {l : List Int} (h : W.ownsRow B 3 1 v l.length (zq l)) (h6 : ∀ x ∈ l, I6 x) : Nl (fun _ => True) W v l := by
  obtain ⟨a, c, rfl⟩ := own_len h
  obtain ⟨h1, h2⟩ := own_cap h
  refine ⟨a, c, rfl, h1, by unfold maxLen; omega, fun h0 => ?_⟩
  obtain ⟨g, c', e, -, -⟩ := own_form h h0
  simp only [Value.slice.injEq, true_and] at e
  obtain ⟨rfl, rfl⟩ := e
  refine ⟨g, 0, rfl, trivial, fun i hi => ⟨h6 _ (List.getElem_mem hi), ?_⟩⟩
  rw [Nat.zero_add, h.cellAt i (by omega)]
  simp [zq, hi]
set_option maxHeartbeats 16000000 in
theorem dverify_any {Q : Nat → Prop} {w : World} {vk : Value} {ns cs nf cf : Nat} {sa fa : Option Addr} {sys : List Sy} {fns : List Rt} {ks : List Kind} (hns : ns = sys.length) (hnf : nf = fns.length) (hc1 : ns ≤ cs) (hc2 : cs ≤ 9223372036854775807) (hc3 : nf ≤ cf) (hc4 : cf ≤ 9223372036854775807) (hS : Sys Q w (.slice sa ns cs) sys) (hF : Rts Q w (.slice fa nf cf) fns) (hk : Kr w vk ks) (hz : Sz ks) (z1 : ∀ s ∈ sys, s.run.name.size ≤ 9223372036854775807 ∧ s.run.code.length ≤ 35184372088832) (z2 : ∀ r ∈ fns, r.name.size ≤ 9223372036854775807 ∧ r.code.length ≤ 35184372088832) :
    Calls Tryz.prog 18 #[.agg #[.slice sa ns cs, .slice fa nf cf], vk] w fun e w' => (∃ o, e = .returned (.tuple #[.int .i64 (atV o), .int .i64 (erV o)]) ∧ Vo ⟨sys, fns⟩ ks o) ∧ Below w.heap.size w w' := by
  obtain ⟨ka, kc, rfl, kk1, kk2, -⟩ := id hk
  have kk3 : kc ≤ 9223372036854775807 := by unfold maxLen at kk2; omega
  obtain ⟨p, hp⟩ : ∃ p, p = (⟨sys, fns⟩ : Pg) := ⟨_, rfl⟩
  have HPS : Hid (sys = p.sys ∧ fns = p.fns) := by rw [hp]; exact ⟨rfl, rfl⟩
  obtain ⟨w0, hw0⟩ : ∃ X, X = w.alloc (.cells #[.slice sa ns cs, .slice fa nf cf] 25) := ⟨_, rfl⟩
  have b0 : Below w.heap.size w w0 := by rw [hw0]; exact below_alloc w _
  have k0 : w0.heap[w.heap.size]? = some (.cells #[.slice sa ns cs, .slice fa nf cf] 25 (0, 0)) := by rw [hw0]; exact heap_alloc_new w _
  obtain ⟨gp, hgp⟩ : ∃ x, x = w.heap.size := ⟨_, rfl⟩
  rw [← hgp] at k0
  have KP : Hid (∀ V, Below w0.heap.size w0 V → V.cell? ⟨gp, 0, none⟩ = some (.slice sa ns cs) ∧ V.cell? ⟨gp, 1, none⟩ = some (.slice fa nf cf)) := fun V hV => prow2 ((hV.block gp (lt_of_block k0)).trans k0)
  have B0 := hide b0
  obtain ⟨nk, hnk⟩ : ∃ n, n = ks.length := ⟨_, rfl⟩
  have HNK := hide hnk
  have HS := hide hS
  have HF := hide hF
  have HKR := hide hk
  have JM := hide (dmaybe_any (hk.later b0) hz)
  have JY : Hid (∀ V, Below w0.heap.size w0 V → Calls Tryz.prog 32 #[.agg #[.slice sa ns cs, .slice fa nf cf]] V fun e w' => e = .returned (.bool (mayOk p)) ∧ Below V.heap.size V w') := fun V hV => by rw [hp]; exact dmay_at sys fns hns hnf hc2 hc4 (hS.later (below_on b0 hV)) (hF.later (below_on b0 hV)) z1 z2
  have JR : Hid (mayOk p = true → ∀ V, Below w0.heap.size w0 V → Calls Tryz.prog 33 #[.agg #[.slice sa ns cs, .slice fa nf cf]] V fun e w' => ∃ v, e = .returned v ∧ Dl Q V (rosOf p) v w') := fun hm V hV => by
    obtain ⟨⟨h1, h2⟩, -, -, h3⟩ := mayOk_all hm
    rw [hp] at h1 h2 h3 ⊢
    dsimp only at h1 h2 h3
    exact droutines_at sys fns hns hnf hc1 hc2 hc3 hc4 (hS.later (below_on b0 hV)) (hF.later (below_on b0 hV)) (by omega) (by omega) h3
  have HNS := hide hns
  have HNF := hide hnf
  rw [← hp]
  rw [← hnk] at JM kk1 HKR ⊢
  have HPP := hide hp
  clear hS hF hk hz z1 z2 hns hnf hnk hp b0 k0 kk2
  go_enter Tryz.func18, Tryz.ntmps18
  go_upto_region 1 with fail
  rw [← hw0, ← hgp]
  clear hw0 hgp
  go_wp2_with fail
  refine JM.out.mono ?_
  rintro e w1 ⟨⟨mb, rfl, hmb⟩, b1⟩
  have HMB := hide hmb
  have B1 := hide b1
  obtain ⟨c0, c1⟩ := KP.out w1 b1
  clear JM hmb b1
  cases mb with
  | false =>
    have HV : Hid (Vo p ks (some (0, 65))) := .inl ⟨fun e => (by have := HMB.out.2 e; cases this), rfl⟩
    have BF := hide (below_on B0.out B1.out)
    clear HMB JY JR
    go_wp2_with fail
    go_ret2
    exact ⟨⟨some (0, 65), rfl, HV.out⟩, BF.out⟩
  | true =>
  have HM : Hid (mayB ks) := HMB.out.1 rfl
  have J2 := hide (JY.out w1 B1.out)
  obtain ⟨mk, hmk⟩ : ∃ b, b = mayOk p := ⟨_, rfl⟩
  have HMK := hide hmk
  rw [← hmk] at J2
  clear JY HMB hmk
  go_wp2_with fail
  refine J2.out.mono ?_
  rintro e w2 ⟨rfl, b2⟩
  have B2 := hide (below_on B1.out b2)
  clear J2 b2 c0 c1
  obtain ⟨c0, c1⟩ := KP.out w2 B2.out
  cases mk with
  | false =>
    have HV : Hid (Vo p ks (some (0, 130))) := .inr (.inl ⟨HM.out, HMK.out.symm, rfl⟩)
    have BF := hide (below_on B0.out B2.out)
    clear JR
    go_wp2_with fail
    go_ret2
    exact ⟨⟨some (0, 130), rfl, HV.out⟩, BF.out⟩
  | true =>
  have HMY : Hid (mayOk p = true) := HMK.out.symm
  have J3 := hide (JR.out HMY.out w2 B2.out)
  clear JR HMK
  go_wp2_with fail
  refine J3.out.mono ?_
  rintro e w3 ⟨v7, rfl, hdl⟩
  have B3 := hide (below_on B2.out hdl.below)
  obtain ⟨m, hm⟩ : ∃ m, m = (rosOf p).length := ⟨_, rfl⟩
  have hmm : m = ns + nf := by rw [hm, rosOf_len, ← HPS.out.1, ← HPS.out.2, HNS.out, HNF.out]
  have hm32 : ns ≤ 16 ∧ nf ≤ 16 := by
    obtain ⟨⟨h1, h2⟩, -⟩ := mayOk_all HMY.out
    rw [← HPS.out.1] at h1
    rw [← HPS.out.2] at h2
    have := HNS.out
    have := HNF.out
    omega
  obtain ⟨L, l1, l2, l3⟩ := hdl.ex
  rw [← hm] at l3
  have hL : L.length = m := by rw [hm, ← l1, List.length_map]
  obtain ⟨a7, c7, rfl⟩ := own_len l3
  obtain ⟨q71, q72⟩ := own_cap l3
  have RW := hide l3
  have HLM := hide hL
  have HM2 := hide hm
  have RO : Hid (∀ i (h : i < L.length), ∃ h2 : i < (rosOf p).length, L[i].ro = (rosOf p)[i]) := fun i h => ⟨by rw [← l1, List.length_map]; exact h, by
    have : (L.map Dr.ro)[i]'(by rw [List.length_map]; exact h) = (rosOf p)[i]'(by rw [← l1, List.length_map]; exact h) := by congr 1
    rw [List.getElem_map] at this
    exact this⟩
  have RK : Hid (∀ V, Below w2.heap.size w2 V → ∀ x ∈ L, DrOk Q V x) := fun V hV x hx => (l2 x hx).later hV
  have RC : Hid (∀ V, Below w3.heap.size w3 V → ∀ i (h : i < L.length), ∃ g7, a7 = some ⟨g7, 0, none⟩ ∧ ∀ k, k < 14 → V.cell? ⟨g7, i * 14 + k, none⟩ = (drC L[i])[k]?) := fun V hV i h => by
    have hr := own_later RW.out hV
    obtain ⟨g7, c', e, -, -⟩ := own_form hr (by have := HLM.out; omega)
    simp only [Value.slice.injEq, true_and] at e
    obtain ⟨rfl, rfl⟩ := e
    refine ⟨g7, rfl, fun k hk => (hr.cellAt _ (by have := HLM.out; omega)).trans ?_⟩
    have := fl_at drC_len L i h k hk
    rw [← this]
  have RP : Hid (∀ V, Below w3.heap.size w3 V → ∀ i, i < m → ∃ g7, a7 = some ⟨g7, 0, none⟩ ∧ V.cell? ⟨g7, i * 14 + 13, none⟩ = some (.int .i64 (plOf p i))) := fun V hV i h => by
    have hi : i < L.length := by have := HLM.out; omega
    obtain ⟨g7, e, h1⟩ := RC.out V hV i hi
    obtain ⟨h2, h3⟩ := RO.out i hi
    refine ⟨g7, e, (h1 13 (by omega)).trans ?_⟩
    rw [plOf_at h2, ← h3]
    rfl
  have RALL : Hid (∀ r ∈ rosOf p, r.pl + r.rt.code.length ≤ 2000) := fun r hr => (ros_all HMY.out r hr).2.1
  have BWL : Hid (Below w2.heap.size w2 w3) := hdl.below
  clear J3 hdl l1 l2 l3 hL hm c0 c1
  go_wp2_with fail
  go_loopw [8] (fun v8 W => ∃ i : Nat, i ≤ ns ∧ v8 = .int .i64 (i : Int) ∧ Hid (∀ j, j < i → ¬ SetBad nk sys j) ∧ Hid (Below w3.heap.size w3 W)) (fun v8 _ => ns - (intOf v8).toNat)
  case atStart => exact ⟨0, Nat.zero_le _, rfl, fun j h => absurd h (by omega), Below.refl _ _⟩
  case round =>
    obtain ⟨i, hi, rfl, HNO, HB⟩ := hrel
    obtain ⟨c0, c1⟩ := KP.out wr (below_on B3.out HB.out)
    by_cases hlt : i < ns
    · as_aux_lemma =>
      have t1 : (i : Int) < (ns : Int) := by omega
      have his : i < sys.length := by have := HNS.out; omega
      have BW : Hid (Below w.heap.size w wr) := below_on B0.out (below_on B3.out HB.out)
      obtain ⟨g, o, rfl, -, hat⟩ := (HS.out.later BW.out).nth his
      obtain ⟨a1, a2, a3, a4, a5, n1, n2, n3, n4, n5, k1, k2, k3, k4, k5, HV, y1, y2, y3, y4, y5, y6, y7, y8⟩ := hat.vs
      have HSB := hide (setBad_ll (nk := nk) his)
      have HNL1 := nl_lenD HV.w
      have HNL2 := nl_lenD HV.wo
      have HNL3 := nl_lenD HV.re
      have HNL4 := nl_lenD HV.wr
      obtain ⟨s, hs⟩ : ∃ s, s = sys[i] := ⟨_, rfl⟩
      rw [← hs] at HSB HNL1 HNL2 HNL3 HNL4 y5 y6 y7
      have hvw := HV.w
      have hvo := HV.wo
      have hvr := HV.re
      have hvx := HV.wr
      rw [← hs] at hvw hvo hvr hvx
      obtain ⟨W1, hW1⟩ : ∃ X, X = wr.alloc (.cells #[.slice a1 n1 k1, .slice a2 n2 k2, .slice a3 n3 k3, .slice a4 n4 k4, .string s.run.name, .int .i64 s.run.pa, .int .i64 s.run.lo, .slice a5 n5 k5] 38) := ⟨_, rfl⟩
      have b1 : Below wr.heap.size wr W1 := hW1 ▸ below_alloc wr _
      have kx : W1.heap[wr.heap.size]? = some (.cells #[.slice a1 n1 k1, .slice a2 n2 k2, .slice a3 n3 k3, .slice a4 n4 k4, .string s.run.name, .int .i64 s.run.pa, .int .i64 s.run.lo, .slice a5 n5 k5] 38 (0, 0)) := by rw [hW1]; exact heap_alloc_new wr _
      obtain ⟨x1, x2, x3, x4, -⟩ := row8 kx
      obtain ⟨W2, hW2⟩ : ∃ X, X = W1.alloc (.cells #[.slice a1 n1 k1, .slice a2 n2 k2, .slice a3 n3 k3, .slice a4 n4 k4] 36) := ⟨_, rfl⟩
      have b2 : Below W1.heap.size W1 W2 := hW2 ▸ below_alloc W1 _
      have kq : W2.heap[W1.heap.size]? = some (.cells #[.slice a1 n1 k1, .slice a2 n2 k2, .slice a3 n3 k3, .slice a4 n4 k4] 36 (0, 0)) := by rw [hW2]; exact heap_alloc_new W1 _
      obtain ⟨gx, hgx⟩ : ∃ x, x = wr.heap.size := ⟨_, rfl⟩
      obtain ⟨gq, hgq⟩ : ∃ x, x = W1.heap.size := ⟨_, rfl⟩
      rw [← hgq] at kq
      rw [← hgx] at x1 x2 x3 x4
      have BQ := hide (below_on HB.out (below_on b1 b2))
      have hb12 := below_on b1 b2
      have HLL : Hid (∀ m, m < 4 → ∃ am nm km, W2.cell? ⟨gq, m, none⟩ = some (.slice am nm km) ∧ nm = (llS s m).length ∧ nm ≤ km ∧ km ≤ 9223372036854775807 ∧ Nl Q W2 (.slice am nm km) (llS s m)) := fun m hm => by
        have key : ∀ k, W2.cell? ⟨gq, k, none⟩ = (#[Value.slice a1 n1 k1, .slice a2 n2 k2, .slice a3 n3 k3, .slice a4 n4 k4] : Array Value)[k]? := fun k => cell_of_row W2 _ _ _ 36 (0, 0) kq
        match m, hm with
        | 0, _ => exact ⟨a1, n1, k1, key 0, HNL1, by have := hvw.at; obtain ⟨_, _, e, h, _⟩ := this; injection e with _ e2 e3; omega, by obtain ⟨_, _, e, _, h⟩ := hvw.at; injection e with _ e2 e3; omega, hvw.later hb12⟩
        | 1, _ => exact ⟨a2, n2, k2, key 1, HNL2, by obtain ⟨_, _, e, h, _⟩ := hvo.at; injection e with _ e2 e3; omega, by obtain ⟨_, _, e, _, h⟩ := hvo.at; injection e with _ e2 e3; omega, hvo.later hb12⟩
        | 2, _ => exact ⟨a3, n3, k3, key 2, HNL3, by obtain ⟨_, _, e, h, _⟩ := hvr.at; injection e with _ e2 e3; omega, by obtain ⟨_, _, e, _, h⟩ := hvr.at; injection e with _ e2 e3; omega, hvr.later hb12⟩
        | 3, _ => exact ⟨a4, n4, k4, key 3, HNL4, by obtain ⟨_, _, e, h, _⟩ := hvx.at; injection e with _ e2 e3; omega, by obtain ⟨_, _, e, _, h⟩ := hvx.at; injection e with _ e2 e3; omega, hvx.later hb12⟩
      obtain ⟨g7, rfl, xp⟩ := RP.out W2 BQ.out i (by omega)
      obtain ⟨pl, hpl⟩ : ∃ x, x = plOf p i := ⟨_, rfl⟩
      have HPL := hide hpl
      rw [← hpl] at xp
      have him : (i : Int) < (m : Int) := by omega
      clear hat HV hs HNL1 HNL2 HNL3 HNL4 hvw hvo hvr hvx kx kq b1 b2 hb12 hpl
      go_upto_region 12 with fail
      rw [← hW1, ← hgx]
      clear hW1 hgx y1 y2 y3 y4 y5 y6 y7 y8
      go_upto_region 13 with fail
      rw [← hW2, ← hgq]
      clear hW2 hgq x1 x2 x3 x4
      go_wp2_with fail
      go_loopw [11] (fun v11 W => ∃ k : Nat, k ≤ 4 ∧ v11 = .int .i64 (k : Int) ∧ Hid (∀ q, q < k → ∀ x ∈ llS s q, ¬ (nk : Int) < x) ∧ W = W2) (fun v11 _ => 4 - (intOf v11).toNat)
      case atStart => exact ⟨0, Nat.zero_le _, rfl, fun q h => absurd h (by omega), rfl⟩
      case round =>
        obtain ⟨k, hk4, rfl, HK, hW⟩ := hrel
        subst hW
        by_cases hk : k < 4
        · have t2 : (k : Int) < 4 := by omega
          obtain ⟨am, nm, km, xq, hnm, hmk1, hmk2, hnl⟩ := HLL.out k hk
          have HNM := hide hnm
          have HNL := hide hnl
          clear hnm hnl
          go_wp2_with fail
          go_loopw [12] (fun v12 W => ∃ j : Nat, j ≤ nm ∧ v12 = .int .i64 (j : Int) ∧ Hid (∀ q (h : q < (llS s k).length), q < j → ¬ (nk : Int) < (llS s k)[q]) ∧ W = wr) (fun v12 _ => nm - (intOf v12).toNat)
          case atStart => exact ⟨0, Nat.zero_le _, rfl, fun q h h2 => absurd h2 (by omega), rfl⟩
          case round =>
            obtain ⟨j, hj, rfl, HJ, hW⟩ := hrel
            subst hW
            by_cases hjl : j < nm
            · have t3 : (j : Int) < (nm : Int) := by omega
              have hjll : j < (llS s k).length := by have := HNM.out; omega
              obtain ⟨gl, ol, rfl, -, z0, -⟩ := HNL.out.nth hjll
              obtain ⟨z, hz⟩ : ∃ z, z = (llS s k)[j] := ⟨_, rfl⟩
              have HZ := hide hz
              rw [← hz] at z0
              clear hz
              by_cases cz : z > (nk : Int)
              · have HV : Hid (Vo p ks (some (pl, 60))) := by
                  rw [HPL.out]
                  refine vo_1 HM.out HMY.out ?_
                  rw [← HPS.out.1, ← HNK.out]
                  exact ⟨his, HSB.out.2 ⟨k, hk, z, by rw [HZ.out]; exact List.getElem_mem hjll, cz⟩, HNO.out⟩
                have BF := hide (below_on B0.out (below_on B3.out BQ.out))
                clear HNL HLL HSB HK HJ HNO
                go_wp2_with fail
                go_ret2
                exact ⟨⟨some (pl, 60), rfl, HV.out⟩, BF.out⟩
              · have HJ2 : Hid (∀ q (h : q < (llS s k).length), q < j + 1 → ¬ (nk : Int) < (llS s k)[q]) := fun q h h2 => by
                  by_cases e : q = j
                  · subst e
                    rw [← HZ.out]
                    exact cz
                  · have := HJ.out q h (by omega)
                    omega
                clear HJ
                go_wp2_with fail
                go_roundw
                case rel => exact ⟨j + 1, by omega, by go_num, HJ2, trivial⟩
                case measure => simp [intOf]; omega
            · have t3 : ¬ (j : Int) < (nm : Int) := by omega
              have HK2 : Hid (∀ q, q < k + 1 → ∀ x ∈ llS s q, ¬ (nk : Int) < x) := fun q h x hx => by
                by_cases e : q = k
                · subst e
                  obtain ⟨r, hr, rfl⟩ := List.getElem_of_mem hx
                  have := HJ.out r hr (by have := HNM.out; omega)
                  omega
                · have := HK.out q (by omega) x hx
                  omega
              clear HJ HK
              go_wp2_with fail
              go_roundw
              case rel => exact ⟨k + 1, by omega, by go_num, HK2, trivial⟩
              case measure => simp [intOf]; omega
        · have t2 : ¬ (k : Int) < 4 := by omega
          have HN2 : Hid (∀ j, j < i + 1 → ¬ SetBad nk sys j) := fun j h hb => by
            by_cases e : j = i
            · subst e
              obtain ⟨q, hq, x, hx, hx2⟩ := HSB.out.1 hb
              have := HK.out q (by omega) x hx
              omega
            · exact HNO.out j (by omega) hb
          clear HK HNO
          go_wp2_with fail
          go_roundw
          case rel => exact ⟨i + 1, by omega, by go_num, HN2, BQ⟩
          case measure => simp [intOf]; omega
    · have t1 : ¬ (i : Int) < (ns : Int) := by omega
      have HSN : Hid (Fst p.sys.length (SetBad ks.length p.sys) none) := fun j hj => by
        rw [← HPS.out.1, ← HNK.out]
        refine HNO.out j ?_
        rw [← HPS.out.1] at hj
        have := HNS.out
        omega
      obtain ⟨w4, hw4⟩ : ∃ X, X = wr := ⟨_, rfl⟩
      rw [← hw4] at HB c0 c1 ⊢
      have B4 := HB
      clear HNO HB hw4 HS hlt hi
      go_wp2_with fail
      go_loopw [13] (fun v13 W => ∃ i : Nat, i ≤ m ∧ v13 = .int .i64 (i : Int) ∧ Hid (∀ j, j < i → ¬ RBad p.fns.length ks (rosOf p) j) ∧ Hid (Below w4.heap.size w4 W)) (fun v13 _ => m - (intOf v13).toNat)
      case atStart => exact ⟨0, Nat.zero_le _, rfl, fun j h => absurd h (by omega), Below.refl _ _⟩
      case round =>
        obtain ⟨i, hi, rfl, HNO, HB⟩ := hrel
        have BW3 := hide (below_on B4.out HB.out)
        by_cases hlt : i < m
        · as_aux_lemma =>
          have t1 : (i : Int) < (m : Int) := by omega
          have hiL : i < L.length := by have := HLM.out; omega
          obtain ⟨h2, hro⟩ := RO.out i hiL
          obtain ⟨g7, e7, -⟩ := RC.out wr BW3.out i hiL
          have HRI : Hid (∀ V, Below wr.heap.size wr V → ∀ k, k < 14 → V.cell? ⟨g7, i * 14 + k, none⟩ = (drC L[i])[k]?) := fun V hV k hk => by
            obtain ⟨g', e', h'⟩ := RC.out V (below_on BW3.out hV) i hiL
            rw [e7] at e'
            simp only [Option.some.injEq, Addr.mk.injEq, and_true] at e'
            subst e'
            exact h' k hk
          have hok := RK.out wr (below_on BWL.out BW3.out) _ (List.getElem_mem hiL)
          obtain ⟨x, hx⟩ : ∃ x, x = L[i] := ⟨_, rfl⟩
          rw [← hx] at hro hok HRI
          have hle := RALL.out _ (List.getElem_mem h2)
          rw [← hro] at hle
          clear hx
          obtain ⟨⟨⟨nm, pa, lo, code⟩, pl, sy, re, wrt⟩, vc, v1, v2, v3, v4, n2, p2, l2, vx⟩ := x
          have HOK := hide hok
          obtain ⟨hco, hre, hwr, -, -, ⟨a1, m1, k1, e1⟩, ⟨a2, m2, k2, e2⟩, ⟨ax, mx, kx, ex⟩⟩ := hok
          dsimp only at hco hre hwr e1 e2 ex hle
          subst e1 e2 ex e7
          obtain ⟨a3, c3, rfl, -, -⟩ := hre.at
          obtain ⟨a4, c4, rfl, -, -⟩ := hwr.at
          obtain ⟨a5, c5, rfl, h51, h52⟩ := hco.at
          obtain ⟨n5, hn5⟩ : ∃ n, n = code.length := ⟨_, rfl⟩
          have HCO : Hid (Il Q wr (.slice a5 n5 c5) code) := by rw [hn5]; exact hco
          have HRE := hide hre
          have HWR := hide hwr
          have HN5 := hide hn5
          have HRO := hide hro
          have SX : Hid (∀ V, Below wr.heap.size wr V → (V.cell? ⟨gp, 0, none⟩ = some (.slice sa ns cs) ∧ V.cell? ⟨gp, 1, none⟩ = some (.slice fa nf cf)) ∧ V.cell? ⟨g7, i * 14, none⟩ = some (.string nm) ∧ V.cell? ⟨g7, i * 14 + 1, none⟩ = some (.int .i64 pa) ∧ V.cell? ⟨g7, i * 14 + 2, none⟩ = some (.int .i64 lo) ∧ V.cell? ⟨g7, i * 14 + 3, none⟩ = some (.slice a5 n5 c5) ∧ V.cell? ⟨g7, i * 14 + 4, none⟩ = some (.slice a1 m1 k1) ∧ V.cell? ⟨g7, i * 14 + 5, none⟩ = some (.slice a2 m2 k2) ∧ V.cell? ⟨g7, i * 14 + 6, none⟩ = some (.slice a3 re.length c3) ∧ V.cell? ⟨g7, i * 14 + 7, none⟩ = some (.slice a4 wrt.length c4) ∧ V.cell? ⟨g7, i * 14 + 8, none⟩ = some (.string n2) ∧ V.cell? ⟨g7, i * 14 + 9, none⟩ = some (.int .i64 p2) ∧ V.cell? ⟨g7, i * 14 + 10, none⟩ = some (.int .i64 l2) ∧ V.cell? ⟨g7, i * 14 + 11, none⟩ = some (.slice ax mx kx) ∧ V.cell? ⟨g7, i * 14 + 12, none⟩ = some (.bool sy) ∧ V.cell? ⟨g7, i * 14 + 13, none⟩ = some (.int .i64 (pl : Int))) := fun V hV => by
            have h := HRI.out V hV
            rw [hn5]
            exact ⟨KP.out V (below_on B3.out (below_on BW3.out hV)), h 0 (by omega), h 1 (by omega), h 2 (by omega), h 3 (by omega), h 4 (by omega), h 5 (by omega), h 6 (by omega), h 7 (by omega), h 8 (by omega), h 9 (by omega), h 10 (by omega), h 11 (by omega), h 12 (by omega), h 13 (by omega)⟩
          rw [← hn5] at h51 hle
          have hn52 : n5 ≤ 2000 := by omega
          clear hn5 hro hre hwr HRI
          have hsk := (sets_kinds HMY.out HSN.out) _ (List.getElem_mem h2)
          rw [← HRO.out] at hsk
          have HTB := fun k => acN_tb (nf := p.fns.length) (ks := ks) (r := ⟨⟨nm, pa, lo, code⟩, pl, sy, re, wrt⟩) (p := k) hsk.1
          have HTBH := hide HTB
          have JA : Hid (∀ V, Below wr.heap.size wr V → ∀ k, k < n5 → Calls Tryz.prog 34 #[.agg #[.slice sa ns cs, .slice fa nf cf], .slice ka nk kc, .agg #[.string nm, .int .i64 pa, .int .i64 lo, .slice a5 n5 c5, .slice a1 m1 k1, .slice a2 m2 k2, .slice a3 re.length c3, .slice a4 wrt.length c4, .string n2, .int .i64 p2, .int .i64 l2, .slice ax mx kx, .bool sy, .int .i64 (pl : Int)], .int .i64 (k : Int)] V fun e w' => e = .returned (.int .i64 (acN p.fns.length ks ⟨⟨nm, pa, lo, code⟩, pl, sy, re, wrt⟩ k)) ∧ Below V.heap.size V w') := fun V hV k hk => by
            rw [show p.fns.length = nf by rw [← HPS.out.2]; exact HNF.out.symm]
            exact daccess_at nm pa lo code pl sy re wrt n2 p2 l2 HN5.out HNK.out hc3 hc4 (Kr.later HKR.out (below_on B0.out (below_on B3.out (below_on BW3.out hV)))) (HCO.out.later hV) (HRE.out.later hV) (HWR.out.later hV) k hk hn52
          clear HTB hsk HOK
          go_wp2_with fail
          go_loopw [14] (fun v14 W => ∃ k : Nat, k ≤ n5 ∧ v14 = .int .i64 (k : Int) ∧ Hid (∀ a, a < k → ¬ TB p.fns.length ks ⟨⟨nm, pa, lo, code⟩, pl, sy, re, wrt⟩ a) ∧ Hid (Below wr.heap.size wr W)) (fun v14 _ => n5 - (intOf v14).toNat)
          case atStart => exact ⟨0, Nat.zero_le _, rfl, fun j h => absurd h (by omega), Below.refl _ _⟩
          case round =>
            rename_i wr0 hrel0
            obtain ⟨k, hk, rfl, HNA, HB2⟩ := hrel
            have y3 := (SX.out wr HB2.out).2.2.2.2.1
            by_cases hkl : k < n5
            · have t2 : (k : Int) < (n5 : Int) := by omega
              have J1 := hide (JA.out wr.drew (below_on HB2.out (below_drew wr)) k hkl)
              have S0 := hide (SX.out wr.drew (below_on HB2.out (below_drew wr)))
              obtain ⟨ac, hac⟩ : ∃ x, x = acN p.fns.length ks ⟨⟨nm, pa, lo, code⟩, pl, sy, re, wrt⟩ k := ⟨_, rfl⟩
              have HAC := hide hac
              rw [← hac] at J1
              have HT := hide (HTBH.out k)
              rw [← hac] at HT
              clear hac
              go_upto_region 27 with fail
              clear y3
              go_region_held3 (fun V => (V.cell? ⟨gp, 0, none⟩ = some (.slice sa ns cs) ∧ V.cell? ⟨gp, 1, none⟩ = some (.slice fa nf cf)) ∧ V.cell? ⟨g7, i * 14, none⟩ = some (.string nm) ∧ V.cell? ⟨g7, i * 14 + 1, none⟩ = some (.int .i64 pa) ∧ V.cell? ⟨g7, i * 14 + 2, none⟩ = some (.int .i64 lo) ∧ V.cell? ⟨g7, i * 14 + 3, none⟩ = some (.slice a5 n5 c5) ∧ V.cell? ⟨g7, i * 14 + 4, none⟩ = some (.slice a1 m1 k1) ∧ V.cell? ⟨g7, i * 14 + 5, none⟩ = some (.slice a2 m2 k2) ∧ V.cell? ⟨g7, i * 14 + 6, none⟩ = some (.slice a3 re.length c3) ∧ V.cell? ⟨g7, i * 14 + 7, none⟩ = some (.slice a4 wrt.length c4) ∧ V.cell? ⟨g7, i * 14 + 8, none⟩ = some (.string n2) ∧ V.cell? ⟨g7, i * 14 + 9, none⟩ = some (.int .i64 p2) ∧ V.cell? ⟨g7, i * 14 + 10, none⟩ = some (.int .i64 l2) ∧ V.cell? ⟨g7, i * 14 + 11, none⟩ = some (.slice ax mx kx) ∧ V.cell? ⟨g7, i * 14 + 12, none⟩ = some (.bool sy) ∧ V.cell? ⟨g7, i * 14 + 13, none⟩ = some (.int .i64 (pl : Int))) (first | exact S0.out | exact S1) ((go_at_call 34; refine J1.out.mono ?_; rintro e w5 ⟨rfl, b5⟩; have B5 := hide (below_on HB2.out (below_on (below_drew wr) b5)); have S1 := SX.out w5 B5.out; clear b5))
              have y13 := S1.2.2.2.2.2.2.2.2.2.2.2.2.2.2
              clear S0 S1 J1
              by_cases ctb : TB p.fns.length ks ⟨⟨nm, pa, lo, code⟩, pl, sy, re, wrt⟩ k
              · obtain ⟨e1, e2⟩ := HT.out.1 ctb
                have f1 : (ac != 0) = true := by simp [e2]
                have HV : Hid (Vo p ks (some ((pl : Int) + (k : Int), ac))) := by
                  refine vo_2 HM.out HMY.out HSN.out (.inr ⟨i, k, h2, HNO.out, ?_, ?_⟩)
                  · rw [← HRO.out]
                    exact ⟨by have := HN5.out; dsimp only; omega, ctb, HNA.out⟩
                  · rw [← HRO.out, ← e1]
                have BF := hide (below_on B0.out (below_on B3.out (below_on BW3.out B5.out)))
                have tw : (pl : Int) + (k : Int) ≤ 2000 := by omega
                clear HT HNA HNO SX JA HTBH e1 e2 ctb
                go_wp2_with fail
                go_ret2
                exact ⟨⟨some ((pl : Int) + (k : Int), ac), rfl, HV.out⟩, BF.out⟩
              · obtain rfl : ac = 0 := HT.out.2 ctb
                have HNA2 : Hid (∀ a, a < k + 1 → ¬ TB p.fns.length ks ⟨⟨nm, pa, lo, code⟩, pl, sy, re, wrt⟩ a) := fun a h => by
                  by_cases e : a = k
                  · subst e; exact ctb
                  · exact HNA.out a (by omega)
                clear HT HNA ctb y13
                go_wp2_with fail
                go_roundw
                case rel => exact ⟨k + 1, by omega, by go_num, HNA2, B5⟩
                case measure => simp [intOf]; omega
            · have t2 : ¬ (k : Int) < (n5 : Int) := by omega
              have HN2 : Hid (∀ j, j < i + 1 → ¬ RBad p.fns.length ks (rosOf p) j) := fun j h hb => by
                by_cases e : j = i
                · subst e
                  obtain ⟨_, a, ha, hb⟩ := hb
                  rw [← HRO.out] at ha hb
                  exact HNA.out a (by have := HN5.out; dsimp only at ha; omega) hb
                · exact HNO.out j (by omega) hb
              have BN := hide (below_on HB.out HB2.out)
              clear HNA HNO
              go_wp2_with fail
              go_roundw
              case rel => exact ⟨i + 1, by omega, by go_num, HN2, BN⟩
              case measure => simp [intOf]; omega
        · have t1 : ¬ (i : Int) < (m : Int) := by omega
          have HTC : Hid (TcO p.fns.length ks (rosOf p) none) := .inl ⟨rfl, fun n hn => HNO.out n (by have := HM2.out; omega)⟩
          obtain ⟨w5, hw5⟩ : ∃ X, X = wr := ⟨_, rfl⟩
          rw [← hw5] at HB BW3 ⊢
          clear HNO hw5 hlt hi c0 c1
          have B5 := HB
          clear HB
          obtain ⟨c0, c1⟩ := KP.out w5 (below_on B3.out BW3.out)
          go_wp2_with fail
          go_loopw [16] (fun v16 W => ∃ i : Nat, i ≤ nf ∧ v16 = .int .i64 (i : Int) ∧ Hid (∀ j, j < i → ¬ Cyc (Eg (cls p.fns)) j) ∧ Hid (Below w4.heap.size w4 W)) (fun v16 _ => nf - (intOf v16).toNat)
          case atStart => exact ⟨0, Nat.zero_le _, rfl, fun j h => absurd h (by omega), B5⟩
          case round =>
            obtain ⟨i, hi, rfl, HNO, HB⟩ := hrel
            have BW3 := hide (below_on B4.out HB.out)
            obtain ⟨c0, c1⟩ := KP.out wr (below_on B3.out BW3.out)
            by_cases hlt : i < nf
            · as_aux_lemma =>
              have t1 : (i : Int) < (nf : Int) := by omega
              have J1 := hide (dloops_any (w := wr) (vs := .slice sa ns cs) ⟨_, _, _, rfl⟩ (HF.out.later (below_on B0.out (below_on B3.out BW3.out))) i (by have := HNF.out; omega) (by have := HNF.out; omega) (by have h := calls_there HMY.out HTC.out; rw [← HPS.out.2] at h; exact h))
              rw [HPS.out.2] at J1
              have HTC0 := HTC
              clear HTC
              go_wp2_with fail
              refine J1.out.mono ?_
              rintro e w6 ⟨⟨b, rfl, hb⟩, b6⟩
              have B6 := hide (below_on HB.out b6)
              have HBB := hide hb
              obtain ⟨c0', c1'⟩ := KP.out w6 (below_on B3.out (below_on B4.out B6.out))
              clear J1 hb b6 c0 c1
              cases b with
              | true =>
                have hcy := HBB.out.1 rfl
                obtain ⟨q, hq⟩ : ∃ q, q = ns + i := ⟨_, rfl⟩
                obtain ⟨g7, rfl, yp⟩ := RP.out w6 (below_on B4.out B6.out) q (by omega)
                obtain ⟨pq, hpq⟩ : ∃ x, x = plOf p q := ⟨_, rfl⟩
                rw [← hpq] at yp
                have HV : Hid (Vo p ks (some (pq, 115))) := by
                  have e : q = p.sys.length + i := by rw [hq, ← HPS.out.1, ← HNS.out]
                  rw [hpq, e]
                  exact vo_3 HM.out HMY.out HSN.out HTC0.out ⟨by rw [← HPS.out.2]; have := HNF.out; omega, hcy, HNO.out⟩
                have BF := hide (below_on B0.out (below_on B3.out (below_on B4.out B6.out)))
                have tw : IntKind.i64.wrap ((ns : Int) + (i : Int)) = (q : Int) := by rw [IntKind.wrap_i64]; omega
                have tw2 : (ns : Int) + (i : Int) = (q : Int) := by omega
                have tq : (q : Int) < (m : Int) := by omega
                clear hq hpq HBB HNO hcy
                go_wp2_with fail
                go_ret2
                exact ⟨⟨some (pq, 115), rfl, HV.out⟩, BF.out⟩
              | false =>
                have HN2 : Hid (∀ j, j < i + 1 → ¬ Cyc (Eg (cls p.fns)) j) := fun j h hb => by
                  by_cases e : j = i
                  · subst e
                    have := HBB.out.2 hb
                    cases this
                  · exact HNO.out j (by omega) hb
                clear HNO HBB c0' c1'
                go_wp2_with fail
                go_roundw
                case rel => exact ⟨i + 1, by omega, by go_num, HN2, B6⟩
                case measure => simp [intOf]; omega
            · have t1 : ¬ (i : Int) < (nf : Int) := by omega
              have HCY : Hid (Fst p.fns.length (Cyc (Eg (cls p.fns))) none) := fun j hj => by
                rw [← HPS.out.2] at hj
                exact HNO.out j (by have := HNF.out; omega)
              obtain ⟨w6, hw6⟩ : ∃ X, X = wr := ⟨_, rfl⟩
              rw [← hw6] at HB BW3 c0 c1 ⊢
              clear HNO hw6 hlt hi
              have B6 := HB
              clear HB
              have DP0 : Hid (Dpk w4.heap.size p.fns (rosOf p) 0 (.slice none 0 0) w6) := ⟨[], rfl, World.ownsRow_nil _ _ _ _, fun j h => absurd h (by simp)⟩
              go_wp2_with fail
              clear c0 c1
              go_loopw [18, 19] (fun v18 v19 W => ∃ i : Nat, i ≤ m ∧ v19 = .int .i64 (i : Int) ∧ Hid (Dpk w4.heap.size p.fns (rosOf p) i v18 W) ∧ Hid (Below w4.heap.size w4 W)) (fun _ v19 _ => m - (intOf v19).toNat)
              case atStart => exact ⟨0, Nat.zero_le _, rfl, DP0, B6⟩
              case round =>
                obtain ⟨i, hi, rfl, HDP, HB⟩ := hrel
                clear DP0
                have BW3 := hide (below_on B4.out HB.out)
                obtain ⟨rows0, -, ow0, -⟩ := HDP.out
                obtain ⟨a18, c18, rfl⟩ := own_len ow0
                clear ow0 rows0
                by_cases hlt : i < m
                · as_aux_lemma =>
                  have t1 : (i : Int) < (m : Int) := by omega
                  have hiL : i < L.length := by have := HLM.out; omega
                  obtain ⟨h2, hro⟩ := RO.out i hiL
                  obtain ⟨g7, e7, -⟩ := RC.out wr BW3.out i hiL
                  have HRI : Hid (∀ V, Below wr.heap.size wr V → ∀ k, k < 14 → V.cell? ⟨g7, i * 14 + k, none⟩ = (drC L[i])[k]?) := fun V hV k hk => by
                    obtain ⟨g', e', h'⟩ := RC.out V (below_on BW3.out hV) i hiL
                    rw [e7] at e'
                    simp only [Option.some.injEq, Addr.mk.injEq, and_true] at e'
                    subst e'
                    exact h' k hk
                  have hok := RK.out wr (below_on BWL.out BW3.out) _ (List.getElem_mem hiL)
                  obtain ⟨x, hx⟩ : ∃ x, x = L[i] := ⟨_, rfl⟩
                  rw [← hx] at hro hok HRI
                  have hle := RALL.out _ (List.getElem_mem h2)
                  rw [← hro] at hle
                  clear hx
                  obtain ⟨⟨⟨nm, pa, lo, code⟩, pl, sy, re, wrt⟩, vc, v1, v2, v3, v4, n2, p2, l2, vx⟩ := x
                  have HOK := hide hok
                  obtain ⟨hco, hre, hwr, -, -, ⟨a1, m1, k1, e1⟩, ⟨a2, m2, k2, e2⟩, ⟨ax, mx, kx, ex⟩⟩ := hok
                  dsimp only at hco hre hwr e1 e2 ex hle
                  subst e1 e2 ex e7
                  obtain ⟨a3, c3, rfl, -, -⟩ := hre.at
                  obtain ⟨a4, c4, rfl, -, -⟩ := hwr.at
                  obtain ⟨a5, c5, rfl, h51, h52⟩ := hco.at
                  obtain ⟨n5, hn5⟩ : ∃ n, n = code.length := ⟨_, rfl⟩
                  have HCO : Hid (Il Q wr (.slice a5 n5 c5) code) := by rw [hn5]; exact hco
                  have HRE := hide hre
                  have HWR := hide hwr
                  have HN5 := hide hn5
                  have HRO := hide hro
                  have SX : Hid (∀ V, Below wr.heap.size wr V → (V.cell? ⟨gp, 0, none⟩ = some (.slice sa ns cs) ∧ V.cell? ⟨gp, 1, none⟩ = some (.slice fa nf cf)) ∧ V.cell? ⟨g7, i * 14, none⟩ = some (.string nm) ∧ V.cell? ⟨g7, i * 14 + 1, none⟩ = some (.int .i64 pa) ∧ V.cell? ⟨g7, i * 14 + 2, none⟩ = some (.int .i64 lo) ∧ V.cell? ⟨g7, i * 14 + 3, none⟩ = some (.slice a5 n5 c5) ∧ V.cell? ⟨g7, i * 14 + 4, none⟩ = some (.slice a1 m1 k1) ∧ V.cell? ⟨g7, i * 14 + 5, none⟩ = some (.slice a2 m2 k2) ∧ V.cell? ⟨g7, i * 14 + 6, none⟩ = some (.slice a3 re.length c3) ∧ V.cell? ⟨g7, i * 14 + 7, none⟩ = some (.slice a4 wrt.length c4) ∧ V.cell? ⟨g7, i * 14 + 8, none⟩ = some (.string n2) ∧ V.cell? ⟨g7, i * 14 + 9, none⟩ = some (.int .i64 p2) ∧ V.cell? ⟨g7, i * 14 + 10, none⟩ = some (.int .i64 l2) ∧ V.cell? ⟨g7, i * 14 + 11, none⟩ = some (.slice ax mx kx) ∧ V.cell? ⟨g7, i * 14 + 12, none⟩ = some (.bool sy) ∧ V.cell? ⟨g7, i * 14 + 13, none⟩ = some (.int .i64 (pl : Int))) := fun V hV => by
                    have h := HRI.out V hV
                    rw [hn5]
                    exact ⟨KP.out V (below_on B3.out (below_on BW3.out hV)), h 0 (by omega), h 1 (by omega), h 2 (by omega), h 3 (by omega), h 4 (by omega), h 5 (by omega), h 6 (by omega), h 7 (by omega), h 8 (by omega), h 9 (by omega), h 10 (by omega), h 11 (by omega), h 12 (by omega), h 13 (by omega)⟩
                  rw [← hn5] at h51 hle
                  have hn52 : n5 ≤ 2000 := by omega
                  clear hn5 hro hre hwr HRI
                  have J1 := hide (ddepths_any (w := wr.drew) (vs := .slice sa ns cs) (vf := .slice fa nf cf) (vc := .slice a5 code.length c5) nm pa lo ⟨_, _, _, rfl⟩ (hco.later (below_drew wr)) (HF.out.later (below_on (below_on B0.out (below_on B3.out BW3.out)) (below_drew wr))))
                  rw [← HN5.out, HPS.out.2] at J1
                  have S0 := hide (SX.out wr.drew (below_drew wr))
                  clear hco HOK
                  go_upto_region 40 with fail
                  go_region_held3 (fun V => (V.cell? ⟨gp, 0, none⟩ = some (.slice sa ns cs) ∧ V.cell? ⟨gp, 1, none⟩ = some (.slice fa nf cf)) ∧ V.cell? ⟨g7, i * 14, none⟩ = some (.string nm) ∧ V.cell? ⟨g7, i * 14 + 1, none⟩ = some (.int .i64 pa) ∧ V.cell? ⟨g7, i * 14 + 2, none⟩ = some (.int .i64 lo) ∧ V.cell? ⟨g7, i * 14 + 3, none⟩ = some (.slice a5 n5 c5) ∧ V.cell? ⟨g7, i * 14 + 4, none⟩ = some (.slice a1 m1 k1) ∧ V.cell? ⟨g7, i * 14 + 5, none⟩ = some (.slice a2 m2 k2) ∧ V.cell? ⟨g7, i * 14 + 6, none⟩ = some (.slice a3 re.length c3) ∧ V.cell? ⟨g7, i * 14 + 7, none⟩ = some (.slice a4 wrt.length c4) ∧ V.cell? ⟨g7, i * 14 + 8, none⟩ = some (.string n2) ∧ V.cell? ⟨g7, i * 14 + 9, none⟩ = some (.int .i64 p2) ∧ V.cell? ⟨g7, i * 14 + 10, none⟩ = some (.int .i64 l2) ∧ V.cell? ⟨g7, i * 14 + 11, none⟩ = some (.slice ax mx kx) ∧ V.cell? ⟨g7, i * 14 + 12, none⟩ = some (.bool sy) ∧ V.cell? ⟨g7, i * 14 + 13, none⟩ = some (.int .i64 (pl : Int))) (first | exact S0.out | exact S1) ((go_at_call 36; refine J1.out.mono ?_; rintro e w7 ⟨⟨vd, at_, er, l, rfl, hda, hown⟩, b7⟩; have HDA := hide hda; have HOW := hide hown; have B7 := hide (below_on (below_drew wr) b7); have S1 := SX.out w7 B7.out; clear b7 hda hown))
                  have y13 := S1.2.2.2.2.2.2.2.2.2.2.2.2.2.2
                  have hln := HDA.out.len
                  clear S0 S1 J1
                  by_cases ce : er = 0
                  · obtain ⟨r1, r2, r3⟩ := HDA.out.none ce
                    subst ce r2 r3
                    rw [List.length_map, List.length_range] at HOW
                    have HDP7 := hide (HDP.out.later B7.out)
                    obtain ⟨rows, d1, d2, d3⟩ := HDP7.out
                    have HROW : Hid (w7.ownsRow w4.heap.size 36 1 (.slice a18 i c18) i rows) := d2
                    obtain ⟨il, hil, hl0, hl1, hl2⟩ := info_parts infoLl
                    obtain ⟨ad, cd, hvd⟩ := own_len HOW.out
                    subst hvd
                    have HO4 : Hid (w7.ownsRow w4.heap.size 3 1 (.slice ad code.length cd) code.length (zq ((List.range code.length).map fun q => dpR p.fns code q))) := own_base HOW.out (by have h1 := HB.out.size; show w4.heap.size ≤ wr.drew.heap.size; exact h1)
                    have BA := hide (below_alloc w7 (.cells #[.slice ad code.length cd] 36))
                    have B8 := hide (below_on HB.out B7.out)
                    have HD13 : Hid (rows.length = i ∧ ∀ j (h : j < rows.length) (h2 : j < (rosOf p).length), RD p.fns (rosOf p)[j].rt.code ∧ w7.ownsRow w4.heap.size 3 1 rows[j] (rosOf p)[j].rt.code.length (zq ((List.range (rosOf p)[j].rt.code.length).map fun q => dpR p.fns (rosOf p)[j].rt.code q))) := ⟨d1, d3⟩
                    clear d1 d2 d3 y13 hln
                    go_wp2_with (at_builtin; refine wpList_append_lies _ rfl _ _ 88 rfl w4.heap.size 36 il (.slice none 0 0) 1 24 Tryz.underlying88 hil hl0 hl1 hl2 rfl (by decide) (.slice a18 i c18) i rows rfl (own_later HROW.out BA.out) ⟨w7.heap.size, 0, none⟩ 1 1 [.slice ad code.length cd] rfl rfl ?n1 (by intro u hu; simp at hu; subst hu; rfl) (by omega) (by unfold maxLen; omega) (by omega) ?n2 _ rfl ?_)
                    case n1 =>
                      intro j u hj
                      match j, hj with
                      | 0, hj => simp at hj; subst hj; simp [Addr.add]
                    case n2 => have h1 := B8.out.size; have h2 := BA.out.size; omega
                    intro g9 c9 w9 ho9 hg9 hw9 _
                    have RN : Hid (Dpk w4.heap.size p.fns (rosOf p) (i + 1) (.slice (some ⟨g9, 0, none⟩) (i + 1) c9) w9) := by
                      obtain ⟨d1, d3⟩ := HD13.out
                      refine Dpk.put (HDP7.out.later BA.out) h2 ?_ ?_ hg9 rows d1 (own_later HROW.out BA.out) (fun j a b => ⟨(d3 j a b).1, own_later (d3 j a b).2 BA.out⟩) ho9
                      · rw [← HRO.out]; exact r1
                      · rw [← HRO.out]; exact own_later HO4.out BA.out
                    have B9 : Hid (Below w4.heap.size w4 w9) := by
                      have bb := below_on B8.out BA.out
                      exact bb.grown hg9 bb.size (fun k e => ((own_later HROW.out BA.out).lt k e).1)
                    clear ho9 hg9 hw9 HDP HDP7 HROW HO4 HOW HDA HD13 BA
                    go_wp2_with fail
                    go_roundw
                    case rel => exact ⟨i + 1, by omega, by go_num, RN, B9⟩
                    case measure => simp [intOf]; omega
                  · have f1 : (er != 0) = true := by simp [ce]
                    have HV : Hid (Vo p ks (some ((pl : Int) + at_, er))) := by
                      refine vo_4 HM.out HMY.out HSN.out HTC.out HCY.out (.inr ⟨i, h2, fun j hj => ?_, ?_⟩)
                      · obtain ⟨rows, d1, -, d3⟩ := HDP.out
                        exact (d3 j (by omega) (by omega)).1
                      · have h := HDA.out.some (by have := HN5.out; omega) ce (pl : Int)
                        rw [← HRO.out]
                        exact h
                    have BF := hide (below_on B0.out (below_on B3.out (below_on BW3.out B7.out)))
                    have tw : IntKind.i64.wrap ((pl : Int) + at_) = (pl : Int) + at_ := by rw [IntKind.wrap_i64]; omega
                    clear HDA HOW HDP ce
                    go_wp2_with fail
                    go_ret2
                    exact ⟨⟨some ((pl : Int) + at_, er), rfl, HV.out⟩, BF.out⟩
                · have t1 : ¬ (i : Int) < (m : Int) := by omega
                  obtain rfl : m = i := by omega
                  have HDO : Hid (DaO p.fns (rosOf p) none) := .inl ⟨rfl, fun n hn => by
                    obtain ⟨rows, d1, -, d3⟩ := HDP.out
                    exact (d3 n (by have := HM2.out; omega) hn).1⟩
                  obtain ⟨w7, hw7⟩ : ∃ X, X = wr := ⟨_, rfl⟩
                  rw [← hw7] at HB BW3 HDP ⊢
                  clear hw7 hlt hi
                  have B7 := HB
                  have DPM := HDP
                  clear HB HDP
                  go_wp2_with fail
                  go_loopw [23] (fun v23 W => ∃ i : Nat, i ≤ m ∧ v23 = .int .i64 (i : Int) ∧ Hid (∀ j (hj : j < (rosOf p).length), j < i → ∀ b, b < (rosOf p)[j].rt.code.length → ¬ RnB p.fns (rosOf p)[j] b) ∧ Hid (Below w7.heap.size w7 W)) (fun v23 _ => m - (intOf v23).toNat)
                  case atStart => exact ⟨0, Nat.zero_le _, rfl, fun j _ h => absurd h (by omega), Below.refl _ _⟩
                  case round =>
                    obtain ⟨i, hi, rfl, HNO, HB⟩ := hrel
                    have BW3 := hide (below_on B4.out (below_on B7.out HB.out))
                    by_cases hlt : i < m
                    · as_aux_lemma =>
                      have t1 : (i : Int) < (m : Int) := by omega
                      have hiL : i < L.length := by have := HLM.out; omega
                      obtain ⟨h2, hro⟩ := RO.out i hiL
                      obtain ⟨g7, e7, -⟩ := RC.out wr BW3.out i hiL
                      have HRI : Hid (∀ V, Below wr.heap.size wr V → ∀ k, k < 14 → V.cell? ⟨g7, i * 14 + k, none⟩ = (drC L[i])[k]?) := fun V hV k hk => by
                        obtain ⟨g', e', h'⟩ := RC.out V (below_on BW3.out hV) i hiL
                        rw [e7] at e'
                        simp only [Option.some.injEq, Addr.mk.injEq, and_true] at e'
                        subst e'
                        exact h' k hk
                      have hok := RK.out wr (below_on BWL.out BW3.out) _ (List.getElem_mem hiL)
                      obtain ⟨x, hx⟩ : ∃ x, x = L[i] := ⟨_, rfl⟩
                      rw [← hx] at hro hok HRI
                      have hle := RALL.out _ (List.getElem_mem h2)
                      rw [← hro] at hle
                      clear hx
                      obtain ⟨⟨⟨nm, pa, lo, code⟩, pl, sy, re, wrt⟩, vc, v1, v2, v3, v4, n2, p2, l2, vx⟩ := x
                      have HOK := hide hok
                      obtain ⟨hco, hre, hwr, -, -, ⟨a1, m1, k1, e1⟩, ⟨a2, m2, k2, e2⟩, ⟨ax, mx, kx, ex⟩⟩ := hok
                      dsimp only at hco hre hwr e1 e2 ex hle
                      subst e1 e2 ex e7
                      obtain ⟨a3, c3, rfl, -, -⟩ := hre.at
                      obtain ⟨a4, c4, rfl, -, -⟩ := hwr.at
                      obtain ⟨a5, c5, rfl, h51, h52⟩ := hco.at
                      obtain ⟨n5, hn5⟩ : ∃ n, n = code.length := ⟨_, rfl⟩
                      have HCO : Hid (Il Q wr (.slice a5 n5 c5) code) := by rw [hn5]; exact hco
                      have HRE := hide hre
                      have HWR := hide hwr
                      have HN5 := hide hn5
                      have HRO := hide hro
                      have SX : Hid (∀ V, Below wr.heap.size wr V → (V.cell? ⟨gp, 0, none⟩ = some (.slice sa ns cs) ∧ V.cell? ⟨gp, 1, none⟩ = some (.slice fa nf cf)) ∧ V.cell? ⟨g7, i * 14, none⟩ = some (.string nm) ∧ V.cell? ⟨g7, i * 14 + 1, none⟩ = some (.int .i64 pa) ∧ V.cell? ⟨g7, i * 14 + 2, none⟩ = some (.int .i64 lo) ∧ V.cell? ⟨g7, i * 14 + 3, none⟩ = some (.slice a5 n5 c5) ∧ V.cell? ⟨g7, i * 14 + 4, none⟩ = some (.slice a1 m1 k1) ∧ V.cell? ⟨g7, i * 14 + 5, none⟩ = some (.slice a2 m2 k2) ∧ V.cell? ⟨g7, i * 14 + 6, none⟩ = some (.slice a3 re.length c3) ∧ V.cell? ⟨g7, i * 14 + 7, none⟩ = some (.slice a4 wrt.length c4) ∧ V.cell? ⟨g7, i * 14 + 8, none⟩ = some (.string n2) ∧ V.cell? ⟨g7, i * 14 + 9, none⟩ = some (.int .i64 p2) ∧ V.cell? ⟨g7, i * 14 + 10, none⟩ = some (.int .i64 l2) ∧ V.cell? ⟨g7, i * 14 + 11, none⟩ = some (.slice ax mx kx) ∧ V.cell? ⟨g7, i * 14 + 12, none⟩ = some (.bool sy) ∧ V.cell? ⟨g7, i * 14 + 13, none⟩ = some (.int .i64 (pl : Int))) := fun V hV => by
                        have h := HRI.out V hV
                        rw [hn5]
                        exact ⟨KP.out V (below_on B3.out (below_on BW3.out hV)), h 0 (by omega), h 1 (by omega), h 2 (by omega), h 3 (by omega), h 4 (by omega), h 5 (by omega), h 6 (by omega), h 7 (by omega), h 8 (by omega), h 9 (by omega), h 10 (by omega), h 11 (by omega), h 12 (by omega), h 13 (by omega)⟩
                      rw [← hn5] at h51 hle
                      have hn52 : n5 ≤ 2000 := by omega
                      clear hn5 hro hre hwr HRI
                      obtain ⟨rows, d1, d2, d3⟩ := DPM.out
                      have him : i < rows.length := by omega
                      obtain ⟨r1, r2⟩ := d3 i him h2
                      rw [← HRO.out] at r1 r2
                      obtain ⟨ga, ca, ea, qa1, qa2⟩ := own_form d2 (by omega)
                      obtain ⟨u, hu⟩ : ∃ u, u = rows[i] := ⟨_, rfl⟩
                      rw [← hu] at r2
                      have XD : Hid (∀ V, Below wr.heap.size wr V → V.cell? ⟨ga, i, none⟩ = some u) := fun V hV => by
                        have hr := own_later d2 (below_on HB.out hV)
                        rw [ea] at hr
                        rw [hr.cellAt i (by omega), List.getElem?_eq_getElem him, hu]
                      have OU := hide r2
                      have HRD := hide r1
                      obtain ⟨au, cu, hau⟩ := own_len r2
                      dsimp only at hau
                      rw [← HN5.out] at hau
                      simp only [Value.slice.injEq, true_and] at ea
                      obtain ⟨rfl, rfl⟩ := ea
                      subst hau
                      have JN : Hid (∀ V, Below wr.heap.size wr V → ∀ k, k < n5 → Calls Tryz.prog 37 #[.slice a5 n5 c5, .slice au n5 cu, .int .i64 (k : Int)] V fun e w' => (∃ b : Bool, e = .returned (.bool b) ∧ (b = true ↔ Cyc (rdE p.fns code) k)) ∧ Below V.heap.size V w') := fun V hV k hk => by
                        rw [HN5.out]
                        have ho := own_later OU.out (below_on HB.out hV)
                        refine dround_any (hco.later hV) (own_nlV (l := (List.range code.length).map fun q => dpR p.fns code q) (by rw [List.length_map, List.length_range]; have := ho; rw [HN5.out] at this; exact this) ?_) HRD.out (by have := HN5.out; omega) k (by have := HN5.out; omega)
                        intro z hz
                        obtain ⟨q, -, rfl⟩ := List.mem_map.1 hz
                        exact dpR_six p.fns code q HRD.out.1
                      have HCR : Hid (∀ k, Cyc (rdE p.fns code) k ↔ RnB p.fns ⟨⟨nm, pa, lo, code⟩, pl, sy, re, wrt⟩ k) := fun k => cyc_rd HRD.out
                      clear d1 d2 d3 r1 r2 him hu HOK
                      go_wp2_with fail
                      go_loopw [24] (fun v24 W => ∃ k : Nat, k ≤ n5 ∧ v24 = .int .i64 (k : Int) ∧ Hid (∀ a, a < k → ¬ RnB p.fns ⟨⟨nm, pa, lo, code⟩, pl, sy, re, wrt⟩ a) ∧ Hid (Below wr.heap.size wr W)) (fun v24 _ => n5 - (intOf v24).toNat)
                      case atStart => exact ⟨0, Nat.zero_le _, rfl, fun j h => absurd h (by omega), Below.refl _ _⟩
                      case round =>
                        rename_i wr0 hrel0
                        obtain ⟨k, hk, rfl, HNA, HB2⟩ := hrel
                        have xd := XD.out wr HB2.out
                        by_cases hkl : k < n5
                        · have t2 : (k : Int) < (n5 : Int) := by omega
                          have J1 := hide (JN.out wr.drew (below_on HB2.out (below_drew wr)) k hkl)
                          have S0 : Hid (((wr.drew.cell? ⟨gp, 0, none⟩ = some (.slice sa ns cs) ∧ wr.drew.cell? ⟨gp, 1, none⟩ = some (.slice fa nf cf)) ∧ wr.drew.cell? ⟨g7, i * 14, none⟩ = some (.string nm) ∧ wr.drew.cell? ⟨g7, i * 14 + 1, none⟩ = some (.int .i64 pa) ∧ wr.drew.cell? ⟨g7, i * 14 + 2, none⟩ = some (.int .i64 lo) ∧ wr.drew.cell? ⟨g7, i * 14 + 3, none⟩ = some (.slice a5 n5 c5) ∧ wr.drew.cell? ⟨g7, i * 14 + 4, none⟩ = some (.slice a1 m1 k1) ∧ wr.drew.cell? ⟨g7, i * 14 + 5, none⟩ = some (.slice a2 m2 k2) ∧ wr.drew.cell? ⟨g7, i * 14 + 6, none⟩ = some (.slice a3 re.length c3) ∧ wr.drew.cell? ⟨g7, i * 14 + 7, none⟩ = some (.slice a4 wrt.length c4) ∧ wr.drew.cell? ⟨g7, i * 14 + 8, none⟩ = some (.string n2) ∧ wr.drew.cell? ⟨g7, i * 14 + 9, none⟩ = some (.int .i64 p2) ∧ wr.drew.cell? ⟨g7, i * 14 + 10, none⟩ = some (.int .i64 l2) ∧ wr.drew.cell? ⟨g7, i * 14 + 11, none⟩ = some (.slice ax mx kx) ∧ wr.drew.cell? ⟨g7, i * 14 + 12, none⟩ = some (.bool sy) ∧ wr.drew.cell? ⟨g7, i * 14 + 13, none⟩ = some (.int .i64 (pl : Int))) ∧ wr.drew.cell? ⟨ga, i, none⟩ = some (.slice au n5 cu)) := ⟨SX.out wr.drew (below_on HB2.out (below_drew wr)), XD.out wr.drew (below_on HB2.out (below_drew wr))⟩
                          go_upto_region 50 with fail
                          clear xd
                          go_region_held3 (fun V => ((V.cell? ⟨gp, 0, none⟩ = some (.slice sa ns cs) ∧ V.cell? ⟨gp, 1, none⟩ = some (.slice fa nf cf)) ∧ V.cell? ⟨g7, i * 14, none⟩ = some (.string nm) ∧ V.cell? ⟨g7, i * 14 + 1, none⟩ = some (.int .i64 pa) ∧ V.cell? ⟨g7, i * 14 + 2, none⟩ = some (.int .i64 lo) ∧ V.cell? ⟨g7, i * 14 + 3, none⟩ = some (.slice a5 n5 c5) ∧ V.cell? ⟨g7, i * 14 + 4, none⟩ = some (.slice a1 m1 k1) ∧ V.cell? ⟨g7, i * 14 + 5, none⟩ = some (.slice a2 m2 k2) ∧ V.cell? ⟨g7, i * 14 + 6, none⟩ = some (.slice a3 re.length c3) ∧ V.cell? ⟨g7, i * 14 + 7, none⟩ = some (.slice a4 wrt.length c4) ∧ V.cell? ⟨g7, i * 14 + 8, none⟩ = some (.string n2) ∧ V.cell? ⟨g7, i * 14 + 9, none⟩ = some (.int .i64 p2) ∧ V.cell? ⟨g7, i * 14 + 10, none⟩ = some (.int .i64 l2) ∧ V.cell? ⟨g7, i * 14 + 11, none⟩ = some (.slice ax mx kx) ∧ V.cell? ⟨g7, i * 14 + 12, none⟩ = some (.bool sy) ∧ V.cell? ⟨g7, i * 14 + 13, none⟩ = some (.int .i64 (pl : Int))) ∧ V.cell? ⟨ga, i, none⟩ = some (.slice au n5 cu)) (first | exact S0.out | exact S1) ((go_at_call 37; refine J1.out.mono ?_; rintro e w9 ⟨⟨b, rfl, hb⟩, b9⟩; have HBB := hide hb; have B9 := hide (below_on HB2.out (below_on (below_drew wr) b9)); have S1 := (show _ ∧ _ from ⟨SX.out w9 B9.out, XD.out w9 B9.out⟩); clear b9 hb))
                          have y13 := S1.1.2.2.2.2.2.2.2.2.2.2.2.2.2.2
                          clear S0 S1 J1
                          cases b with
                          | true =>
                            have hcy := (HCR.out k).1 (HBB.out.1 rfl)
                            have HV : Hid (Vo p ks (some ((pl : Int) + (k : Int), 153))) := by
                              refine vo_5 HM.out HMY.out HSN.out HTC.out HCY.out HDO.out (.inr ⟨i, k, h2, fun j hj b hb => HNO.out j (by omega) hj b hb, ?_, ?_⟩)
                              · rw [← HRO.out]
                                exact ⟨by have := HN5.out; dsimp only; omega, hcy, HNA.out⟩
                              · rw [← HRO.out]
                            have BF := hide (below_on B0.out (below_on B3.out (below_on BW3.out B9.out)))
                            have tw : (pl : Int) + (k : Int) ≤ 2000 := by omega
                            clear HBB HNA HNO SX JN hcy
                            go_wp2_with fail
                            go_ret2
                            exact ⟨⟨some ((pl : Int) + (k : Int), 153), rfl, HV.out⟩, BF.out⟩
                          | false =>
                            have HNA2 : Hid (∀ a, a < k + 1 → ¬ RnB p.fns ⟨⟨nm, pa, lo, code⟩, pl, sy, re, wrt⟩ a) := fun a h hr => by
                              by_cases e : a = k
                              · subst e
                                have := HBB.out.2 ((HCR.out a).2 hr)
                                cases this
                              · exact HNA.out a (by omega) hr
                            clear HBB HNA y13
                            go_wp2_with fail
                            go_roundw
                            case rel => exact ⟨k + 1, by omega, by go_num, HNA2, B9⟩
                            case measure => simp [intOf]; omega
                        · have t2 : ¬ (k : Int) < (n5 : Int) := by omega
                          have HN2 : Hid (∀ j (hj : j < (rosOf p).length), j < i + 1 → ∀ b, b < (rosOf p)[j].rt.code.length → ¬ RnB p.fns (rosOf p)[j] b) := fun j hj h b hb hr => by
                            by_cases e : j = i
                            · subst e
                              rw [← HRO.out] at hb hr
                              exact HNA.out b (by have := HN5.out; dsimp only at hb; omega) hr
                            · exact HNO.out j hj (by omega) b hb hr
                          have BN := hide (below_on HB.out HB2.out)
                          clear HNA HNO
                          go_wp2_with fail
                          go_roundw
                          case rel => exact ⟨i + 1, by omega, by go_num, HN2, BN⟩
                          case measure => simp [intOf]; omega
                    · have t1 : ¬ (i : Int) < (m : Int) := by omega
                      have HV : Hid (Vo p ks none) := vo_5 HM.out HMY.out HSN.out HTC.out HCY.out HDO.out (.inl ⟨rfl, fun n hn a ha => HNO.out n hn (by have := HM2.out; omega) a ha⟩)
                      have BF := hide (below_on B0.out (below_on B3.out BW3.out))
                      clear HNO
                      go_wp2_with fail
                      go_ret2
                      exact ⟨⟨none, rfl, HV.out⟩, BF.out⟩
end Go.Proofs.YtfkhhplcogedmaaGreatDoor
