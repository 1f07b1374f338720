import Derived.Test.YtfbhoemfabgjpaaGreatMgBA
import Derived.Test.YtfbhoemfabgjpaaGreatMgAO
/-
  Buffer: a command is done to a world.
-/
namespace Go.Proofs.YtfbhoemfabgjpaaGreat
open Go.RowKit
set_option maxRecDepth 100000
/-- What a command leaves. -/
def Dn (ks : List Kind) (σ : St) (c : Cm) (own : Nat → Nat) (gw N : Nat) (V w' : World) (m : Int × Int) (z : Int) : Prop :=
  ∃ (σ' : St) (own' : Nat → Nat), StepC ks σ c σ' m z ∧ Wn w' own' gw (N + 4) ks σ'.1 σ'.2.1 σ'.2.2 ∧ Wk own own' V w'
theorem pp_rp {w : World} {v : Value} {l : List Pt} (h : Pp w v l) (hp : Plain v) : Rp w v l := by
  obtain ⟨ao, c, rfl, h1, h2, h3⟩ := h
  rcases hp with e | ⟨g, o, n, c', e⟩
  · injection e with e1 e2 e3
    have : l = [] := List.eq_nil_of_length_eq_zero e2
    subst this
    exact .inl ⟨by rw [e1, e3]; rfl, rfl⟩
  · injection e with e1 e2 e3
    subst e1
    refine .inr ⟨g, o, c, rfl, h1, h2, fun j u hj => ?_⟩
    have hj2 : j < l.length * 2 := by
      have := (List.getElem?_eq_some_iff.1 hj).1
      rwa [pz_len] at this
    obtain ⟨g', o', e3, z3, z4⟩ := h3 (j / 2) (by omega)
    obtain ⟨p0, p1⟩ := pz_at l (j / 2) (by omega)
    simp only [Option.some.injEq, Addr.mk.injEq, and_true] at e3
    obtain ⟨rfl, rfl⟩ := e3
    rcases Nat.mod_two_eq_zero_or_one j with hm | hm
    · have ej : j = j / 2 * 2 := by omega
      rw [← ej] at p0 z3
      rw [p0] at hj
      rw [← Option.some.inj hj]
      exact z3
    · have ej : j = j / 2 * 2 + 1 := by omega
      rw [← ej] at p1
      rw [p1] at hj
      rw [← Option.some.inj hj]
      have ez : o + j / 2 * 2 + 1 = o + j := by omega
      rw [ez] at z4
      exact z4
section
variable {V w' : World} {own : Nat → Nat} {gw N : Nat} {ks : List Kind} {gs fr : List Nat} {C : Co} {U : Nat → Prop} {c : Cm}
theorem Dn.same (h : Wn V own gw N ks gs fr C) (hb : Below V.heap.size V w') {m : Int × Int} {z : Int} (hs : StepC ks (gs, fr, C) c (gs, fr, C) m z) : Dn ks (gs, fr, C) c own gw N V w' m z :=
  ⟨(gs, fr, C), rel own V 0, hs, (h.later hb).up (by omega), Wk.later hb⟩
theorem spawnD (h : Wn V own gw N ks gs fr C) (hN : N ≤ 800000) (hc : CmOk True V U c) (hop : c.op = 1) (hU : ∀ k, U k → own k = 0 ∧ k < V.heap.size) :
    Calls Tryz.prog 39 #[.pointer (some ⟨gw, 0, none⟩), c.ps] V fun e w' => ∃ x y z : Int, e = .returned (.tuple #[.agg #[.int .i64 x, .int .i64 y], .int .i64 z]) ∧ Dn ks (gs, fr, C) c own gw N V w' (x, y) z := by
  obtain ⟨-, ⟨l, hP, hln, hpb, hpi, hpl⟩, hf, -⟩ := hc
  obtain ⟨hpl1, hpl2⟩ := hpl trivial
  have hR := pp_rp hP hpl1
  have em : ml l = mp c.P := List.ext_getElem (by simp [ml, mp, hln]) (fun i h1 h2 => by
    simp only [ml, mp, List.length_map] at h1 h2
    obtain ⟨e1, ⟨ao, q, e2, -⟩, -⟩ := hpi i h1 h2
    simp only [ml, mp, List.getElem_map]
    unfold ptV at e2
    injection e2 with _ e3 _
    rw [e1, e3])
  by_cases a1 : comeM ks 0 (mp c.P) = 0
  · have hcome : comeL ks 0 l = 0 := by rw [comeM_is, em]; exact a1
    by_cases a2 : fr = [] ∧ gs.length = 200
    · refine (h.spawn_full a2.1 a2.2 c.ps l hR hcome).mono ?_
      rintro e w' ⟨rfl, hb⟩
      refine ⟨0, 0, 40, rfl, Dn.same h hb ?_⟩
      unfold StepC
      rw [if_pos hop, if_pos a1, if_pos a2]
      exact ⟨rfl, rfl, rfl⟩
    · have hroom : fr ≠ [] ∨ gs.length < 200 := by
        have := h.ok.2.2.1
        by_cases e : fr = []
        · right
          have : ¬ gs.length = 200 := fun e2 => a2 ⟨e, e2⟩
          have := h.ok
          have h1 := this.2.2.1
          omega
        · exact .inl e
      have hnd : (c.P.map (·.1)).Nodup := by
        have e1 : c.P.map (·.1) = l.map (·.1) := List.ext_getElem (by simp [hln]) (fun i h1 h2 => by
          simp only [List.length_map] at h1 h2
          simp only [List.getElem_map]
          exact (hpi i h2 h1).1.symm)
        rw [e1]
        have h2 := (come_pg hcome).2
        rw [show l.map (fun p => p.1.toNat - 1) = (l.map (·.1)).map (fun x => x.toNat - 1) by rw [List.map_map]; rfl] at h2
        exact List.Pairwise.of_map _ (fun a b hab e => hab (by rw [e])) h2
      obtain ⟨Vf, hVf⟩ : ∃ Vf : Pt → List Int, Vf = fun p => ((c.P.find? (fun r => r.1 == p.1)).map (·.2)).getD [] := ⟨_, rfl⟩
      have hv : ∀ i (h1 : i < l.length) (h2 : i < c.P.length), Vf l[i] = c.P[i].2 := fun i h1 h2 => by
        rw [hVf]
        dsimp only
        rw [(hpi i h1 h2).1, find_at c.P hnd i h2]
        rfl
      refine (h.spawn (by omega) hroom c.ps l Vf hR hcome (fun k e => hU k (hpb k e)) (fun p hp => ?_) (fun p hp k e => ?_) (fun p hp => ?_)).mono ?_
      · obtain ⟨i, hi, rfl⟩ := List.getElem_of_mem hp
        rw [hv i hi (by omega)]
        refine ⟨(hpi i hi (by omega)).2.1, fun e => ?_⟩
        rcases hpl2 i hi with e2 | ⟨g, o, n, q, e2⟩
        · unfold ptV at e2
          injection e2 with _ e3 e4
          exact Prod.ext e3 e4
        · unfold ptV at e2
          injection e2 with e3 _ _
          rw [e] at e3
          cases e3
      · obtain ⟨i, hi, rfl⟩ := List.getElem_of_mem hp
        exact hU k ((hpi i hi (by omega)).2.2 k e)
      · obtain ⟨i, hi, rfl⟩ := List.getElem_of_mem hp
        rw [hv i hi (by omega)]
        exact fun z hz => hf.2.2.2.2.1 _ (List.getElem_mem _) z hz
      · rintro e w' ⟨rfl, vals, own', hw, hk, hl, hm⟩
        refine ⟨_, _, 0, rfl, (takeG gs fr, takeF fr, fun x => if x = (((takeE gs fr).1 : Int), ((takeE gs fr).2 : Int)) then some (setOf l, vals) else C x), own', ?_, hw.up (by omega), hk⟩
        unfold StepC
        rw [if_pos hop, if_pos a1, if_neg a2]
        rw [setM_is, em] at *
        refine ⟨⟨vals, rfl, hl, fun r => (hm r).trans ⟨fun ⟨p, hp, e⟩ => ?_, fun ⟨p, hp, e⟩ => ?_⟩⟩, rfl, rfl⟩
        · obtain ⟨i, hi, rfl⟩ := List.getElem_of_mem hp
          exact ⟨c.P[i]'(by omega), List.getElem_mem _, by rw [e, hv i hi (by omega), (hpi i hi (by omega)).1]⟩
        · obtain ⟨i, hi, rfl⟩ := List.getElem_of_mem hp
          exact ⟨l[i]'(by omega), List.getElem_mem _, by rw [e, hv i (by omega) hi, (hpi i (by omega) hi).1]⟩
  · have h' := h
    obtain ⟨vk, gp, gm, gt, q, T, h1, h2, h3, h4, h5, h6⟩ := h'
    have hcome : comeL ks 0 l ≠ 0 := by rw [comeM_is, em]; exact a1
    refine (spawn_bad h1 c.ps l hR h4.2.1 hcome).mono ?_
    rintro e w' ⟨rfl, hb⟩
    refine ⟨0, 0, _, rfl, Dn.same h hb ?_⟩
    unfold StepC
    rw [if_pos hop, if_neg a1, comeM_is, em]
    exact ⟨rfl, rfl, rfl⟩
theorem despD (h : Wn V own gw N ks gs fr C) (hN : N ≤ 800000) (hop : c.op = 2) :
    Calls Tryz.prog 40 #[.pointer (some ⟨gw, 0, none⟩), .agg #[.int .i64 c.ix, .int .i64 c.gn]] V fun e w' => ∃ z : Int, e = .returned (.int .i64 z) ∧ Dn ks (gs, fr, C) c own gw N V w' (0, 0) z := by
  have o1 : ¬ c.op = 1 := by omega
  by_cases a : (C (c.ix, c.gn)).isSome = true
  · obtain ⟨i, e1, e2, e3, e4, e5⟩ := h.at a
    have ee : (c.ix, c.gn) = ((i : Int), ((gs.getD i 0 : Nat) : Int)) := by rw [e1, e2]
    have hk := h.despawn (by omega) (i := i) (by rw [← ee]; exact a) e3 e4 e5
    unfold ev at hk
    dsimp only at hk
    rw [← e1, ← e2] at hk
    refine hk.mono ?_
    rintro e w' ⟨rfl, own', hw, hwk⟩
    refine ⟨0, rfl, (giveG gs i, giveF gs fr i, fun x => if x = (c.ix, c.gn) then none else C x), own', ?_, hw.up (by omega), hwk⟩
    unfold StepC
    rw [if_neg o1, if_pos hop, if_pos a]
    refine ⟨rfl, ?_, rfl⟩
    rw [e1, Int.toNat_natCast]
  · refine (h.despawn_stale c.ix c.gn (by simpa using a)).mono ?_
    rintro e w' ⟨rfl, hb⟩
    refine ⟨41, rfl, Dn.same h hb ?_⟩
    unfold StepC
    rw [if_neg o1, if_pos hop, if_neg a]
    exact ⟨rfl, rfl, rfl⟩
theorem addD (h : Wn V own gw N ks gs fr C) (hN : N ≤ 800000) (hc : CmOk True V U c) (hop : c.op = 3) (hU : ∀ k, U k → own k = 0 ∧ k < V.heap.size) {qa : Option Addr} {qn qc : Nat} (hq : c.vs = .slice qa qn qc) :
    Calls Tryz.prog 41 #[.pointer (some ⟨gw, 0, none⟩), .agg #[.int .i64 c.ix, .int .i64 c.gn], .agg #[.int .i64 c.kd, .slice qa qn qc]] V fun e w' => ∃ z : Int, e = .returned (.int .i64 z) ∧ Dn ks (gs, fr, C) c own gw N V w' (0, 0) z := by
  have o1 : ¬ c.op = 1 := by omega
  have o2 : ¬ c.op = 2 := by omega
  obtain ⟨⟨hI, hIb⟩, -, hf, hpl⟩ := hc
  have hpl := hpl trivial
  rw [hq] at hI hIb hpl
  have hqn : qn = c.V.length := by
    obtain ⟨ao, q, e, -⟩ := hI
    injection e
  by_cases a : (C (c.ix, c.gn)).isSome = true
  · obtain ⟨⟨s, old⟩, hs⟩ := Option.isSome_iff_exists.1 a
    have eg : (C (c.ix, c.gn)).getD (0, []) = (s, old) := by rw [hs]; rfl
    by_cases b : comeS ks s c.kd qn = 0
    · refine (h.add hN c.ix c.gn c.kd s old c.V hs qa qn qc hI (fun e => ?_) (fun k e => hU k (hIb k e)) b (fun z hz => hf.2.2.2.1 z hz)).mono ?_
      · rcases hpl with e2 | ⟨g, o, n, q, e2⟩
        · injection e2 with _ e3 e4
          exact Prod.ext e3 e4
        · injection e2 with e3 _ _
          rw [e] at e3
          cases e3
      · rintro e w' ⟨rfl, vals, own', hw, hwk, hl, hm⟩
        refine ⟨0, rfl, (gs, fr, fun y => if y = (c.ix, c.gn) then some (s ||| 2 ^ c.kd.toNat, vals) else C y), own', ?_, hw, hwk⟩
        unfold StepC
        rw [if_neg o1, if_neg o2, if_pos hop, if_pos a]
        dsimp only
        rw [eg, ← hqn, if_pos b]
        exact ⟨rfl, ⟨vals, rfl, hl, hm⟩, rfl⟩
    · refine (h.add_err c.ix c.gn c.kd s old hs qa qn qc _ rfl b).mono ?_
      rintro e w' ⟨rfl, hb⟩
      refine ⟨_, rfl, Dn.same h hb ?_⟩
      unfold StepC
      rw [if_neg o1, if_neg o2, if_pos hop, if_pos a]
      dsimp only
      rw [eg, ← hqn, if_neg b]
      exact ⟨rfl, rfl, rfl⟩
  · have h' := h
    obtain ⟨vk, gp, gm, gt, q, T, h1, h2, h3, h4, h5, h6⟩ := h'
    refine (add_stale h1 c.ix c.gn c.kd qa qn qc (by rw [h5]; simpa using a)).mono ?_
    rintro e w' ⟨rfl, hb⟩
    refine ⟨41, rfl, Dn.same h hb ?_⟩
    unfold StepC
    rw [if_neg o1, if_neg o2, if_pos hop, if_neg a]
    exact ⟨rfl, rfl, rfl⟩
theorem remD (h : Wn V own gw N ks gs fr C) (hN : N ≤ 800000) (hc : CmOk True V U c) (hop : c.op = 4) :
    Calls Tryz.prog 42 #[.pointer (some ⟨gw, 0, none⟩), .agg #[.int .i64 c.ix, .int .i64 c.gn], .int .i64 c.kd] V fun e w' => ∃ z : Int, e = .returned (.int .i64 z) ∧ Dn ks (gs, fr, C) c own gw N V w' (0, 0) z := by
  have o1 : ¬ c.op = 1 := by omega
  have o2 : ¬ c.op = 2 := by omega
  have o3 : ¬ c.op = 3 := by omega
  have hib := hc.2.2.1.2.2.2.2.2
  by_cases b : hasE ks (C (c.ix, c.gn)).isSome ((C (c.ix, c.gn)).getD (0, [])).1 c.kd = 0
  · have b' := b
    unfold hasE at b'
    cases hC : C (c.ix, c.gn) with
    | none => rw [hC] at b'; simp at b'
    | some p =>
      obtain ⟨s, old⟩ := p
      have eg : (C (c.ix, c.gn)).getD (0, []) = (s, old) := by rw [hC]; rfl
      rw [hC] at b'
      simp only [Option.isSome_some, if_true, Option.getD_some] at b'
      by_cases b1 : 1 ≤ c.kd ∧ c.kd ≤ (ks.length : Int)
      · rw [if_pos b1] at b'
        by_cases b2 : s.testBit c.kd.toNat = true
        · obtain ⟨k, hk⟩ : ∃ k : Nat, c.kd = (k : Int) := ⟨c.kd.toNat, by omega⟩
          have hr := h.remove hN c.ix c.gn k s old hC (by omega) (by omega) (by rw [hk] at b2; simpa using b2)
          rw [← hk] at hr
          refine hr.mono ?_
          rintro e w' ⟨rfl, vals, own', hw, hwk, hl, hm⟩
          have ek : k = c.kd.toNat := by omega
          rw [ek] at hw hl hm
          refine ⟨0, rfl, (gs, fr, fun y => if y = (c.ix, c.gn) then some (s ^^^ 2 ^ c.kd.toNat, vals) else C y), own', ?_, hw, hwk⟩
          unfold StepC
          rw [if_neg o1, if_neg o2, if_neg o3, if_pos hop]
          dsimp only
          rw [if_pos b, eg]
          exact ⟨rfl, ⟨vals, rfl, hl, hm⟩, rfl⟩
        · rw [if_neg b2] at b'
          exact absurd b' (by decide)
      · rw [if_neg b1] at b'
        exact absurd b' (by decide)
  · have h' := h
    obtain ⟨vk, gp, gm, gt, q, T, h1, h2, h3, h4, h5, h6⟩ := h'
    have hs : ((C (c.ix, c.gn)).getD (0, [])).1 < 8192 ∧ (livesOf gs fr c.ix c.gn = true → fC C (c.ix, c.gn) = some ((C (c.ix, c.gn)).getD (0, [])).1) := by
      cases hC : C (c.ix, c.gn) with
      | none => exact ⟨by decide, fun e => by rw [h5, hC] at e; cases e⟩
      | some p =>
        obtain ⟨s, old⟩ := p
        exact ⟨(h2.1 _ s (fC_some hC)).1, fun _ => fC_some hC⟩
    refine (remove_err h1 c.ix c.gn c.kd hib h4.2.1 _ hs.1 hs.2 _ rfl (by rw [h5]; exact b)).mono ?_
    rintro e w' ⟨rfl, hb⟩
    refine ⟨_, rfl, Dn.same h hb ?_⟩
    unfold StepC
    rw [if_neg o1, if_neg o2, if_neg o3, if_pos hop]
    dsimp only
    rw [if_neg b, h5]
    exact ⟨rfl, rfl, rfl⟩
/-- A command is done. -/
theorem do_any {w : World} {own : Nat → Nat} (h : Wn w own gw N ks gs fr C) (hN : N ≤ 800000) (hc : CmOk True w U c) (hU : ∀ k, U k → own k = 0 ∧ k < w.heap.size) :
    Calls Tryz.prog 20 #[.pointer (some ⟨gw, 0, none⟩), cmV c] w fun e w2 => ∃ x y z : Int, e = .returned (.tuple #[.agg #[.int .i64 x, .int .i64 y], .int .i64 z]) ∧ Dn ks (gs, fr, C) c own gw N w w2 (x, y) z := by
  obtain ⟨qa, qn, qc, pa, pn, pc, e5, e6⟩ := hc.at2
  have hcv : ∀ V, Below w.heap.size w V → CmOk True V U c := fun V hV => hc.frame (Mv.of_below hV (fun _ => False)) (fun _ _ e => e)
  have hUv : ∀ V, Below w.heap.size w V → ∀ k, U k → rel own w 0 k = 0 ∧ k < V.heap.size := fun V hV k hk => by
    have h1 := hU k hk
    have h2 := hV.size
    exact ⟨by rw [rel_old h1.2]; exact h1.1, by omega⟩
  have key : ∀ (V w' : World) (m : Int × Int) (z : Int), Below w.heap.size w V → Dn ks (gs, fr, C) c (rel own w 0) gw N V w' m z → ∀ k, w.heap.size ≤ k → k < V.heap.size → w'.heap[k]? = V.heap[k]? := fun V w' m z hV hd k k1 k2 => by
    obtain ⟨σ', own', -, -, hk⟩ := hd
    exact hk.2.2.2.2.2 k k2 (fun e => e.1 (rel_new k1))
  have fin : ∀ (V w' w2 : World) (m : Int × Int) (z : Int) (kr : Nat), Below w.heap.size w V → Dn ks (gs, fr, C) c (rel own w 0) gw N V w' m z → w.heap.size ≤ kr → kr < V.heap.size → Mv w' w2 (fun k => k = kr) → Dn ks (gs, fr, C) c own gw N w w2 m z := fun V w' w2 m z kr hV hd k1 k2 hm => by
    obtain ⟨σ', own', hs, hw, hk⟩ := hd
    have hkr : own' kr = 0 := (hk.1 kr k2).trans (rel_new k1)
    have hv := hV.size
    have hkz := hk.2.size
    refine ⟨σ', rel own' w' 0, hs, hw.frame hm (fun k _ e => by rw [e]; exact hkr), fun k hk2 => ?_, ?_⟩
    · rw [rel_old (by omega), hk.1 k (by omega), rel_old hk2]
    · refine ((Mv.of_below hV (fun k => own k ≠ 0 ∧ own k ≠ 2)).trans hk.2 (fun k j1 e => ?_)).trans hm (fun k j1 e => ?_)
      · rw [rel_old j1] at e
        exact e
      · have e : k = kr := e
        omega
  have ev0 : cmV c = .agg #[.int .i64 c.op, .int .i64 c.ix, .int .i64 c.gn, .int .i64 c.kd, .slice qa qn qc, .slice pa pn pc] := by
    unfold cmV cmL
    rw [e5, e6]
  rw [ev0]
  by_cases o1 : c.op = 1
  · rw [o1]
    refine (apply_spawn (R := fun V w' x y z => Dn ks (gs, fr, C) c (rel own w 0) gw N V w' (x, y) z) c.ix c.gn c.kd (fun V hV => ?_) (fun V w' x y z hV hd => key V w' _ _ hV hd)).mono ?_
    · rw [← e6]
      exact spawnD (h.later hV) hN (hcv V hV) o1 (hUv V hV)
    · rintro e w2 ⟨x, y, z, rfl, V, w', kr, hV, hd, k1, k2, hm⟩
      exact ⟨x, y, z, rfl, fin V w' w2 _ _ kr hV hd k1 k2 hm⟩
  · by_cases o2 : c.op = 2
    · rw [o2]
      refine (apply_despawn (R := fun V w' z => Dn ks (gs, fr, C) c (rel own w 0) gw N V w' (0, 0) z) c.ix c.gn c.kd (fun V hV => despD (h.later hV) hN o2) (fun V w' z hV hd => key V w' _ _ hV hd)).mono ?_
      rintro e w2 ⟨z, rfl, V, w', kr, hV, hd, k1, k2, hm⟩
      exact ⟨0, 0, z, rfl, fin V w' w2 _ _ kr hV hd k1 k2 hm⟩
    · by_cases o3 : c.op = 3
      · rw [o3]
        refine (apply_add (R := fun V w' z => Dn ks (gs, fr, C) c (rel own w 0) gw N V w' (0, 0) z) c.ix c.gn c.kd (fun V hV => addD (h.later hV) hN (hcv V hV) o3 (hUv V hV) e5) (fun V w' z hV hd => key V w' _ _ hV hd)).mono ?_
        rintro e w2 ⟨z, rfl, V, w', kr, hV, hd, k1, k2, hm⟩
        exact ⟨0, 0, z, rfl, fin V w' w2 _ _ kr hV hd k1 k2 hm⟩
      · by_cases o4 : c.op = 4
        · rw [o4]
          refine (apply_remove (R := fun V w' z => Dn ks (gs, fr, C) c (rel own w 0) gw N V w' (0, 0) z) c.ix c.gn c.kd (fun V hV => remD (h.later hV) hN (hcv V hV) o4) (fun V w' z hV hd => key V w' _ _ hV hd)).mono ?_
          rintro e w2 ⟨z, rfl, V, w', kr, hV, hd, k1, k2, hm⟩
          exact ⟨0, 0, z, rfl, fin V w' w2 _ _ kr hV hd k1 k2 hm⟩
        · refine (apply_other c.op c.ix c.gn c.kd o1 o2 o3 o4).mono ?_
          rintro e w2 ⟨rfl, hb⟩
          refine ⟨0, 0, 1, rfl, Dn.same h hb ?_⟩
          unfold StepC
          rw [if_neg o1, if_neg o2, if_neg o3, if_neg o4]
          exact ⟨rfl, rfl, rfl⟩
end
end Go.Proofs.YtfbhoemfabgjpaaGreat

/-
  Buffer: rows of numbers, by their keys.
-/
namespace Go.Proofs.YtfbhoemfabgjpaaGreat
set_option maxRecDepth 100000
section
variable {α : Type} [DecidableEq α] (key : Nat → α)
/-- The numbers of one key, in their order. -/
def byK (row : List Nat) (x : α) : List Nat := row.filter (fun i => decide (key i = x))
theorem byK_push (row : List Nat) (i : Nat) (x : α) : byK key (row ++ [i]) x = if x = key i then byK key row x ++ [i] else byK key row x := by
  unfold byK
  rw [List.filter_append]
  by_cases h : x = key i
  · subst h
    simp
  · rw [if_neg h]
    have : ¬ key i = x := fun e => h e.symm
    simp [this]
/-- Neighbours with unlike keys change places. -/
theorem byK_swap (a b : List Nat) (p q : Nat) (hne : key p ≠ key q) (x : α) : byK key (a ++ q :: p :: b) x = byK key (a ++ p :: q :: b) x := by
  unfold byK
  rw [List.filter_append, List.filter_append]
  congr 1
  by_cases h1 : key p = x
  · have h2 : ¬ key q = x := fun e => hne (h1.trans e.symm)
    simp [h1, h2]
  · by_cases h2 : key q = x <;> simp [h1, h2]
theorem swap_split (row : List Nat) (k : Nat) (h : k + 1 < row.length) : row = row.take k ++ row[k] :: row[k + 1] :: row.drop (k + 2) ∧ (row.set k row[k + 1]).set (k + 1) row[k] = row.take k ++ row[k + 1] :: row[k] :: row.drop (k + 2) := by
  have e : row = row.take k ++ row[k] :: row[k + 1] :: row.drop (k + 2) := by
    conv => lhs; rw [← List.take_append_drop k row]
    rw [List.drop_eq_getElem_cons (by omega), List.drop_eq_getElem_cons (by omega)]
  refine ⟨e, ?_⟩
  have hl : (row.take k).length = k := by rw [List.length_take]; omega
  generalize row[k + 1] = q at *
  generalize row[k] = p at *
  generalize hA : row.take k = A at *
  generalize row.drop (k + 2) = B at *
  subst e
  rw [← hl]
  simp
theorem byK_set (row : List Nat) (k : Nat) (h : k + 1 < row.length) (hne : key row[k] ≠ key row[k + 1]) (x : α) : byK key ((row.set k row[k + 1]).set (k + 1) row[k]) x = byK key row x := by
  obtain ⟨e1, e2⟩ := swap_split row k h
  rw [e2]
  conv => rhs; rw [e1]
  exact byK_swap key _ _ _ _ hne x
theorem byK_sorted {row : List Nat} (h : row.Pairwise (· < ·)) (x : α) : (byK key row x).Pairwise (· < ·) := h.filter _
theorem byK_mem {row : List Nat} {x : α} {i : Nat} : i ∈ byK key row x ↔ i ∈ row ∧ key i = x := by
  unfold byK
  rw [List.mem_filter]
  simp
end
theorem flat_count {α : Type} [DecidableEq α] (key : Nat → α) : ∀ (row : List Nat) (ss : List α), ss.Nodup → (∀ i ∈ row, key i ∈ ss) → (ss.flatMap (byK key row)).length = row.length
  | [], ss, _, _ => by
    have : ss.flatMap (byK key []) = [] := List.flatMap_eq_nil_iff.2 (fun _ _ => rfl)
    rw [this]
  | i :: t, ss, hn, hm => by
    have ih := flat_count key t ss hn (fun j hj => hm j (List.mem_cons_of_mem _ hj))
    have key1 : ∀ ss : List α, ss.Nodup → (ss.flatMap (byK key (i :: t))).length = (ss.flatMap (byK key t)).length + (if key i ∈ ss then 1 else 0) := by
      intro ss
      induction ss with
      | nil => intro _; rfl
      | cons x r ih2 =>
        intro hn
        have h1 := ih2 (List.nodup_cons.1 hn).2
        have h2 := (List.nodup_cons.1 hn).1
        rw [List.flatMap_cons, List.flatMap_cons, List.length_append, List.length_append, h1]
        by_cases ex : key i = x
        · subst ex
          rw [if_neg h2, if_pos List.mem_cons_self]
          have : (byK key (i :: t) (key i)).length = (byK key t (key i)).length + 1 := by simp [byK]
          omega
        · have : (byK key (i :: t) x).length = (byK key t x).length := by simp [byK, ex]
          rw [this]
          by_cases er : key i ∈ r
          · rw [if_pos er, if_pos (List.mem_cons_of_mem _ er)]
            omega
          · rw [if_neg er, if_neg (fun h => (List.mem_cons.1 h).elim ex er)]
            omega
    rw [key1 ss hn, if_pos (hm i List.mem_cons_self), ih, List.length_cons]
/-- Two rising lists of the same turns are one. -/
theorem sorted_one {a b : List (Int × Int)} (ha : a.Pairwise ltT) (hb : b.Pairwise ltT) (h : ∀ x, x ∈ a ↔ x ∈ b) : a = b := by
  have hp : a.Perm b := (List.perm_ext_iff_of_nodup (nodup_lt ha) (nodup_lt hb)).2 h
  exact hp.eq_of_pairwise (fun x y _ _ h1 h2 => by unfold ltT at h1 h2; omega) ha hb
/-- All by rising keys, then by rising numbers. -/
theorem flat_sorted (key : Nat → Int × Int) {row : List Nat} (hr : row.Pairwise (· < ·)) {ss : List (Int × Int)} (hs : ss.Pairwise ltT) : (ss.flatMap (byK key row)).Pairwise (fun p q => ltT (key p) (key q) ∨ key p = key q ∧ p < q) := by
  rw [List.pairwise_flatMap]
  refine ⟨fun x _ => ?_, hs.imp (fun {x y} h p hp q hq => ?_)⟩
  · refine (List.Pairwise.and_mem.1 (byK_sorted key hr x)).imp (fun ⟨h1, h2, h3⟩ => .inr ⟨?_, h3⟩)
    rw [((byK_mem key).1 h1).2, ((byK_mem key).1 h2).2]
  · left
    rw [((byK_mem key).1 hp).2, ((byK_mem key).1 hq).2]
    exact h
end Go.Proofs.YtfbhoemfabgjpaaGreat

/-
  Buffer: commands that are done, one behind the other.
-/
namespace Go.Proofs.YtfbhoemfabgjpaaGreat
open Go.RowKit
set_option maxRecDepth 100000
def RunL (ks : List Kind) : St → List Cm → St → List (Int × Int) → Nat → Prop
  | σ, [], σ', l, rf => σ' = σ ∧ l = [] ∧ rf = 0
  | σ, c :: t, σ', l, rf => ∃ (σ1 : St) (m : Int × Int) (z : Int) (l1 : List (Int × Int)) (r1 : Nat), StepC ks σ c σ1 m z ∧ RunL ks σ1 t σ' l1 r1 ∧ l = (if z = 0 ∧ c.op = 1 then m :: l1 else l1) ∧ rf = (if z = 0 then r1 else r1 + 1)
theorem RunL.det {ks : List Kind} : ∀ (a : List Cm) {σ σ1 σ2 : St} {l1 l2 : List (Int × Int)} {r1 r2 : Nat}, RunL ks σ a σ1 l1 r1 → RunL ks σ a σ2 l2 r2 → σ1 = σ2 ∧ l1 = l2 ∧ r1 = r2
  | [], _, _, _, _, _, _, _, h1, h2 => ⟨h1.1.trans h2.1.symm, h1.2.1.trans h2.2.1.symm, h1.2.2.trans h2.2.2.symm⟩
  | c :: t, _, _, _, _, _, _, _, ⟨s1, m1, z1, k1, q1, a1, b1, e1, f1⟩, ⟨s2, m2, z2, k2, q2, a2, b2, e2, f2⟩ => by
    obtain ⟨rfl, rfl, rfl⟩ := StepC.det a1 a2
    obtain ⟨rfl, rfl, rfl⟩ := RunL.det t b1 b2
    exact ⟨rfl, e1.trans e2.symm, f1.trans f2.symm⟩
theorem RunL.snoc {ks : List Kind} {c : Cm} {σ2 : St} {m : Int × Int} {z : Int} : ∀ (a : List Cm) {σ σ1 : St} {l : List (Int × Int)} {r : Nat}, RunL ks σ a σ1 l r → StepC ks σ1 c σ2 m z → RunL ks σ (a ++ [c]) σ2 (if z = 0 ∧ c.op = 1 then l ++ [m] else l) (if z = 0 then r else r + 1)
  | [], _, _, _, _, ⟨e1, e2, e3⟩, hs => by
    subst e1 e2 e3
    exact ⟨σ2, m, z, [], 0, hs, ⟨rfl, rfl, rfl⟩, rfl, rfl⟩
  | d :: t, _, _, _, _, ⟨s1, m1, z1, k1, q1, a1, b1, e1, f1⟩, hs => by
    refine ⟨s1, m1, z1, _, _, a1, RunL.snoc t b1 hs, ?_, ?_⟩
    · subst e1
      by_cases x : z1 = 0 ∧ d.op = 1 <;> by_cases y : z = 0 ∧ c.op = 1 <;> simp [x, y]
    · subst f1
      by_cases x : z1 = 0 <;> by_cases y : z = 0 <;> simp [x, y]
theorem RunL.len {ks : List Kind} : ∀ (a : List Cm) {σ σ1 : St} {l : List (Int × Int)} {r : Nat}, RunL ks σ a σ1 l r → l.length ≤ a.length ∧ r ≤ a.length
  | [], _, _, _, _, ⟨_, e2, e3⟩ => by
    subst e2 e3
    exact ⟨Nat.le_refl _, Nat.le_refl _⟩
  | d :: t, _, _, _, _, ⟨s1, m1, z1, k1, q1, a1, b1, e1, f1⟩ => by
    obtain ⟨h1, h2⟩ := RunL.len t b1
    subst e1 f1
    constructor
    · split <;> simp <;> omega
    · split <;> simp <;> omega
/-- Entities in a row. -/
def nz : List (Int × Int) → List Value
  | [] => []
  | p :: t => .int .i64 p.1 :: .int .i64 p.2 :: nz t
theorem nz_len : ∀ l : List (Int × Int), (nz l).length = l.length * 2
  | [] => rfl
  | p :: t => by simp [nz, nz_len t]; omega
theorem nz_push : ∀ (l : List (Int × Int)) (p : Int × Int), nz (l ++ [p]) = nz l ++ [.int .i64 p.1, .int .i64 p.2]
  | [], _ => rfl
  | q :: t, p => by simp [nz, nz_push t p]
theorem nz_at : ∀ (l : List (Int × Int)) (i : Nat) (h : i < l.length), (nz l)[i * 2]? = some (.int .i64 l[i].1) ∧ (nz l)[i * 2 + 1]? = some (.int .i64 l[i].2)
  | p :: t, 0, _ => ⟨rfl, rfl⟩
  | p :: t, i + 1, h => by
    have h2 := nz_at t i (by simpa using h)
    rw [show (i + 1) * 2 = i * 2 + 1 + 1 by omega]
    simpa [nz] using h2
end Go.Proofs.YtfbhoemfabgjpaaGreat
