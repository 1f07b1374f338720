import Derived.Test.YtafmiolehlagkaaGreatTSet
import Derived.Shelf.SlMaps.Clone
import Derived.Test.YtafmiolehlagkaaGreatINext
/-
  slices.Clone of entities, maps.Clone.
-/
namespace Go.Proofs.YtafmiolehlagkaaGreat
open Go.RowKit Go.Maps
set_option maxRecDepth 1000000
theorem ez_one : ∀ l : List (Int × Int), ∀ u ∈ ez l, u.oneCell' = true
  | [], _, h => by cases h
  | p :: t, v, h => by
    simp only [ez, List.mem_cons] at h
    rcases h with rfl | rfl | h
    · rfl
    · rfl
    · exact ez_one t v h
set_option maxHeartbeats 1000000 in
theorem clone_ents (v : Value) (l : List (Int × Int)) (w : World) (h : w.ownsRow 0 29 2 v l.length (ez l)) (hn : l.length ≤ 1000000) :
    Calls Tryz.prog 141 #[v] w fun e w' => ∃ v', e = .returned v' ∧ w'.ownsRow w.heap.size 29 2 v' l.length (ez l) ∧ Below w.heap.size w w' := by
  obtain ⟨i0, hi, hz0, hz1, hz2⟩ := info_parts info32
  have q72 : ∀ (w : World) (a : Option Addr) (n c n' c' : Nat), (binOp .eql 39 (.slice a n c) (.slice none n' c')).run Tryz.prog w = .ok (.bool a.isNone) w := fun w a n c n' c' => Lib.run_eql_slice_nil w _ _ a n c n' c' Tryz.underlying39
  rcases h.2 with ⟨rfl, hl⟩ | ⟨g, cap, cur, rfl, -, hg, h1, h2, hcs, htake⟩
  · obtain rfl : l = [] := List.eq_nil_of_length_eq_zero (by omega)
    clear h hl
    go_enter Tryz.func141, Tryz.ntmps141
    go_wp2_with fail
    go_ret
    exact ⟨_, rfl, World.ownsRow_nil _ _ _ _, Below.refl _ _⟩
  · have H := hide h
    clear h hg hcs htake
    go_enter Tryz.func141, Tryz.ntmps141
    go_wp2_with (at_builtin; refine wpList_append_own_at _ rfl _ _ 39 rfl w.heap.size 29 i0 (.agg #[.int .i64 0, .int .i64 0]) 2 16 Tryz.underlying39 hi hz0 hz1 hz2 rfl (by decide) _ 0 [] rfl (World.ownsRow_lit w #[] 0 (Nat.le_refl _) (Nat.zero_le _) rfl) ⟨g, 0, none⟩ l.length cap (ez l) rfl (by rw [ez_len]) ?c1 (ez_one l) (by unfold maxLen; omega) (by omega) (by simp) ?_)
    case c1 => exact (H.out.alloc _).cells rfl
    intro v' w' ho hg _ _
    obtain ⟨ao, c, rfl⟩ := own_len ho
    have HO := hide ho
    have HG := hide hg
    clear ho hg
    go_wp2_with fail
    go_ret
    refine ⟨_, rfl, ?_, (below_alloc w _).grown HG.out (by simp) (fun k e => ?_)⟩
    · have := HO.out
      simpa using this
    · simp [Value.ownBlock] at e
      omega
set_option maxHeartbeats 1000000 in
theorem clone_map (gm n : Nat) (f : Int × Int → Option Nat) (w : World) (h : Mp w gm n f) :
    Calls Tryz.prog 70 #[.map (some gm)] w fun e w' => ∃ g', e = .returned (.map (some g')) ∧ w.heap.size = g' ∧ Mp w' g' n f ∧ Below w.heap.size w w' := by
  obtain ⟨D, ⟨es, ck, hb, hr⟩, hD⟩ := h
  have hfin : Hid (Mp (w.alloc (.map es ck)) w.heap.size n f) := ⟨D, ⟨es, ck, heap_alloc_new w _, hr⟩, hD⟩
  have hq := fun w => run_eql_map_nil_sl (P := Tryz.prog) w 106 _ _ (some gm) Tryz.underlying106
  clear hr hD
  go_enter Tryz.func70, Tryz.ntmps70
  go_wp2
  rw [run_callFunc_extern Tryz.func142 (by kernel_rfl) (by kernel_rfl) (by kernel_rfl) (e := Extern.MapsClone.clone) (by kernel_rfl), run_maps_clone_sl w 106 hb]
  simp only [Result.andThen]
  rw [Oper.upon_value]
  go_wp2
  rw [run_typeAssert_map_sl _ 106 _ _ _ _ Tryz.underlying106]
  simp only [Result.andThen]
  rw [Oper.upon_value]
  go_wp2
  go_ret
  exact ⟨_, rfl, rfl, hfin.out, below_alloc w _⟩
end Go.Proofs.YtafmiolehlagkaaGreat

/-
  Clone.
-/
namespace Go.Proofs.YtafmiolehlagkaaGreat
open Go.RowKit
set_option maxRecDepth 1000000
/-- Columns that are copied one by one. -/
def Cm (B : Nat) (W : World) (ko : Nat) (lab : Nat → Nat) (done : List Value) (cols : List (List Int)) : Prop :=
  W.ownsRow B 30 1 (.slice (some ⟨ko, 0, none⟩) cols.length cols.length) cols.length (done ++ List.replicate (cols.length - done.length) (.slice none 0 0)) ∧
  (∀ i (hi : i < done.length) (hi2 : i < cols.length), W.ownsRow B 2 1 done[i] cols[i].length (zc cols[i])) ∧ lab ko = 3 ∧ ∀ i (hi : i < done.length) k, done[i].ownBlock = some k → lab k = 4 + i
section
variable {B ko : Nat} {W W' : World} {lab : Nat → Nat} {done : List Value} {cols : List (List Int)} {v : Value}
theorem Cm.start (h : W.ownsRow B 30 1 (.slice (some ⟨ko, 0, none⟩) cols.length cols.length) cols.length (List.replicate cols.length (.slice none 0 0))) : Cm B W ko (fun _ => 3) [] cols :=
  ⟨by simpa using h, fun i hi => by simp at hi, rfl, fun i hi => by simp at hi⟩
theorem Cm.later (h : Cm B W ko lab done cols) (hb : Below W.heap.size W W') : Cm B W' ko lab done cols :=
  ⟨own_later h.1 hb, fun i hi hi2 => own_later (h.2.1 i hi hi2) hb, h.2.2⟩
theorem Cm.step (h : Cm B W ko lab done cols) (hB : B ≤ W.heap.size) (hj : done.length < cols.length) (hv : W'.ownsRow W.heap.size 2 1 v cols[done.length].length (zc cols[done.length])) (hb : Below W.heap.size W W') :
    (W'.cell? ⟨ko, done.length, none⟩ = some (.slice none 0 0) ∧ W'.frozen? ⟨ko, done.length, none⟩ = false) ∧ Cm B (W'.setCell ⟨ko, done.length, none⟩ v) ko (ext lab W.heap.size (4 + done.length)) (done ++ [v]) cols ∧ Below B W (W'.setCell ⟨ko, done.length, none⟩ v) := by
  obtain ⟨h1, h2, h3, h4⟩ := h
  have hk := h1.lt ko rfl
  have h1' := own_later h1 hb
  have hm : Mv W' (W'.setCell ⟨ko, done.length, none⟩ v) (fun k => k = ko) := Mv.set (S := fun k => k = ko) (Mv.refl _ _) rfl _ _
  refine ⟨⟨?_, h1'.frozenAt _⟩, ⟨?_, fun i hi hi2 => ?_, ?_, fun i hi k e => ?_⟩, (hb.mono hB).trans (hm.below (Nat.le_trans hB hb.size) (fun k e => by omega))⟩
  · rw [h1'.cellAt _ (by omega), List.getElem?_append_right (Nat.le_refl _), Nat.sub_self, List.getElem?_replicate, if_pos (by omega)]
  · have := (h1'.stored done.length v).1
    have e : (done ++ List.replicate (cols.length - done.length) (Value.slice none 0 0)).set done.length v = (done ++ [v]) ++ List.replicate (cols.length - (done ++ [v]).length) (Value.slice none 0 0) := by
      obtain ⟨m, hm⟩ : ∃ m, cols.length - done.length = m + 1 := ⟨cols.length - done.length - 1, by omega⟩
      have hm' : cols.length - (done ++ [v]).length = m := by simp; omega
      rw [hm, hm', List.replicate_succ, List.set_append_right _ _ (Nat.le_refl _)]
      simp
    rw [e] at this
    exact this
  · by_cases e : i < done.length
    · rw [List.getElem_append_left e]
      have := own_later (h2 i e hi2) hb
      refine hm.own this (fun k e1 e2 => ?_)
      have := h4 i e k e1
      subst e2
      omega
    · have : i = done.length := by simp at hi; omega
      subst this
      simp only [List.getElem_concat_length]
      exact own_lower (hm.own hv (fun k e1 e2 => by have := (hv.lt k e1).1; omega)) hB
  · rw [ext_old hk.2]; exact h3
  · by_cases e0 : i < done.length
    · rw [List.getElem_append_left e0] at e
      rw [ext_old ((h2 i e0 (by omega)).lt k e).2]
      exact h4 i e0 k e
    · have : i = done.length := by simp at hi; omega
      subst this
      simp only [List.getElem_concat_length] at e
      exact ext_new (hv.lt k e).1
theorem Cm.finish {W1 W2 : World} {g' n : Nat} {rows : List (Int × Int)} {f : Int × Int → Option Nat} (h : Cm B W ko lab done cols) (_hB : B ≤ W.heap.size) (hd : done.length = cols.length) (hv : W1.ownsRow W.heap.size 29 2 v rows.length (ez rows)) (hb : Below W.heap.size W W1) (hp : Mp W2 g' n f) (hg : W1.heap.size ≤ g') (hb2 : Below W1.heap.size W1 W2)
    (hix : Ix rows f) (hcl : ∀ c ∈ cols, c.length = rows.length) (hib : ∀ e ∈ rows, InB e) (hr : rows.length ≤ 200) (hc : cols.length ≤ 48) :
    Tb (W2.alloc (.cells #[v, .map (some g'), .slice (some ⟨ko, 0, none⟩) cols.length cols.length] 197)) (fun k => B ≤ k) W2.heap.size n rows cols ∧ Below W.heap.size W (W2.alloc (.cells #[v, .map (some g'), .slice (some ⟨ko, 0, none⟩) cols.length cols.length] 197)) := by
  obtain ⟨h1, h2, h3, h4⟩ := h
  have hk := h1.lt ko rfl
  have s1 := hb.size
  have s2 := hb2.size
  have sp := hp.lt
  have ha := below_alloc W2 (.cells #[v, .map (some g'), .slice (some ⟨ko, 0, none⟩) cols.length cols.length] 197)
  have hb3 := below_on hb2 ha
  have hb4 := below_on hb hb3
  rw [hd] at h1
  simp only [Nat.sub_self, List.replicate_zero, List.append_nil] at h1
  refine ⟨⟨fun k => if k < W.heap.size then lab k else if k < W1.heap.size then 1 else if k < W2.heap.size then 2 else 0, v, g', _, done, f, ⟨heap_alloc_new W2 _, own_lower (own_later hv hb3) (Nat.zero_le _), hp.same (ha.block _ sp), ?_, hd, fun j hj hj2 => own_lower (own_later (h2 j hj hj2) hb4) (Nat.zero_le _), ?_, fun k e => ?_, ?_, fun k e => ?_, fun j hj k e => ?_⟩, hix, hcl, ⟨by omega, fun k e => ?_, by omega, fun k e => ?_, fun v' hv' k e => ?_⟩, hib, hr, hc⟩, hb4⟩
  · have := own_lower (own_later h1 hb4) (Nat.zero_le _)
    rw [hd]
    exact this
  · dsimp only
    rw [if_neg (by omega), if_neg (by omega), if_neg (by omega)]
  · have := hv.lt k e
    dsimp only
    rw [if_neg (by omega), if_pos (by omega)]
  · dsimp only
    rw [if_neg (by omega), if_neg (by omega), if_pos (by omega)]
  · simp only [Value.ownBlock, Option.some.injEq] at e
    subst e
    dsimp only
    rw [if_pos hk.2]
    exact h3
  · have := ((h2 j hj (by omega)).lt k e).2
    dsimp only
    rw [if_pos this]
    exact h4 j hj k e
  · have := (hv.lt k e).1
    omega
  · simp only [Value.ownBlock, Option.some.injEq] at e
    subst e
    exact hk.1
  · obtain ⟨j, hj, rfl⟩ := List.getElem_of_mem hv'
    exact ((h2 j hj (by omega)).lt k e).1
end
set_option maxHeartbeats 2000000 in
set_option maxRecDepth 100000 in
theorem cloned_any {w : World} {S : Nat → Prop} {g n : Nat} {rows : List (Int × Int)} {cols : List (List Int)} (h : Tb w S g n rows cols) : Calls Tryz.prog 68 #[.pointer (some ⟨g, 0, none⟩)] w fun e w' => ∃ g', e = .returned (.pointer (some ⟨g', 0, none⟩)) ∧ Tb w' (fun k => w.heap.size ≤ k) g' n rows cols ∧ Below w.heap.size w w' := by
  obtain ⟨lab, vr, gm, vc, cs, f, hm, hix, hcl, -, hib, hr2, hc48⟩ := h
  have HM := hide hm
  have HX := hide (And.intro hix (And.intro hcl hib))
  have hcs := hm.2.2.2.2.1
  obtain ⟨i0, hi0, hz0, hz1, hz2⟩ := info_parts info27
  obtain ⟨ar, cr, rfl⟩ := own_len hm.2.1
  obtain ⟨ac, cc, rfl⟩ := own_len hm.2.2.2.1
  have CC : Hid (∀ W, Below w.heap.size w W → W.cell? ⟨g, 0, none⟩ = some (.slice ar rows.length cr) ∧ W.cell? ⟨g, 1, none⟩ = some (.map (some gm)) ∧ W.cell? ⟨g, 2, none⟩ = some (.slice ac cs.length cc)) := fun W hb => (HM.out.later hb).cell
  clear hm hcl hix hib
  obtain ⟨c0, c1, c2⟩ := CC.out _ (Below.refl _ _)
  go_enter Tryz.func68, Tryz.ntmps68
  go_wp2_with (at_make; refine wpList_make_full _ rfl _ _ 42 rfl w.heap.size 30 i0 (.slice none 0 0) 1 Tryz.underlying42 hi0 hz0 hz1 .i64 .i64 _ _ cs.length rfl rfl ?c1 ?c2 ?c3 ?c4 ?c5 ?_)
  case c1 => omega
  case c2 => omega
  case c3 => rw [hz2]; omega
  case c4 => unfold maxLen; omega
  case c5 => simp
  intro w1 hown hgrow
  rw [toList_madeCells_one] at hown
  clear c0 c1 c2
  have B1 : Below w.heap.size w w1 := (Below.refl _ _).grown hgrow (Nat.le_refl _) (by intro k hk; cases hk)
  obtain ⟨ko, hko⟩ : ∃ k, k = w.heap.size := ⟨_, rfl⟩
  rw [← hko]
  have HO : Hid (Cm w.heap.size w1 ko (fun _ => 3) [] cols) := by
    refine Cm.start ?_
    rw [hko]
    exact hown
  have HB1 := hide B1
  obtain ⟨d0, d1, d2⟩ := CC.out w1 B1
  clear hown hgrow B1 hko
  go_upto_block 0 with fail
  clear d0 d1 d2
  go_wp2_with fail
  go_loopw [17] (fun v17 W => ∃ (lb : Nat → Nat) (done : List Value) (j : Nat), j ≤ cols.length ∧ Hid (done.length = j) ∧ v17 = .int .i64 (j : Int) ∧ Hid (Cm w.heap.size W ko lb done cols) ∧ Hid (Below w.heap.size w W)) (fun v17 _ => cols.length - (intOf v17).toNat)
  case atStart => exact ⟨_, [], 0, Nat.zero_le _, rfl, rfl, HO, HB1⟩
  case round =>
    obtain ⟨lb, done, j, hjl, hdj, rfl, HR, HB⟩ := hrel
    by_cases hj : j < cols.length
    · have t1 : (j : Int) < (cols.length : Int) := by omega
      have hmw := HM.out.later HB.out
      obtain ⟨gc, cc', ec, -, -⟩ := own_form hmw.2.2.2.1 (by omega)
      simp only [Value.slice.injEq] at ec
      obtain ⟨rfl, -, rfl⟩ := ec
      have e1 := own_slices hmw.2.2.2.1 j (by omega)
      have hrow := hmw.2.2.2.2.2.1 j (by omega) hj
      have hlen : cols[j].length = rows.length := HX.out.2.1 _ (List.getElem_mem hj)
      have J : Hid (Calls Tryz.prog 140 #[cs[j]] wr fun e w' => ∃ v', e = .returned v' ∧ Hid (w'.ownsRow wr.heap.size 2 1 v' cols[j].length (zc cols[j]) ∧ Below wr.heap.size wr w')) :=
        (clone_any _ _ _ wr hrow (by omega)).mono (fun e w' ⟨v', h1, h2, h3⟩ => ⟨v', h1, h2, h3⟩)
      generalize cs[j]'(by omega) = vj at *
      clear hmw hrow
      go_wp2_with fail
      refine J.out.mono ?_
      rintro e w2 ⟨v', rfl, HV⟩
      have hd := hdj.out
      subst hd
      obtain ⟨⟨f1, f2⟩, HC2, HB2⟩ := HR.out.step HB.out.size hj HV.out.1 HV.out.2
      have HC2 := hide HC2
      have HB2 := hide HB2
      obtain ⟨av, cv, rfl⟩ := own_len HV.out.1
      clear hlen
      go_wp2_with fail
      go_roundw
      case rel => exact ⟨_, done ++ [_], done.length + 1, by omega, hide (by simp), by go_num, HC2, HB.out.trans HB2.out⟩
      case measure => simp [intOf]; omega
    · obtain rfl : j = cols.length := by omega
      have t1 : ¬ (cols.length : Int) < (cols.length : Int) := by omega
      have hbd : Hid (Below w.heap.size w wr.drew) := below_on HB.out (below_drew wr)
      have J28 : Hid (∀ W, Below w.heap.size w W → Calls Tryz.prog 141 #[.slice ar rows.length cr] W fun e w' => ∃ v', e = .returned v' ∧ Hid (w'.ownsRow W.heap.size 29 2 v' rows.length (ez rows) ∧ Below W.heap.size W w' ∧ Below w.heap.size w w') ∧ w'.cell? ⟨g, 0, none⟩ = some (.slice ar rows.length cr) ∧ w'.cell? ⟨g, 1, none⟩ = some (.map (some gm))) := fun W hW =>
        (clone_ents _ rows W (own_later HM.out.2.1 hW) (by omega)).mono (fun e w' ⟨v', h1, h2, h3⟩ => ⟨v', h1, ⟨h2, h3, below_on hW h3⟩, (CC.out _ (below_on hW h3)).1, (CC.out _ (below_on hW h3)).2.1⟩)
      have J29 : Hid (∀ W, Below w.heap.size w W → Calls Tryz.prog 70 #[.map (some gm)] W fun e w' => ∃ g', e = .returned (.map (some g')) ∧ Hid (W.heap.size ≤ g' ∧ Mp w' g' n f ∧ Below W.heap.size W w') ∧ w'.cell? ⟨g, 0, none⟩ = some (.slice ar rows.length cr) ∧ w'.cell? ⟨g, 1, none⟩ = some (.map (some gm))) := fun W hW =>
        (clone_map gm n f W (HM.out.later hW).2.2.1).mono (fun e w' ⟨g', h1, h2, h3, h4⟩ => ⟨g', h1, ⟨Nat.le_of_eq h2, h3, h4⟩, (CC.out _ (below_on hW h4)).1, (CC.out _ (below_on hW h4)).2.1⟩)
      obtain ⟨d0, d1, -⟩ := CC.out _ hbd.out
      go_wp2_with fail
      go_region_held3 (fun W => W.cell? ⟨g, 0, none⟩ = some (.slice ar rows.length cr) ∧ W.cell? ⟨g, 1, none⟩ = some (.map (some gm))) (go_keep) (first | (go_at_call 70; refine (J29.out _ HH.out.2.2).mono ?_; rintro e w3 ⟨g3, rfl, HH3, y0, y1⟩) | (go_at_call 141; refine (J28.out _ hbd.out).mono ?_; rintro e w2 ⟨v2, rfl, HH, x0, x1⟩; obtain ⟨a2, k2, rfl⟩ := own_len HH.out.1))
      all_goals
        go_wp2_with fail
        go_ret
        have hfin := (HR.out.later (below_drew wr)).finish hbd.out.size hdj.out HH.out.1 HH.out.2.1 HH3.out.2.1 HH3.out.1 HH3.out.2.2 HX.out.1 HX.out.2.1 HX.out.2.2 hr2 hc48
        exact ⟨_, rfl, hfin.1, below_on hbd.out hfin.2⟩
section
variable {B : Nat} {N : Nat → Prop} {W : World} {g n : Nat} {rows : List (Int × Int)} {cols : List (List Int)}
/-- A table and its clone: two that are apart. -/
theorem tf_clone (h : Tf B N W g n rows cols) : Calls Tryz.prog 68 #[.pointer (some ⟨g, 0, none⟩)] W fun e w' => ∃ g', e = .returned (.pointer (some ⟨g', 0, none⟩)) ∧ (∃ S, Tb w' S g n rows cols ∧ (∀ k, S k → B ≤ k ∧ k < W.heap.size ∧ ¬ N k)) ∧ Tb w' (fun k => W.heap.size ≤ k) g' n rows cols ∧ Below W.heap.size W w' := by
  obtain ⟨S, h1, h2, h3, h4⟩ := h
  refine (cloned_any h1).mono ?_
  rintro e w' ⟨g', rfl, t1, t2⟩
  exact ⟨g', rfl, ⟨S, h1.later t2, h2⟩, t1, t2⟩
end
end Go.Proofs.YtafmiolehlagkaaGreat

/-
  A number that is put down.
-/
namespace Go.Proofs.YtafmiolehlagkaaGreat
open Go.RowKit
set_option maxRecDepth 100000
set_option maxHeartbeats 8000000 in
set_option maxRecDepth 100000 in
theorem add_live (g n x : Nat) (vg vl vf : Value) (gs fr : List Nat) (lv : List (Nat × Nat)) (w : World) (h : Pm w g n vg vl vf gs fr lv) (hx : x ≤ 1000000) (hg : gs.length ≤ 1000000) (hl : lv.length ≤ 1000000) :
    Calls Tryz.prog 130 #[.pointer (some ⟨g, 0, none⟩), .int .i64 (x : Int)] w fun e w' => e = .returned (.tuple #[]) ∧ ∃ vg' vl', Pm w' g n vg' vl' vf (gs ++ [x]) fr (lv ++ [(gs.length, x)]) ∧ (∀ k, vg'.ownBlock = some k → vg.ownBlock = some k ∨ w.heap.size ≤ k) ∧ (∀ k, vl'.ownBlock = some k → vl.ownBlock = some k ∨ w.heap.size ≤ k) ∧ Mv w w' (fun k => k = g ∨ vg.ownBlock = some k ∨ vl.ownBlock = some k) := by
  obtain ⟨i3, hi3, hx0, hx1, hx2⟩ := info_parts info3
  obtain ⟨i41, hi41, hy0, hy1, hy2⟩ := info_parts info41
  obtain ⟨c0, c1, c2, c3⟩ := h.cell
  obtain ⟨aog, cg, rfl⟩ := own_len h.2.1
  obtain ⟨aol, cl, rfl⟩ := own_len h.2.2.1
  have t0 : ((x : Int) == 1000001) = false := by rw [beq_eq_false_iff_ne]; omega
  obtain ⟨w1, hw1⟩ : ∃ X, X = w.alloc (.cells #[.int .i64 (gs.length : Int), .int .i64 (x : Int)] 29) := ⟨_, rfl⟩
  have hbe : Below w.heap.size w w1 := hw1 ▸ below_alloc w _
  have h1 := h.later hbe
  have WH : Hid (∀ W, Mv w1 W (fun k => (Value.slice aog gs.length cg).ownBlock = some k ∨ (Value.slice aol lv.length cl).ownBlock = some k) → W.cell? ⟨w.heap.size, 0, none⟩ = some (.int .i64 (gs.length : Int)) ∧ W.cell? ⟨w.heap.size, 1, none⟩ = some (.int .i64 (x : Int))) := fun W hm => by
    have hn : ¬ ((Value.slice aog gs.length cg).ownBlock = some w.heap.size ∨ (Value.slice aol lv.length cl).ownBlock = some w.heap.size) := fun e => by
      rcases e with e | e
      · have := (h.2.1.lt _ e).2
        omega
      · have := (h.2.2.1.lt _ e).2
        omega
    exact ⟨hm.cell (by rw [hw1]; simp) hn, hm.cell (by rw [hw1]; simp) hn⟩
  have CV : Hid (∀ w' : World, (∃ vg' vl', Pm w' g n vg' vl' vf (gs ++ [x]) fr (lv ++ [(gs.length, x)]) ∧ (∀ k, vg'.ownBlock = some k → (Value.slice aog gs.length cg).ownBlock = some k ∨ w1.heap.size ≤ k) ∧ (∀ k, vl'.ownBlock = some k → (Value.slice aol lv.length cl).ownBlock = some k ∨ w1.heap.size ≤ k) ∧ Mv w1 w' (fun k => k = g ∨ (Value.slice aog gs.length cg).ownBlock = some k ∨ (Value.slice aol lv.length cl).ownBlock = some k)) → ∃ vg' vl', Pm w' g n vg' vl' vf (gs ++ [x]) fr (lv ++ [(gs.length, x)]) ∧ (∀ k, vg'.ownBlock = some k → (Value.slice aog gs.length cg).ownBlock = some k ∨ w.heap.size ≤ k) ∧ (∀ k, vl'.ownBlock = some k → (Value.slice aol lv.length cl).ownBlock = some k ∨ w.heap.size ≤ k) ∧ Mv w w' (fun k => k = g ∨ (Value.slice aog gs.length cg).ownBlock = some k ∨ (Value.slice aol lv.length cl).ownBlock = some k)) := fun w' ⟨vg', vl', p1, p2, p3, p4⟩ =>
    ⟨vg', vl', p1, fun k e => (p2 k e).imp id (fun h => Nat.le_trans hbe.size h), fun k e => (p3 k e).imp id (fun h => Nat.le_trans hbe.size h), (Mv.of_below hbe _).trans p4 (fun k _ e => e)⟩
  have u0 : ∀ o, (w1.alloc o).cell? ⟨w.heap.size, 0, none⟩ = some (.int .i64 (gs.length : Int)) := fun o => (WH.out _ (Mv.of_below (below_alloc w1 o) _)).1
  have u1 : ∀ o, (w1.alloc o).cell? ⟨w.heap.size, 1, none⟩ = some (.int .i64 (x : Int)) := fun o => (WH.out _ (Mv.of_below (below_alloc w1 o) _)).2
  have T0 := hide (h1.two.later (below_drew w1))
  have HGL := hide h1.2.1.lt
  have H := hide h1
  clear h h1 hbe
  go_enter Tryz.func130, Tryz.ntmps130
  go_wp2_with fail
  skip
  rw [← hw1]
  clear hw1
  refine wp_region_noPanic ?_
  refine wp_region_late (J := fun i => i != 18 && i != 21) (S := fun W => W.cell? ⟨g, 1, none⟩ = some (.slice aog gs.length cg) ∧ W.cell? ⟨g, 2, none⟩ = some (.slice aol lv.length cl)) (by kernel_rfl) (mid_cells (H.out.mid T0.out)).1 (fun hHeld => ?_)
  refine' wpAnyJ_takeW (i := 0) (oi := { dst := some 15, op := Op.move (Operand.tmp 0), type := 105, pos := "ids.go:136", after := #[], guard := none }) (v := _) rfl (by kernel_rfl) (by kernel_rfl) (by kernel_rfl) (fun _ _ _ h => h) (Or.inl ⟨by rfl, ?hyA1⟩) ?reA1
  case hyA1 => (intro W hSw; (try dsimp only at hSw); go_simp; try with_reducible rfl)
  try simp only [Act.put, List.setIfInBounds_toArray, List.set_cons_zero, List.set_cons_succ]
  refine' wpAnyJ_takeW (i := 1) (oi := { dst := some 16, op := Op.move (Operand.tmp 0), type := 105, pos := "ids.go:136", after := #[{ on := 18, ground := Ground.gcOnly Departure.lateStores }], guard := none }) (v := _) rfl (by kernel_rfl) (by kernel_rfl) (by kernel_rfl) (fun _ _ _ h => h) (Or.inl ⟨by rfl, ?hyA2⟩) ?reA2
  case hyA2 => (intro W hSw; (try dsimp only at hSw); go_simp; try with_reducible rfl)
  try simp only [Act.put, List.setIfInBounds_toArray, List.set_cons_zero, List.set_cons_succ]
  refine' wpAnyJ_takeW (i := 2) (oi := { dst := some 17, op := Op.move (Operand.tmp 0), type := 105, pos := "ids.go:136", after := #[], guard := none }) (v := _) rfl (by kernel_rfl) (by kernel_rfl) (by kernel_rfl) (fun _ _ _ h => h) (Or.inl ⟨by rfl, ?hyA3⟩) ?reA3
  case hyA3 => (intro W hSw; (try dsimp only at hSw); go_simp; try with_reducible rfl)
  try simp only [Act.put, List.setIfInBounds_toArray, List.set_cons_zero, List.set_cons_succ]
  refine' wpAnyJ_takeW (i := 3) (oi := { dst := some 18, op := Op.nilCheck (Operand.tmp 17), type := 0, pos := "ids.go:136", after := #[{ on := 2, ground := Ground.data }], guard := none }) (v := _) rfl (by kernel_rfl) (by kernel_rfl) (by kernel_rfl) (fun _ _ _ h => h) (Or.inl ⟨by rfl, ?hyA4⟩) ?reA4
  case hyA4 => (intro W hSw; (try dsimp only at hSw); go_simp; try with_reducible rfl)
  try simp only [Act.put, List.setIfInBounds_toArray, List.set_cons_zero, List.set_cons_succ]
  refine' wpAnyJ_takeW (i := 4) (oi := { dst := some 19, op := Op.fieldAddr 163 (Operand.tmp 18) 1, type := 0, pos := "ids.go:136", after := #[{ on := 3, ground := Ground.data }], guard := none }) (v := _) rfl (by kernel_rfl) (by kernel_rfl) (by kernel_rfl) (fun _ _ _ h => h) (Or.inl ⟨by rfl, ?hyA5⟩) ?reA5
  case hyA5 => (intro W hSw; (try dsimp only at hSw); go_simp; try with_reducible rfl)
  try simp only [Act.put, List.setIfInBounds_toArray, List.set_cons_zero, List.set_cons_succ]
  refine' wpAnyJ_take (i := 5) (oi := { dst := some 20, op := Op.load 45 (Operand.tmp 19), type := 45, pos := "ids.go:136", after := #[{ on := 4, ground := Ground.data }], guard := none }) (v := _) rfl (by kernel_rfl) (by kernel_rfl) (by kernel_rfl) (by kernel_rfl) (fun _ _ _ h => h) (Or.inl ⟨by rfl, ?hyA6⟩) (by assumption) ?reA6
  case hyA6 => (intro W hSw; (try dsimp only at hSw); go_simp; try with_reducible rfl)
  try simp only [Act.put, List.setIfInBounds_toArray, List.set_cons_zero, List.set_cons_succ]
  refine' wpAnyJ_takeW (i := 6) (oi := { dst := some 21, op := Op.move (Operand.tmp 1), type := 3, pos := "ids.go:136", after := #[], guard := none }) (v := _) rfl (by kernel_rfl) (by kernel_rfl) (by kernel_rfl) (fun _ _ _ h => h) (Or.inl ⟨by rfl, ?hyA7⟩) ?reA7
  case hyA7 => (intro W hSw; (try dsimp only at hSw); go_simp; try with_reducible rfl)
  try simp only [Act.put, List.setIfInBounds_toArray, List.set_cons_zero, List.set_cons_succ]
  refine' wpAnyJ_takeW (i := 9) (oi := { dst := some 24, op := Op.move (Operand.tmp 0), type := 105, pos := "ids.go:136", after := #[], guard := none }) (v := _) rfl (by kernel_rfl) (by kernel_rfl) (by kernel_rfl) (fun _ _ _ h => h) (Or.inl ⟨by rfl, ?hyA8⟩) ?reA8
  case hyA8 => (intro W hSw; (try dsimp only at hSw); go_simp; try with_reducible rfl)
  try simp only [Act.put, List.setIfInBounds_toArray, List.set_cons_zero, List.set_cons_succ]
  refine' wpAnyJ_takeW (i := 10) (oi := { dst := some 25, op := Op.nilCheck (Operand.tmp 24), type := 0, pos := "ids.go:136", after := #[{ on := 9, ground := Ground.data }], guard := none }) (v := _) rfl (by kernel_rfl) (by kernel_rfl) (by kernel_rfl) (fun _ _ _ h => h) (Or.inl ⟨by rfl, ?hyA9⟩) ?reA9
  case hyA9 => (intro W hSw; (try dsimp only at hSw); go_simp; try with_reducible rfl)
  try simp only [Act.put, List.setIfInBounds_toArray, List.set_cons_zero, List.set_cons_succ]
  refine' wpAnyJ_takeW (i := 11) (oi := { dst := some 26, op := Op.fieldAddr 163 (Operand.tmp 25) 2, type := 0, pos := "ids.go:136", after := #[{ on := 10, ground := Ground.data }], guard := none }) (v := _) rfl (by kernel_rfl) (by kernel_rfl) (by kernel_rfl) (fun _ _ _ h => h) (Or.inl ⟨by rfl, ?hyA10⟩) ?reA10
  case hyA10 => (intro W hSw; (try dsimp only at hSw); go_simp; try with_reducible rfl)
  try simp only [Act.put, List.setIfInBounds_toArray, List.set_cons_zero, List.set_cons_succ]
  refine' wpAnyJ_take (i := 12) (oi := { dst := some 27, op := Op.load 39 (Operand.tmp 26), type := 39, pos := "ids.go:136", after := #[{ on := 11, ground := Ground.data }], guard := none }) (v := _) rfl (by kernel_rfl) (by kernel_rfl) (by kernel_rfl) (by kernel_rfl) (fun _ _ _ h => h) (Or.inl ⟨by rfl, ?hyA11⟩) (by assumption) ?reA11
  case hyA11 => (intro W hSw; (try dsimp only at hSw); go_simp; try with_reducible rfl)
  try simp only [Act.put, List.setIfInBounds_toArray, List.set_cons_zero, List.set_cons_succ]
  refine wpAnyJ_ready (rs := [7, 13]) (by kernel_rfl) (by simp) ?_
  refine AllReadyJ.cons (o := { dst := some 22, op := Op.buildSlice 45 1 #[(0, Operand.tmp 21)], type := 45, pos := "ids.go:136", after := #[{ on := 6, ground := Ground.data }], guard := none }) rfl (fun K hK => ?_) ?_
  · go_simp
    refine hK.out _ _ (fun _ _ => (mid_cells (H.out.mid (T0.out.alloc _))).1) ?_
    clear hK K
    try simp only [Act.put, List.setIfInBounds_toArray, List.set_cons_zero, List.set_cons_succ]
    refine wpAnyJ_ready (rs := [8, 13]) (by kernel_rfl) (by simp) ?_
    refine AllReadyJ.cons (o := { dst := some 23, op := Op.call { callee := Callee.builtin Builtin.append, args := #[Operand.tmp 20, Operand.tmp 22], argTypes := #[45, 45] }, type := 45, pos := "ids.go:136", after := #[{ on := 5, ground := Ground.data }, { on := 7, ground := Ground.data }], guard := none }) rfl (fun K hK => ?_) ?_
    · refine step_append_lies _ rfl (.tmp 20) (.tmp 22) 45 rfl 0 3 i3 (.int .i64 0) 1 8 Tryz.underlying45 hi3 hx0 hx1 hx2 rfl (by decide) (.slice aog gs.length cg) gs.length (ic gs) (by simp [Act.eval]) (T0.out.alloc _).1 ⟨w1.heap.size, 0, none⟩ 1 1 [.int .i64 (x : Int)] (by simp [Act.eval]) rfl (by intro j u hj; match j, hj with | 0, hj => simp at hj; subst hj; simp [Addr.add]) (by intro u hu; simp at hu; subst hu; rfl) (by omega) (by unfold maxLen; omega) (by omega) (Nat.zero_le _) _ rfl ?_; intro g9 c9 w9 ho9 hg9 ha9 _
      have T9 := hide ((T0.out.alloc _).growG (x := x) ho9 hg9 ha9)
      clear ho9 hg9 ha9
      refine hK.out _ _ (fun _ _ => (mid_cells (H.out.mid T9.out)).1) ?_
      clear hK K
      try simp only [Act.put, List.setIfInBounds_toArray, List.set_cons_zero, List.set_cons_succ]
      refine wpAnyJ_ready (rs := [13]) (by kernel_rfl) (by simp) ?_
      refine AllReadyJ.cons (o := { dst := some 28, op := Op.load 29 (Operand.tmp 4), type := 29, pos := "ids.go:136", after := #[], guard := none }) rfl (fun K hK => ?_) AllReadyJ.nil
      obtain ⟨q0, q1⟩ := WH.out _ T9.out.2.2.2.2.2
      go_simp
      refine hK.out _ _ (fun _ h => h) ?_
      clear hK K q0 q1
      try simp only [Act.put, List.setIfInBounds_toArray, List.set_cons_zero, List.set_cons_succ]
      refine wpAnyJ_ready (rs := [14]) (by kernel_rfl) (by simp) ?_
      refine AllReadyJ.cons (o := { dst := some 29, op := Op.buildSlice 39 1 #[(0, Operand.tmp 28)], type := 39, pos := "ids.go:136", after := #[{ on := 13, ground := Ground.data }], guard := none }) rfl (fun K hK => ?_) AllReadyJ.nil
      go_simp
      refine hK.out _ _ (fun _ _ => (mid_cells (H.out.mid (T9.out.alloc _))).1) ?_
      clear hK K
      try simp only [Act.put, List.setIfInBounds_toArray, List.set_cons_zero, List.set_cons_succ]
      refine wpAnyJ_ready (rs := [15]) (by kernel_rfl) (by simp) ?_
      refine AllReadyJ.cons (o := { dst := some 30, op := Op.call { callee := Callee.builtin Builtin.append, args := #[Operand.tmp 27, Operand.tmp 29], argTypes := #[39, 39] }, type := 39, pos := "ids.go:136", after := #[{ on := 12, ground := Ground.data }, { on := 14, ground := Ground.data }, { on := 8, ground := Ground.chain }], guard := none }) rfl (fun K hK => ?_) AllReadyJ.nil
      refine step_append_lies _ rfl (.tmp 27) (.tmp 29) 39 rfl 0 29 i41 (.agg #[.int .i64 0, .int .i64 0]) 2 16 Tryz.underlying39 hi41 hy0 hy1 hy2 rfl (by decide) (.slice aol lv.length cl) lv.length (ec lv) (by simp [Act.eval]) (T9.out.alloc _).2.1 ⟨w9.heap.size, 0, none⟩ 1 1 [.int .i64 (gs.length : Int), .int .i64 (x : Int)] (by simp [Act.eval]) rfl (by intro j u hj; match j, hj with | 0, hj => simp at hj; subst hj; simp [Addr.add] | 1, hj => simp at hj; subst hj; simp [Addr.add]) (by intro u hu; simp at hu; rcases hu with rfl | rfl <;> rfl) (by omega) (by unfold maxLen; omega) (by omega) (Nat.zero_le _) _ rfl ?_; intro g8 c8 w8 ho8 hg8 ha8 _
      have T10 := hide ((T9.out.alloc _).growL (a := gs.length) (b := x) ho8 hg8 ha8)
      clear ho8 hg8 ha8
      refine hK.out _ _ (fun _ _ => (mid_cells (H.out.mid T10.out)).1) ?_
      clear hK K
      obtain ⟨⟨d1, d2⟩, y1, y2⟩ := mid_cells (H.out.mid T10.out)
      try simp only [Act.put, List.setIfInBounds_toArray, List.set_cons_zero, List.set_cons_succ]
      refine' wpAnyJ_takeW (i := 16) (oi := { dst := some 31, op := Op.nilCheck (Operand.tmp 15), type := 0, pos := "ids.go:136", after := #[{ on := 0, ground := Ground.data }, { on := 0, ground := Ground.phase }, { on := 1, ground := Ground.textOnly Departure.lateStores }, { on := 2, ground := Ground.phase }, { on := 3, ground := Ground.phase }, { on := 4, ground := Ground.phase }, { on := 5, ground := Ground.phase }, { on := 6, ground := Ground.phase }, { on := 7, ground := Ground.phase }, { on := 8, ground := Ground.phase }, { on := 9, ground := Ground.textOnly Departure.lateStores }, { on := 10, ground := Ground.textOnly Departure.lateStoresUnsure }, { on := 11, ground := Ground.textOnly Departure.lateStoresUnsure }, { on := 12, ground := Ground.phase }, { on := 13, ground := Ground.textOnly Departure.lateStores }, { on := 14, ground := Ground.textOnly Departure.lateStoresUnsure }, { on := 15, ground := Ground.phase }], guard := none }) (v := _) rfl (by kernel_rfl) (by kernel_rfl) (by kernel_rfl) (fun _ _ _ h => h) (Or.inl ⟨by rfl, ?hyA12⟩) ?reA12
      case hyA12 => (intro W hSw; (try dsimp only at hSw); go_simp; try with_reducible rfl)
      try simp only [Act.put, List.setIfInBounds_toArray, List.set_cons_zero, List.set_cons_succ]
      refine' wpAnyJ_takeW (i := 17) (oi := { dst := some 32, op := Op.fieldAddr 163 (Operand.tmp 31) 1, type := 0, pos := "ids.go:136", after := #[{ on := 16, ground := Ground.data }, { on := 0, ground := Ground.phase }, { on := 1, ground := Ground.textOnly Departure.lateStores }, { on := 2, ground := Ground.phase }, { on := 3, ground := Ground.phase }, { on := 4, ground := Ground.phase }, { on := 5, ground := Ground.phase }, { on := 6, ground := Ground.phase }, { on := 7, ground := Ground.phase }, { on := 8, ground := Ground.phase }, { on := 9, ground := Ground.textOnly Departure.lateStores }, { on := 10, ground := Ground.textOnly Departure.lateStoresUnsure }, { on := 11, ground := Ground.textOnly Departure.lateStoresUnsure }, { on := 12, ground := Ground.phase }, { on := 13, ground := Ground.textOnly Departure.lateStores }, { on := 14, ground := Ground.textOnly Departure.lateStoresUnsure }, { on := 15, ground := Ground.phase }], guard := none }) (v := _) rfl (by kernel_rfl) (by kernel_rfl) (by kernel_rfl) (fun _ _ _ h => h) (Or.inl ⟨by rfl, ?hyA13⟩) ?reA13
      case hyA13 => (intro W hSw; (try dsimp only at hSw); go_simp; try with_reducible rfl)
      try simp only [Act.put, List.setIfInBounds_toArray, List.set_cons_zero, List.set_cons_succ]
      refine wpAnyJ_ready (rs := [18]) (by kernel_rfl) (by simp) ?_
      refine AllReadyJ.cons (o := { dst := none, op := Op.store 45 (Operand.tmp 32) (Operand.tmp 23), type := 0, pos := "ids.go:136", after := #[{ on := 17, ground := Ground.data }, { on := 8, ground := Ground.data }, { on := 15, ground := Ground.chain }, { on := 0, ground := Ground.phase }, { on := 1, ground := Ground.textOnly Departure.lateStores }, { on := 2, ground := Ground.phase }, { on := 3, ground := Ground.phase }, { on := 4, ground := Ground.phase }, { on := 5, ground := Ground.phase }, { on := 6, ground := Ground.phase }, { on := 7, ground := Ground.phase }, { on := 8, ground := Ground.phase }, { on := 9, ground := Ground.textOnly Departure.lateStores }, { on := 10, ground := Ground.textOnly Departure.lateStoresUnsure }, { on := 11, ground := Ground.textOnly Departure.lateStoresUnsure }, { on := 12, ground := Ground.phase }, { on := 13, ground := Ground.textOnly Departure.lateStores }, { on := 14, ground := Ground.textOnly Departure.lateStoresUnsure }, { on := 15, ground := Ground.phase }], guard := none }) rfl (fun K hK => ?_) AllReadyJ.nil
      go_simp
      refine hK.out _ _ (fun h => absurd h (by decide)) ?_
      clear hK K
      try simp only [Act.put, List.setIfInBounds_toArray, List.set_cons_zero, List.set_cons_succ]
      refine' wpAnyJ_takeW (i := 19) (oi := { dst := some 33, op := Op.nilCheck (Operand.tmp 16), type := 0, pos := "ids.go:136", after := #[{ on := 1, ground := Ground.data }, { on := 0, ground := Ground.phase }, { on := 1, ground := Ground.phase }, { on := 2, ground := Ground.phase }, { on := 3, ground := Ground.phase }, { on := 4, ground := Ground.phase }, { on := 5, ground := Ground.phase }, { on := 6, ground := Ground.phase }, { on := 7, ground := Ground.phase }, { on := 8, ground := Ground.phase }, { on := 9, ground := Ground.phase }, { on := 10, ground := Ground.phase }, { on := 11, ground := Ground.phase }, { on := 12, ground := Ground.phase }, { on := 13, ground := Ground.phase }, { on := 14, ground := Ground.phase }, { on := 15, ground := Ground.phase }, { on := 16, ground := Ground.phase }, { on := 17, ground := Ground.phase }, { on := 18, ground := Ground.phase }], guard := none }) (v := _) rfl (by kernel_rfl) (by kernel_rfl) (by kernel_rfl) (fun _ _ _ h => h) (Or.inl ⟨by rfl, ?hyA14⟩) ?reA14
      case hyA14 => (intro W hSw; (try dsimp only at hSw); go_simp; try with_reducible rfl)
      try simp only [Act.put, List.setIfInBounds_toArray, List.set_cons_zero, List.set_cons_succ]
      refine' wpAnyJ_takeW (i := 20) (oi := { dst := some 34, op := Op.fieldAddr 163 (Operand.tmp 33) 2, type := 0, pos := "ids.go:136", after := #[{ on := 19, ground := Ground.data }, { on := 0, ground := Ground.phase }, { on := 1, ground := Ground.phase }, { on := 2, ground := Ground.phase }, { on := 3, ground := Ground.phase }, { on := 4, ground := Ground.phase }, { on := 5, ground := Ground.phase }, { on := 6, ground := Ground.phase }, { on := 7, ground := Ground.phase }, { on := 8, ground := Ground.phase }, { on := 9, ground := Ground.phase }, { on := 10, ground := Ground.phase }, { on := 11, ground := Ground.phase }, { on := 12, ground := Ground.phase }, { on := 13, ground := Ground.phase }, { on := 14, ground := Ground.phase }, { on := 15, ground := Ground.phase }, { on := 16, ground := Ground.phase }, { on := 17, ground := Ground.phase }, { on := 18, ground := Ground.phase }], guard := none }) (v := _) rfl (by kernel_rfl) (by kernel_rfl) (by kernel_rfl) (fun _ _ _ h => h) (Or.inl ⟨by rfl, ?hyA15⟩) ?reA15
      case hyA15 => (intro W hSw; (try dsimp only at hSw); go_simp; try with_reducible rfl)
      try simp only [Act.put, List.setIfInBounds_toArray, List.set_cons_zero, List.set_cons_succ]
      refine wpAnyJ_ready (rs := [21]) (by kernel_rfl) (by simp) ?_
      refine AllReadyJ.cons (o := { dst := none, op := Op.store 39 (Operand.tmp 34) (Operand.tmp 30), type := 0, pos := "ids.go:136", after := #[{ on := 20, ground := Ground.data }, { on := 15, ground := Ground.data }, { on := 18, ground := Ground.chain }, { on := 0, ground := Ground.phase }, { on := 1, ground := Ground.phase }, { on := 2, ground := Ground.phase }, { on := 3, ground := Ground.phase }, { on := 4, ground := Ground.phase }, { on := 5, ground := Ground.phase }, { on := 6, ground := Ground.phase }, { on := 7, ground := Ground.phase }, { on := 8, ground := Ground.phase }, { on := 9, ground := Ground.phase }, { on := 10, ground := Ground.phase }, { on := 11, ground := Ground.phase }, { on := 12, ground := Ground.phase }, { on := 13, ground := Ground.phase }, { on := 14, ground := Ground.phase }, { on := 15, ground := Ground.phase }, { on := 16, ground := Ground.phase }, { on := 17, ground := Ground.phase }, { on := 18, ground := Ground.phase }], guard := none }) rfl (fun K hK => ?_) AllReadyJ.nil
      go_simp
      refine hK.out _ _ (fun h => absurd h (by decide)) ?_
      clear hK K
      try simp only [Act.put, List.setIfInBounds_toArray, List.set_cons_zero, List.set_cons_succ]
      refine wpAnyJ_done (by kernel_rfl) ?_ _
      refine NoPanic.normal ?_
      go_wp2_with fail
      go_end0
      have F := H.out.fin T10.out
      exact ⟨rfl, CV.out _ ⟨_, _, F.1, T10.out.2.2.2.1, T10.out.2.2.2.2.1, F.2⟩⟩
    refine AllReadyJ.cons (o := { dst := some 28, op := Op.load 29 (Operand.tmp 4), type := 29, pos := "ids.go:136", after := #[], guard := none }) rfl (fun K hK => ?_) AllReadyJ.nil
    go_simp
    refine hK.out _ _ (fun _ h => h) ?_
    clear hK K
    try simp only [Act.put, List.setIfInBounds_toArray, List.set_cons_zero, List.set_cons_succ]
    refine wpAnyJ_ready (rs := [8, 14]) (by kernel_rfl) (by simp) ?_
    refine AllReadyJ.cons (o := { dst := some 23, op := Op.call { callee := Callee.builtin Builtin.append, args := #[Operand.tmp 20, Operand.tmp 22], argTypes := #[45, 45] }, type := 45, pos := "ids.go:136", after := #[{ on := 5, ground := Ground.data }, { on := 7, ground := Ground.data }], guard := none }) rfl (fun K hK => ?_) ?_
    · refine step_append_lies _ rfl (.tmp 20) (.tmp 22) 45 rfl 0 3 i3 (.int .i64 0) 1 8 Tryz.underlying45 hi3 hx0 hx1 hx2 rfl (by decide) (.slice aog gs.length cg) gs.length (ic gs) (by simp [Act.eval]) (T0.out.alloc _).1 ⟨w1.heap.size, 0, none⟩ 1 1 [.int .i64 (x : Int)] (by simp [Act.eval]) rfl (by intro j u hj; match j, hj with | 0, hj => simp at hj; subst hj; simp [Addr.add]) (by intro u hu; simp at hu; subst hu; rfl) (by omega) (by unfold maxLen; omega) (by omega) (Nat.zero_le _) _ rfl ?_; intro g9 c9 w9 ho9 hg9 ha9 _
      have T9 := hide ((T0.out.alloc _).growG (x := x) ho9 hg9 ha9)
      clear ho9 hg9 ha9
      refine hK.out _ _ (fun _ _ => (mid_cells (H.out.mid T9.out)).1) ?_
      clear hK K
      try simp only [Act.put, List.setIfInBounds_toArray, List.set_cons_zero, List.set_cons_succ]
      refine wpAnyJ_ready (rs := [14]) (by kernel_rfl) (by simp) ?_
      refine AllReadyJ.cons (o := { dst := some 29, op := Op.buildSlice 39 1 #[(0, Operand.tmp 28)], type := 39, pos := "ids.go:136", after := #[{ on := 13, ground := Ground.data }], guard := none }) rfl (fun K hK => ?_) AllReadyJ.nil
      go_simp
      refine hK.out _ _ (fun _ _ => (mid_cells (H.out.mid (T9.out.alloc _))).1) ?_
      clear hK K
      try simp only [Act.put, List.setIfInBounds_toArray, List.set_cons_zero, List.set_cons_succ]
      refine wpAnyJ_ready (rs := [15]) (by kernel_rfl) (by simp) ?_
      refine AllReadyJ.cons (o := { dst := some 30, op := Op.call { callee := Callee.builtin Builtin.append, args := #[Operand.tmp 27, Operand.tmp 29], argTypes := #[39, 39] }, type := 39, pos := "ids.go:136", after := #[{ on := 12, ground := Ground.data }, { on := 14, ground := Ground.data }, { on := 8, ground := Ground.chain }], guard := none }) rfl (fun K hK => ?_) AllReadyJ.nil
      refine step_append_lies _ rfl (.tmp 27) (.tmp 29) 39 rfl 0 29 i41 (.agg #[.int .i64 0, .int .i64 0]) 2 16 Tryz.underlying39 hi41 hy0 hy1 hy2 rfl (by decide) (.slice aol lv.length cl) lv.length (ec lv) (by simp [Act.eval]) (T9.out.alloc _).2.1 ⟨w9.heap.size, 0, none⟩ 1 1 [.int .i64 (gs.length : Int), .int .i64 (x : Int)] (by simp [Act.eval]) rfl (by intro j u hj; match j, hj with | 0, hj => simp at hj; subst hj; simp [Addr.add] | 1, hj => simp at hj; subst hj; simp [Addr.add]) (by intro u hu; simp at hu; rcases hu with rfl | rfl <;> rfl) (by omega) (by unfold maxLen; omega) (by omega) (Nat.zero_le _) _ rfl ?_; intro g8 c8 w8 ho8 hg8 ha8 _
      have T10 := hide ((T9.out.alloc _).growL (a := gs.length) (b := x) ho8 hg8 ha8)
      clear ho8 hg8 ha8
      refine hK.out _ _ (fun _ _ => (mid_cells (H.out.mid T10.out)).1) ?_
      clear hK K
      obtain ⟨⟨d1, d2⟩, y1, y2⟩ := mid_cells (H.out.mid T10.out)
      try simp only [Act.put, List.setIfInBounds_toArray, List.set_cons_zero, List.set_cons_succ]
      refine' wpAnyJ_takeW (i := 16) (oi := { dst := some 31, op := Op.nilCheck (Operand.tmp 15), type := 0, pos := "ids.go:136", after := #[{ on := 0, ground := Ground.data }, { on := 0, ground := Ground.phase }, { on := 1, ground := Ground.textOnly Departure.lateStores }, { on := 2, ground := Ground.phase }, { on := 3, ground := Ground.phase }, { on := 4, ground := Ground.phase }, { on := 5, ground := Ground.phase }, { on := 6, ground := Ground.phase }, { on := 7, ground := Ground.phase }, { on := 8, ground := Ground.phase }, { on := 9, ground := Ground.textOnly Departure.lateStores }, { on := 10, ground := Ground.textOnly Departure.lateStoresUnsure }, { on := 11, ground := Ground.textOnly Departure.lateStoresUnsure }, { on := 12, ground := Ground.phase }, { on := 13, ground := Ground.textOnly Departure.lateStores }, { on := 14, ground := Ground.textOnly Departure.lateStoresUnsure }, { on := 15, ground := Ground.phase }], guard := none }) (v := _) rfl (by kernel_rfl) (by kernel_rfl) (by kernel_rfl) (fun _ _ _ h => h) (Or.inl ⟨by rfl, ?hyA16⟩) ?reA16
      case hyA16 => (intro W hSw; (try dsimp only at hSw); go_simp; try with_reducible rfl)
      try simp only [Act.put, List.setIfInBounds_toArray, List.set_cons_zero, List.set_cons_succ]
      refine' wpAnyJ_takeW (i := 17) (oi := { dst := some 32, op := Op.fieldAddr 163 (Operand.tmp 31) 1, type := 0, pos := "ids.go:136", after := #[{ on := 16, ground := Ground.data }, { on := 0, ground := Ground.phase }, { on := 1, ground := Ground.textOnly Departure.lateStores }, { on := 2, ground := Ground.phase }, { on := 3, ground := Ground.phase }, { on := 4, ground := Ground.phase }, { on := 5, ground := Ground.phase }, { on := 6, ground := Ground.phase }, { on := 7, ground := Ground.phase }, { on := 8, ground := Ground.phase }, { on := 9, ground := Ground.textOnly Departure.lateStores }, { on := 10, ground := Ground.textOnly Departure.lateStoresUnsure }, { on := 11, ground := Ground.textOnly Departure.lateStoresUnsure }, { on := 12, ground := Ground.phase }, { on := 13, ground := Ground.textOnly Departure.lateStores }, { on := 14, ground := Ground.textOnly Departure.lateStoresUnsure }, { on := 15, ground := Ground.phase }], guard := none }) (v := _) rfl (by kernel_rfl) (by kernel_rfl) (by kernel_rfl) (fun _ _ _ h => h) (Or.inl ⟨by rfl, ?hyA17⟩) ?reA17
      case hyA17 => (intro W hSw; (try dsimp only at hSw); go_simp; try with_reducible rfl)
      try simp only [Act.put, List.setIfInBounds_toArray, List.set_cons_zero, List.set_cons_succ]
      refine wpAnyJ_ready (rs := [18]) (by kernel_rfl) (by simp) ?_
      refine AllReadyJ.cons (o := { dst := none, op := Op.store 45 (Operand.tmp 32) (Operand.tmp 23), type := 0, pos := "ids.go:136", after := #[{ on := 17, ground := Ground.data }, { on := 8, ground := Ground.data }, { on := 15, ground := Ground.chain }, { on := 0, ground := Ground.phase }, { on := 1, ground := Ground.textOnly Departure.lateStores }, { on := 2, ground := Ground.phase }, { on := 3, ground := Ground.phase }, { on := 4, ground := Ground.phase }, { on := 5, ground := Ground.phase }, { on := 6, ground := Ground.phase }, { on := 7, ground := Ground.phase }, { on := 8, ground := Ground.phase }, { on := 9, ground := Ground.textOnly Departure.lateStores }, { on := 10, ground := Ground.textOnly Departure.lateStoresUnsure }, { on := 11, ground := Ground.textOnly Departure.lateStoresUnsure }, { on := 12, ground := Ground.phase }, { on := 13, ground := Ground.textOnly Departure.lateStores }, { on := 14, ground := Ground.textOnly Departure.lateStoresUnsure }, { on := 15, ground := Ground.phase }], guard := none }) rfl (fun K hK => ?_) AllReadyJ.nil
      go_simp
      refine hK.out _ _ (fun h => absurd h (by decide)) ?_
      clear hK K
      try simp only [Act.put, List.setIfInBounds_toArray, List.set_cons_zero, List.set_cons_succ]
      refine' wpAnyJ_takeW (i := 19) (oi := { dst := some 33, op := Op.nilCheck (Operand.tmp 16), type := 0, pos := "ids.go:136", after := #[{ on := 1, ground := Ground.data }, { on := 0, ground := Ground.phase }, { on := 1, ground := Ground.phase }, { on := 2, ground := Ground.phase }, { on := 3, ground := Ground.phase }, { on := 4, ground := Ground.phase }, { on := 5, ground := Ground.phase }, { on := 6, ground := Ground.phase }, { on := 7, ground := Ground.phase }, { on := 8, ground := Ground.phase }, { on := 9, ground := Ground.phase }, { on := 10, ground := Ground.phase }, { on := 11, ground := Ground.phase }, { on := 12, ground := Ground.phase }, { on := 13, ground := Ground.phase }, { on := 14, ground := Ground.phase }, { on := 15, ground := Ground.phase }, { on := 16, ground := Ground.phase }, { on := 17, ground := Ground.phase }, { on := 18, ground := Ground.phase }], guard := none }) (v := _) rfl (by kernel_rfl) (by kernel_rfl) (by kernel_rfl) (fun _ _ _ h => h) (Or.inl ⟨by rfl, ?hyA18⟩) ?reA18
      case hyA18 => (intro W hSw; (try dsimp only at hSw); go_simp; try with_reducible rfl)
      try simp only [Act.put, List.setIfInBounds_toArray, List.set_cons_zero, List.set_cons_succ]
      refine' wpAnyJ_takeW (i := 20) (oi := { dst := some 34, op := Op.fieldAddr 163 (Operand.tmp 33) 2, type := 0, pos := "ids.go:136", after := #[{ on := 19, ground := Ground.data }, { on := 0, ground := Ground.phase }, { on := 1, ground := Ground.phase }, { on := 2, ground := Ground.phase }, { on := 3, ground := Ground.phase }, { on := 4, ground := Ground.phase }, { on := 5, ground := Ground.phase }, { on := 6, ground := Ground.phase }, { on := 7, ground := Ground.phase }, { on := 8, ground := Ground.phase }, { on := 9, ground := Ground.phase }, { on := 10, ground := Ground.phase }, { on := 11, ground := Ground.phase }, { on := 12, ground := Ground.phase }, { on := 13, ground := Ground.phase }, { on := 14, ground := Ground.phase }, { on := 15, ground := Ground.phase }, { on := 16, ground := Ground.phase }, { on := 17, ground := Ground.phase }, { on := 18, ground := Ground.phase }], guard := none }) (v := _) rfl (by kernel_rfl) (by kernel_rfl) (by kernel_rfl) (fun _ _ _ h => h) (Or.inl ⟨by rfl, ?hyA19⟩) ?reA19
      case hyA19 => (intro W hSw; (try dsimp only at hSw); go_simp; try with_reducible rfl)
      try simp only [Act.put, List.setIfInBounds_toArray, List.set_cons_zero, List.set_cons_succ]
      refine wpAnyJ_ready (rs := [21]) (by kernel_rfl) (by simp) ?_
      refine AllReadyJ.cons (o := { dst := none, op := Op.store 39 (Operand.tmp 34) (Operand.tmp 30), type := 0, pos := "ids.go:136", after := #[{ on := 20, ground := Ground.data }, { on := 15, ground := Ground.data }, { on := 18, ground := Ground.chain }, { on := 0, ground := Ground.phase }, { on := 1, ground := Ground.phase }, { on := 2, ground := Ground.phase }, { on := 3, ground := Ground.phase }, { on := 4, ground := Ground.phase }, { on := 5, ground := Ground.phase }, { on := 6, ground := Ground.phase }, { on := 7, ground := Ground.phase }, { on := 8, ground := Ground.phase }, { on := 9, ground := Ground.phase }, { on := 10, ground := Ground.phase }, { on := 11, ground := Ground.phase }, { on := 12, ground := Ground.phase }, { on := 13, ground := Ground.phase }, { on := 14, ground := Ground.phase }, { on := 15, ground := Ground.phase }, { on := 16, ground := Ground.phase }, { on := 17, ground := Ground.phase }, { on := 18, ground := Ground.phase }], guard := none }) rfl (fun K hK => ?_) AllReadyJ.nil
      go_simp
      refine hK.out _ _ (fun h => absurd h (by decide)) ?_
      clear hK K
      try simp only [Act.put, List.setIfInBounds_toArray, List.set_cons_zero, List.set_cons_succ]
      refine wpAnyJ_done (by kernel_rfl) ?_ _
      refine NoPanic.normal ?_
      go_wp2_with fail
      go_end0
      have F := H.out.fin T10.out
      exact ⟨rfl, CV.out _ ⟨_, _, F.1, T10.out.2.2.2.1, T10.out.2.2.2.2.1, F.2⟩⟩
    refine AllReadyJ.cons (o := { dst := some 29, op := Op.buildSlice 39 1 #[(0, Operand.tmp 28)], type := 39, pos := "ids.go:136", after := #[{ on := 13, ground := Ground.data }], guard := none }) rfl (fun K hK => ?_) AllReadyJ.nil
    go_simp
    refine hK.out _ _ (fun _ _ => (mid_cells (H.out.mid ((T0.out.alloc _).alloc _))).1) ?_
    clear hK K
    try simp only [Act.put, List.setIfInBounds_toArray, List.set_cons_zero, List.set_cons_succ]
    refine wpAnyJ_ready (rs := [8]) (by kernel_rfl) (by simp) ?_
    refine AllReadyJ.cons (o := { dst := some 23, op := Op.call { callee := Callee.builtin Builtin.append, args := #[Operand.tmp 20, Operand.tmp 22], argTypes := #[45, 45] }, type := 45, pos := "ids.go:136", after := #[{ on := 5, ground := Ground.data }, { on := 7, ground := Ground.data }], guard := none }) rfl (fun K hK => ?_) AllReadyJ.nil
    refine step_append_lies _ rfl (.tmp 20) (.tmp 22) 45 rfl 0 3 i3 (.int .i64 0) 1 8 Tryz.underlying45 hi3 hx0 hx1 hx2 rfl (by decide) (.slice aog gs.length cg) gs.length (ic gs) (by simp [Act.eval]) ((T0.out.alloc _).alloc _).1 ⟨w1.heap.size, 0, none⟩ 1 1 [.int .i64 (x : Int)] (by simp [Act.eval]) rfl (by intro j u hj; match j, hj with | 0, hj => simp at hj; subst hj; simp [Addr.add]) (by intro u hu; simp at hu; subst hu; rfl) (by omega) (by unfold maxLen; omega) (by omega) (Nat.zero_le _) _ rfl ?_; intro g9 c9 w9 ho9 hg9 ha9 _
    have T9 := hide (((T0.out.alloc _).alloc _).growG (x := x) ho9 hg9 ha9)
    have s0 : w9.cell? ⟨w1.heap.size + 1, 0, none⟩ = some (.int .i64 (gs.length : Int)) := hg9.cell (by simp) (fun e => by have := (HGL.out _ e.symm).2; first | omega | (simp at this <;> omega))
    have s1 : w9.cell? ⟨w1.heap.size + 1, 1, none⟩ = some (.int .i64 (x : Int)) := hg9.cell (by simp) (fun e => by have := (HGL.out _ e.symm).2; first | omega | (simp at this <;> omega))
    clear ho9 hg9 ha9
    refine hK.out _ _ (fun _ _ => (mid_cells (H.out.mid T9.out)).1) ?_
    clear hK K
    try simp only [Act.put, List.setIfInBounds_toArray, List.set_cons_zero, List.set_cons_succ]
    refine wpAnyJ_ready (rs := [15]) (by kernel_rfl) (by simp) ?_
    refine AllReadyJ.cons (o := { dst := some 30, op := Op.call { callee := Callee.builtin Builtin.append, args := #[Operand.tmp 27, Operand.tmp 29], argTypes := #[39, 39] }, type := 39, pos := "ids.go:136", after := #[{ on := 12, ground := Ground.data }, { on := 14, ground := Ground.data }, { on := 8, ground := Ground.chain }], guard := none }) rfl (fun K hK => ?_) AllReadyJ.nil
    refine step_append_lies _ rfl (.tmp 27) (.tmp 29) 39 rfl 0 29 i41 (.agg #[.int .i64 0, .int .i64 0]) 2 16 Tryz.underlying39 hi41 hy0 hy1 hy2 rfl (by decide) (.slice aol lv.length cl) lv.length (ec lv) (by simp [Act.eval]) T9.out.2.1 ⟨w1.heap.size + 1, 0, none⟩ 1 1 [.int .i64 (gs.length : Int), .int .i64 (x : Int)] (by simp [Act.eval]) rfl (by intro j u hj; match j, hj with | 0, hj => simp at hj; subst hj; simpa [Addr.add] using s0 | 1, hj => simp at hj; subst hj; simpa [Addr.add] using s1) (by intro u hu; simp at hu; rcases hu with rfl | rfl <;> rfl) (by omega) (by unfold maxLen; omega) (by omega) (Nat.zero_le _) _ rfl ?_; intro g8 c8 w8 ho8 hg8 ha8 _
    have T10 := hide (T9.out.growL (a := gs.length) (b := x) ho8 hg8 ha8)
    clear ho8 hg8 ha8
    refine hK.out _ _ (fun _ _ => (mid_cells (H.out.mid T10.out)).1) ?_
    clear hK K
    obtain ⟨⟨d1, d2⟩, y1, y2⟩ := mid_cells (H.out.mid T10.out)
    try simp only [Act.put, List.setIfInBounds_toArray, List.set_cons_zero, List.set_cons_succ]
    refine' wpAnyJ_takeW (i := 16) (oi := { dst := some 31, op := Op.nilCheck (Operand.tmp 15), type := 0, pos := "ids.go:136", after := #[{ on := 0, ground := Ground.data }, { on := 0, ground := Ground.phase }, { on := 1, ground := Ground.textOnly Departure.lateStores }, { on := 2, ground := Ground.phase }, { on := 3, ground := Ground.phase }, { on := 4, ground := Ground.phase }, { on := 5, ground := Ground.phase }, { on := 6, ground := Ground.phase }, { on := 7, ground := Ground.phase }, { on := 8, ground := Ground.phase }, { on := 9, ground := Ground.textOnly Departure.lateStores }, { on := 10, ground := Ground.textOnly Departure.lateStoresUnsure }, { on := 11, ground := Ground.textOnly Departure.lateStoresUnsure }, { on := 12, ground := Ground.phase }, { on := 13, ground := Ground.textOnly Departure.lateStores }, { on := 14, ground := Ground.textOnly Departure.lateStoresUnsure }, { on := 15, ground := Ground.phase }], guard := none }) (v := _) rfl (by kernel_rfl) (by kernel_rfl) (by kernel_rfl) (fun _ _ _ h => h) (Or.inl ⟨by rfl, ?hyA20⟩) ?reA20
    case hyA20 => (intro W hSw; (try dsimp only at hSw); go_simp; try with_reducible rfl)
    try simp only [Act.put, List.setIfInBounds_toArray, List.set_cons_zero, List.set_cons_succ]
    refine' wpAnyJ_takeW (i := 17) (oi := { dst := some 32, op := Op.fieldAddr 163 (Operand.tmp 31) 1, type := 0, pos := "ids.go:136", after := #[{ on := 16, ground := Ground.data }, { on := 0, ground := Ground.phase }, { on := 1, ground := Ground.textOnly Departure.lateStores }, { on := 2, ground := Ground.phase }, { on := 3, ground := Ground.phase }, { on := 4, ground := Ground.phase }, { on := 5, ground := Ground.phase }, { on := 6, ground := Ground.phase }, { on := 7, ground := Ground.phase }, { on := 8, ground := Ground.phase }, { on := 9, ground := Ground.textOnly Departure.lateStores }, { on := 10, ground := Ground.textOnly Departure.lateStoresUnsure }, { on := 11, ground := Ground.textOnly Departure.lateStoresUnsure }, { on := 12, ground := Ground.phase }, { on := 13, ground := Ground.textOnly Departure.lateStores }, { on := 14, ground := Ground.textOnly Departure.lateStoresUnsure }, { on := 15, ground := Ground.phase }], guard := none }) (v := _) rfl (by kernel_rfl) (by kernel_rfl) (by kernel_rfl) (fun _ _ _ h => h) (Or.inl ⟨by rfl, ?hyA21⟩) ?reA21
    case hyA21 => (intro W hSw; (try dsimp only at hSw); go_simp; try with_reducible rfl)
    try simp only [Act.put, List.setIfInBounds_toArray, List.set_cons_zero, List.set_cons_succ]
    refine wpAnyJ_ready (rs := [18]) (by kernel_rfl) (by simp) ?_
    refine AllReadyJ.cons (o := { dst := none, op := Op.store 45 (Operand.tmp 32) (Operand.tmp 23), type := 0, pos := "ids.go:136", after := #[{ on := 17, ground := Ground.data }, { on := 8, ground := Ground.data }, { on := 15, ground := Ground.chain }, { on := 0, ground := Ground.phase }, { on := 1, ground := Ground.textOnly Departure.lateStores }, { on := 2, ground := Ground.phase }, { on := 3, ground := Ground.phase }, { on := 4, ground := Ground.phase }, { on := 5, ground := Ground.phase }, { on := 6, ground := Ground.phase }, { on := 7, ground := Ground.phase }, { on := 8, ground := Ground.phase }, { on := 9, ground := Ground.textOnly Departure.lateStores }, { on := 10, ground := Ground.textOnly Departure.lateStoresUnsure }, { on := 11, ground := Ground.textOnly Departure.lateStoresUnsure }, { on := 12, ground := Ground.phase }, { on := 13, ground := Ground.textOnly Departure.lateStores }, { on := 14, ground := Ground.textOnly Departure.lateStoresUnsure }, { on := 15, ground := Ground.phase }], guard := none }) rfl (fun K hK => ?_) AllReadyJ.nil
    go_simp
    refine hK.out _ _ (fun h => absurd h (by decide)) ?_
    clear hK K
    try simp only [Act.put, List.setIfInBounds_toArray, List.set_cons_zero, List.set_cons_succ]
    refine' wpAnyJ_takeW (i := 19) (oi := { dst := some 33, op := Op.nilCheck (Operand.tmp 16), type := 0, pos := "ids.go:136", after := #[{ on := 1, ground := Ground.data }, { on := 0, ground := Ground.phase }, { on := 1, ground := Ground.phase }, { on := 2, ground := Ground.phase }, { on := 3, ground := Ground.phase }, { on := 4, ground := Ground.phase }, { on := 5, ground := Ground.phase }, { on := 6, ground := Ground.phase }, { on := 7, ground := Ground.phase }, { on := 8, ground := Ground.phase }, { on := 9, ground := Ground.phase }, { on := 10, ground := Ground.phase }, { on := 11, ground := Ground.phase }, { on := 12, ground := Ground.phase }, { on := 13, ground := Ground.phase }, { on := 14, ground := Ground.phase }, { on := 15, ground := Ground.phase }, { on := 16, ground := Ground.phase }, { on := 17, ground := Ground.phase }, { on := 18, ground := Ground.phase }], guard := none }) (v := _) rfl (by kernel_rfl) (by kernel_rfl) (by kernel_rfl) (fun _ _ _ h => h) (Or.inl ⟨by rfl, ?hyA22⟩) ?reA22
    case hyA22 => (intro W hSw; (try dsimp only at hSw); go_simp; try with_reducible rfl)
    try simp only [Act.put, List.setIfInBounds_toArray, List.set_cons_zero, List.set_cons_succ]
    refine' wpAnyJ_takeW (i := 20) (oi := { dst := some 34, op := Op.fieldAddr 163 (Operand.tmp 33) 2, type := 0, pos := "ids.go:136", after := #[{ on := 19, ground := Ground.data }, { on := 0, ground := Ground.phase }, { on := 1, ground := Ground.phase }, { on := 2, ground := Ground.phase }, { on := 3, ground := Ground.phase }, { on := 4, ground := Ground.phase }, { on := 5, ground := Ground.phase }, { on := 6, ground := Ground.phase }, { on := 7, ground := Ground.phase }, { on := 8, ground := Ground.phase }, { on := 9, ground := Ground.phase }, { on := 10, ground := Ground.phase }, { on := 11, ground := Ground.phase }, { on := 12, ground := Ground.phase }, { on := 13, ground := Ground.phase }, { on := 14, ground := Ground.phase }, { on := 15, ground := Ground.phase }, { on := 16, ground := Ground.phase }, { on := 17, ground := Ground.phase }, { on := 18, ground := Ground.phase }], guard := none }) (v := _) rfl (by kernel_rfl) (by kernel_rfl) (by kernel_rfl) (fun _ _ _ h => h) (Or.inl ⟨by rfl, ?hyA23⟩) ?reA23
    case hyA23 => (intro W hSw; (try dsimp only at hSw); go_simp; try with_reducible rfl)
    try simp only [Act.put, List.setIfInBounds_toArray, List.set_cons_zero, List.set_cons_succ]
    refine wpAnyJ_ready (rs := [21]) (by kernel_rfl) (by simp) ?_
    refine AllReadyJ.cons (o := { dst := none, op := Op.store 39 (Operand.tmp 34) (Operand.tmp 30), type := 0, pos := "ids.go:136", after := #[{ on := 20, ground := Ground.data }, { on := 15, ground := Ground.data }, { on := 18, ground := Ground.chain }, { on := 0, ground := Ground.phase }, { on := 1, ground := Ground.phase }, { on := 2, ground := Ground.phase }, { on := 3, ground := Ground.phase }, { on := 4, ground := Ground.phase }, { on := 5, ground := Ground.phase }, { on := 6, ground := Ground.phase }, { on := 7, ground := Ground.phase }, { on := 8, ground := Ground.phase }, { on := 9, ground := Ground.phase }, { on := 10, ground := Ground.phase }, { on := 11, ground := Ground.phase }, { on := 12, ground := Ground.phase }, { on := 13, ground := Ground.phase }, { on := 14, ground := Ground.phase }, { on := 15, ground := Ground.phase }, { on := 16, ground := Ground.phase }, { on := 17, ground := Ground.phase }, { on := 18, ground := Ground.phase }], guard := none }) rfl (fun K hK => ?_) AllReadyJ.nil
    go_simp
    refine hK.out _ _ (fun h => absurd h (by decide)) ?_
    clear hK K
    try simp only [Act.put, List.setIfInBounds_toArray, List.set_cons_zero, List.set_cons_succ]
    refine wpAnyJ_done (by kernel_rfl) ?_ _
    refine NoPanic.normal ?_
    go_wp2_with fail
    go_end0
    have F := H.out.fin T10.out
    exact ⟨rfl, CV.out _ ⟨_, _, F.1, T10.out.2.2.2.1, T10.out.2.2.2.2.1, F.2⟩⟩
  refine AllReadyJ.cons (o := { dst := some 28, op := Op.load 29 (Operand.tmp 4), type := 29, pos := "ids.go:136", after := #[], guard := none }) rfl (fun K hK => ?_) AllReadyJ.nil
  obtain ⟨q0, q1⟩ := WH.out _ T0.out.2.2.2.2.2
  go_simp
  refine hK.out _ _ (fun _ h => h) ?_
  clear hK K q0 q1
  try simp only [Act.put, List.setIfInBounds_toArray, List.set_cons_zero, List.set_cons_succ]
  refine wpAnyJ_ready (rs := [7, 14]) (by kernel_rfl) (by simp) ?_
  refine AllReadyJ.cons (o := { dst := some 22, op := Op.buildSlice 45 1 #[(0, Operand.tmp 21)], type := 45, pos := "ids.go:136", after := #[{ on := 6, ground := Ground.data }], guard := none }) rfl (fun K hK => ?_) ?_
  · go_simp
    refine hK.out _ _ (fun _ _ => (mid_cells (H.out.mid (T0.out.alloc _))).1) ?_
    clear hK K
    try simp only [Act.put, List.setIfInBounds_toArray, List.set_cons_zero, List.set_cons_succ]
    refine wpAnyJ_ready (rs := [8, 14]) (by kernel_rfl) (by simp) ?_
    refine AllReadyJ.cons (o := { dst := some 23, op := Op.call { callee := Callee.builtin Builtin.append, args := #[Operand.tmp 20, Operand.tmp 22], argTypes := #[45, 45] }, type := 45, pos := "ids.go:136", after := #[{ on := 5, ground := Ground.data }, { on := 7, ground := Ground.data }], guard := none }) rfl (fun K hK => ?_) ?_
    · refine step_append_lies _ rfl (.tmp 20) (.tmp 22) 45 rfl 0 3 i3 (.int .i64 0) 1 8 Tryz.underlying45 hi3 hx0 hx1 hx2 rfl (by decide) (.slice aog gs.length cg) gs.length (ic gs) (by simp [Act.eval]) (T0.out.alloc _).1 ⟨w1.heap.size, 0, none⟩ 1 1 [.int .i64 (x : Int)] (by simp [Act.eval]) rfl (by intro j u hj; match j, hj with | 0, hj => simp at hj; subst hj; simp [Addr.add]) (by intro u hu; simp at hu; subst hu; rfl) (by omega) (by unfold maxLen; omega) (by omega) (Nat.zero_le _) _ rfl ?_; intro g9 c9 w9 ho9 hg9 ha9 _
      have T9 := hide ((T0.out.alloc _).growG (x := x) ho9 hg9 ha9)
      clear ho9 hg9 ha9
      refine hK.out _ _ (fun _ _ => (mid_cells (H.out.mid T9.out)).1) ?_
      clear hK K
      try simp only [Act.put, List.setIfInBounds_toArray, List.set_cons_zero, List.set_cons_succ]
      refine wpAnyJ_ready (rs := [14]) (by kernel_rfl) (by simp) ?_
      refine AllReadyJ.cons (o := { dst := some 29, op := Op.buildSlice 39 1 #[(0, Operand.tmp 28)], type := 39, pos := "ids.go:136", after := #[{ on := 13, ground := Ground.data }], guard := none }) rfl (fun K hK => ?_) AllReadyJ.nil
      go_simp
      refine hK.out _ _ (fun _ _ => (mid_cells (H.out.mid (T9.out.alloc _))).1) ?_
      clear hK K
      try simp only [Act.put, List.setIfInBounds_toArray, List.set_cons_zero, List.set_cons_succ]
      refine wpAnyJ_ready (rs := [15]) (by kernel_rfl) (by simp) ?_
      refine AllReadyJ.cons (o := { dst := some 30, op := Op.call { callee := Callee.builtin Builtin.append, args := #[Operand.tmp 27, Operand.tmp 29], argTypes := #[39, 39] }, type := 39, pos := "ids.go:136", after := #[{ on := 12, ground := Ground.data }, { on := 14, ground := Ground.data }, { on := 8, ground := Ground.chain }], guard := none }) rfl (fun K hK => ?_) AllReadyJ.nil
      refine step_append_lies _ rfl (.tmp 27) (.tmp 29) 39 rfl 0 29 i41 (.agg #[.int .i64 0, .int .i64 0]) 2 16 Tryz.underlying39 hi41 hy0 hy1 hy2 rfl (by decide) (.slice aol lv.length cl) lv.length (ec lv) (by simp [Act.eval]) (T9.out.alloc _).2.1 ⟨w9.heap.size, 0, none⟩ 1 1 [.int .i64 (gs.length : Int), .int .i64 (x : Int)] (by simp [Act.eval]) rfl (by intro j u hj; match j, hj with | 0, hj => simp at hj; subst hj; simp [Addr.add] | 1, hj => simp at hj; subst hj; simp [Addr.add]) (by intro u hu; simp at hu; rcases hu with rfl | rfl <;> rfl) (by omega) (by unfold maxLen; omega) (by omega) (Nat.zero_le _) _ rfl ?_; intro g8 c8 w8 ho8 hg8 ha8 _
      have T10 := hide ((T9.out.alloc _).growL (a := gs.length) (b := x) ho8 hg8 ha8)
      clear ho8 hg8 ha8
      refine hK.out _ _ (fun _ _ => (mid_cells (H.out.mid T10.out)).1) ?_
      clear hK K
      obtain ⟨⟨d1, d2⟩, y1, y2⟩ := mid_cells (H.out.mid T10.out)
      try simp only [Act.put, List.setIfInBounds_toArray, List.set_cons_zero, List.set_cons_succ]
      refine' wpAnyJ_takeW (i := 16) (oi := { dst := some 31, op := Op.nilCheck (Operand.tmp 15), type := 0, pos := "ids.go:136", after := #[{ on := 0, ground := Ground.data }, { on := 0, ground := Ground.phase }, { on := 1, ground := Ground.textOnly Departure.lateStores }, { on := 2, ground := Ground.phase }, { on := 3, ground := Ground.phase }, { on := 4, ground := Ground.phase }, { on := 5, ground := Ground.phase }, { on := 6, ground := Ground.phase }, { on := 7, ground := Ground.phase }, { on := 8, ground := Ground.phase }, { on := 9, ground := Ground.textOnly Departure.lateStores }, { on := 10, ground := Ground.textOnly Departure.lateStoresUnsure }, { on := 11, ground := Ground.textOnly Departure.lateStoresUnsure }, { on := 12, ground := Ground.phase }, { on := 13, ground := Ground.textOnly Departure.lateStores }, { on := 14, ground := Ground.textOnly Departure.lateStoresUnsure }, { on := 15, ground := Ground.phase }], guard := none }) (v := _) rfl (by kernel_rfl) (by kernel_rfl) (by kernel_rfl) (fun _ _ _ h => h) (Or.inl ⟨by rfl, ?hyA24⟩) ?reA24
      case hyA24 => (intro W hSw; (try dsimp only at hSw); go_simp; try with_reducible rfl)
      try simp only [Act.put, List.setIfInBounds_toArray, List.set_cons_zero, List.set_cons_succ]
      refine' wpAnyJ_takeW (i := 17) (oi := { dst := some 32, op := Op.fieldAddr 163 (Operand.tmp 31) 1, type := 0, pos := "ids.go:136", after := #[{ on := 16, ground := Ground.data }, { on := 0, ground := Ground.phase }, { on := 1, ground := Ground.textOnly Departure.lateStores }, { on := 2, ground := Ground.phase }, { on := 3, ground := Ground.phase }, { on := 4, ground := Ground.phase }, { on := 5, ground := Ground.phase }, { on := 6, ground := Ground.phase }, { on := 7, ground := Ground.phase }, { on := 8, ground := Ground.phase }, { on := 9, ground := Ground.textOnly Departure.lateStores }, { on := 10, ground := Ground.textOnly Departure.lateStoresUnsure }, { on := 11, ground := Ground.textOnly Departure.lateStoresUnsure }, { on := 12, ground := Ground.phase }, { on := 13, ground := Ground.textOnly Departure.lateStores }, { on := 14, ground := Ground.textOnly Departure.lateStoresUnsure }, { on := 15, ground := Ground.phase }], guard := none }) (v := _) rfl (by kernel_rfl) (by kernel_rfl) (by kernel_rfl) (fun _ _ _ h => h) (Or.inl ⟨by rfl, ?hyA25⟩) ?reA25
      case hyA25 => (intro W hSw; (try dsimp only at hSw); go_simp; try with_reducible rfl)
      try simp only [Act.put, List.setIfInBounds_toArray, List.set_cons_zero, List.set_cons_succ]
      refine wpAnyJ_ready (rs := [18]) (by kernel_rfl) (by simp) ?_
      refine AllReadyJ.cons (o := { dst := none, op := Op.store 45 (Operand.tmp 32) (Operand.tmp 23), type := 0, pos := "ids.go:136", after := #[{ on := 17, ground := Ground.data }, { on := 8, ground := Ground.data }, { on := 15, ground := Ground.chain }, { on := 0, ground := Ground.phase }, { on := 1, ground := Ground.textOnly Departure.lateStores }, { on := 2, ground := Ground.phase }, { on := 3, ground := Ground.phase }, { on := 4, ground := Ground.phase }, { on := 5, ground := Ground.phase }, { on := 6, ground := Ground.phase }, { on := 7, ground := Ground.phase }, { on := 8, ground := Ground.phase }, { on := 9, ground := Ground.textOnly Departure.lateStores }, { on := 10, ground := Ground.textOnly Departure.lateStoresUnsure }, { on := 11, ground := Ground.textOnly Departure.lateStoresUnsure }, { on := 12, ground := Ground.phase }, { on := 13, ground := Ground.textOnly Departure.lateStores }, { on := 14, ground := Ground.textOnly Departure.lateStoresUnsure }, { on := 15, ground := Ground.phase }], guard := none }) rfl (fun K hK => ?_) AllReadyJ.nil
      go_simp
      refine hK.out _ _ (fun h => absurd h (by decide)) ?_
      clear hK K
      try simp only [Act.put, List.setIfInBounds_toArray, List.set_cons_zero, List.set_cons_succ]
      refine' wpAnyJ_takeW (i := 19) (oi := { dst := some 33, op := Op.nilCheck (Operand.tmp 16), type := 0, pos := "ids.go:136", after := #[{ on := 1, ground := Ground.data }, { on := 0, ground := Ground.phase }, { on := 1, ground := Ground.phase }, { on := 2, ground := Ground.phase }, { on := 3, ground := Ground.phase }, { on := 4, ground := Ground.phase }, { on := 5, ground := Ground.phase }, { on := 6, ground := Ground.phase }, { on := 7, ground := Ground.phase }, { on := 8, ground := Ground.phase }, { on := 9, ground := Ground.phase }, { on := 10, ground := Ground.phase }, { on := 11, ground := Ground.phase }, { on := 12, ground := Ground.phase }, { on := 13, ground := Ground.phase }, { on := 14, ground := Ground.phase }, { on := 15, ground := Ground.phase }, { on := 16, ground := Ground.phase }, { on := 17, ground := Ground.phase }, { on := 18, ground := Ground.phase }], guard := none }) (v := _) rfl (by kernel_rfl) (by kernel_rfl) (by kernel_rfl) (fun _ _ _ h => h) (Or.inl ⟨by rfl, ?hyA26⟩) ?reA26
      case hyA26 => (intro W hSw; (try dsimp only at hSw); go_simp; try with_reducible rfl)
      try simp only [Act.put, List.setIfInBounds_toArray, List.set_cons_zero, List.set_cons_succ]
      refine' wpAnyJ_takeW (i := 20) (oi := { dst := some 34, op := Op.fieldAddr 163 (Operand.tmp 33) 2, type := 0, pos := "ids.go:136", after := #[{ on := 19, ground := Ground.data }, { on := 0, ground := Ground.phase }, { on := 1, ground := Ground.phase }, { on := 2, ground := Ground.phase }, { on := 3, ground := Ground.phase }, { on := 4, ground := Ground.phase }, { on := 5, ground := Ground.phase }, { on := 6, ground := Ground.phase }, { on := 7, ground := Ground.phase }, { on := 8, ground := Ground.phase }, { on := 9, ground := Ground.phase }, { on := 10, ground := Ground.phase }, { on := 11, ground := Ground.phase }, { on := 12, ground := Ground.phase }, { on := 13, ground := Ground.phase }, { on := 14, ground := Ground.phase }, { on := 15, ground := Ground.phase }, { on := 16, ground := Ground.phase }, { on := 17, ground := Ground.phase }, { on := 18, ground := Ground.phase }], guard := none }) (v := _) rfl (by kernel_rfl) (by kernel_rfl) (by kernel_rfl) (fun _ _ _ h => h) (Or.inl ⟨by rfl, ?hyA27⟩) ?reA27
      case hyA27 => (intro W hSw; (try dsimp only at hSw); go_simp; try with_reducible rfl)
      try simp only [Act.put, List.setIfInBounds_toArray, List.set_cons_zero, List.set_cons_succ]
      refine wpAnyJ_ready (rs := [21]) (by kernel_rfl) (by simp) ?_
      refine AllReadyJ.cons (o := { dst := none, op := Op.store 39 (Operand.tmp 34) (Operand.tmp 30), type := 0, pos := "ids.go:136", after := #[{ on := 20, ground := Ground.data }, { on := 15, ground := Ground.data }, { on := 18, ground := Ground.chain }, { on := 0, ground := Ground.phase }, { on := 1, ground := Ground.phase }, { on := 2, ground := Ground.phase }, { on := 3, ground := Ground.phase }, { on := 4, ground := Ground.phase }, { on := 5, ground := Ground.phase }, { on := 6, ground := Ground.phase }, { on := 7, ground := Ground.phase }, { on := 8, ground := Ground.phase }, { on := 9, ground := Ground.phase }, { on := 10, ground := Ground.phase }, { on := 11, ground := Ground.phase }, { on := 12, ground := Ground.phase }, { on := 13, ground := Ground.phase }, { on := 14, ground := Ground.phase }, { on := 15, ground := Ground.phase }, { on := 16, ground := Ground.phase }, { on := 17, ground := Ground.phase }, { on := 18, ground := Ground.phase }], guard := none }) rfl (fun K hK => ?_) AllReadyJ.nil
      go_simp
      refine hK.out _ _ (fun h => absurd h (by decide)) ?_
      clear hK K
      try simp only [Act.put, List.setIfInBounds_toArray, List.set_cons_zero, List.set_cons_succ]
      refine wpAnyJ_done (by kernel_rfl) ?_ _
      refine NoPanic.normal ?_
      go_wp2_with fail
      go_end0
      have F := H.out.fin T10.out
      exact ⟨rfl, CV.out _ ⟨_, _, F.1, T10.out.2.2.2.1, T10.out.2.2.2.2.1, F.2⟩⟩
    refine AllReadyJ.cons (o := { dst := some 29, op := Op.buildSlice 39 1 #[(0, Operand.tmp 28)], type := 39, pos := "ids.go:136", after := #[{ on := 13, ground := Ground.data }], guard := none }) rfl (fun K hK => ?_) AllReadyJ.nil
    go_simp
    refine hK.out _ _ (fun _ _ => (mid_cells (H.out.mid ((T0.out.alloc _).alloc _))).1) ?_
    clear hK K
    try simp only [Act.put, List.setIfInBounds_toArray, List.set_cons_zero, List.set_cons_succ]
    refine wpAnyJ_ready (rs := [8]) (by kernel_rfl) (by simp) ?_
    refine AllReadyJ.cons (o := { dst := some 23, op := Op.call { callee := Callee.builtin Builtin.append, args := #[Operand.tmp 20, Operand.tmp 22], argTypes := #[45, 45] }, type := 45, pos := "ids.go:136", after := #[{ on := 5, ground := Ground.data }, { on := 7, ground := Ground.data }], guard := none }) rfl (fun K hK => ?_) AllReadyJ.nil
    refine step_append_lies _ rfl (.tmp 20) (.tmp 22) 45 rfl 0 3 i3 (.int .i64 0) 1 8 Tryz.underlying45 hi3 hx0 hx1 hx2 rfl (by decide) (.slice aog gs.length cg) gs.length (ic gs) (by simp [Act.eval]) ((T0.out.alloc _).alloc _).1 ⟨w1.heap.size, 0, none⟩ 1 1 [.int .i64 (x : Int)] (by simp [Act.eval]) rfl (by intro j u hj; match j, hj with | 0, hj => simp at hj; subst hj; simp [Addr.add]) (by intro u hu; simp at hu; subst hu; rfl) (by omega) (by unfold maxLen; omega) (by omega) (Nat.zero_le _) _ rfl ?_; intro g9 c9 w9 ho9 hg9 ha9 _
    have T9 := hide (((T0.out.alloc _).alloc _).growG (x := x) ho9 hg9 ha9)
    have s0 : w9.cell? ⟨w1.heap.size + 1, 0, none⟩ = some (.int .i64 (gs.length : Int)) := hg9.cell (by simp) (fun e => by have := (HGL.out _ e.symm).2; first | omega | (simp at this <;> omega))
    have s1 : w9.cell? ⟨w1.heap.size + 1, 1, none⟩ = some (.int .i64 (x : Int)) := hg9.cell (by simp) (fun e => by have := (HGL.out _ e.symm).2; first | omega | (simp at this <;> omega))
    clear ho9 hg9 ha9
    refine hK.out _ _ (fun _ _ => (mid_cells (H.out.mid T9.out)).1) ?_
    clear hK K
    try simp only [Act.put, List.setIfInBounds_toArray, List.set_cons_zero, List.set_cons_succ]
    refine wpAnyJ_ready (rs := [15]) (by kernel_rfl) (by simp) ?_
    refine AllReadyJ.cons (o := { dst := some 30, op := Op.call { callee := Callee.builtin Builtin.append, args := #[Operand.tmp 27, Operand.tmp 29], argTypes := #[39, 39] }, type := 39, pos := "ids.go:136", after := #[{ on := 12, ground := Ground.data }, { on := 14, ground := Ground.data }, { on := 8, ground := Ground.chain }], guard := none }) rfl (fun K hK => ?_) AllReadyJ.nil
    refine step_append_lies _ rfl (.tmp 27) (.tmp 29) 39 rfl 0 29 i41 (.agg #[.int .i64 0, .int .i64 0]) 2 16 Tryz.underlying39 hi41 hy0 hy1 hy2 rfl (by decide) (.slice aol lv.length cl) lv.length (ec lv) (by simp [Act.eval]) T9.out.2.1 ⟨w1.heap.size + 1, 0, none⟩ 1 1 [.int .i64 (gs.length : Int), .int .i64 (x : Int)] (by simp [Act.eval]) rfl (by intro j u hj; match j, hj with | 0, hj => simp at hj; subst hj; simpa [Addr.add] using s0 | 1, hj => simp at hj; subst hj; simpa [Addr.add] using s1) (by intro u hu; simp at hu; rcases hu with rfl | rfl <;> rfl) (by omega) (by unfold maxLen; omega) (by omega) (Nat.zero_le _) _ rfl ?_; intro g8 c8 w8 ho8 hg8 ha8 _
    have T10 := hide (T9.out.growL (a := gs.length) (b := x) ho8 hg8 ha8)
    clear ho8 hg8 ha8
    refine hK.out _ _ (fun _ _ => (mid_cells (H.out.mid T10.out)).1) ?_
    clear hK K
    obtain ⟨⟨d1, d2⟩, y1, y2⟩ := mid_cells (H.out.mid T10.out)
    try simp only [Act.put, List.setIfInBounds_toArray, List.set_cons_zero, List.set_cons_succ]
    refine' wpAnyJ_takeW (i := 16) (oi := { dst := some 31, op := Op.nilCheck (Operand.tmp 15), type := 0, pos := "ids.go:136", after := #[{ on := 0, ground := Ground.data }, { on := 0, ground := Ground.phase }, { on := 1, ground := Ground.textOnly Departure.lateStores }, { on := 2, ground := Ground.phase }, { on := 3, ground := Ground.phase }, { on := 4, ground := Ground.phase }, { on := 5, ground := Ground.phase }, { on := 6, ground := Ground.phase }, { on := 7, ground := Ground.phase }, { on := 8, ground := Ground.phase }, { on := 9, ground := Ground.textOnly Departure.lateStores }, { on := 10, ground := Ground.textOnly Departure.lateStoresUnsure }, { on := 11, ground := Ground.textOnly Departure.lateStoresUnsure }, { on := 12, ground := Ground.phase }, { on := 13, ground := Ground.textOnly Departure.lateStores }, { on := 14, ground := Ground.textOnly Departure.lateStoresUnsure }, { on := 15, ground := Ground.phase }], guard := none }) (v := _) rfl (by kernel_rfl) (by kernel_rfl) (by kernel_rfl) (fun _ _ _ h => h) (Or.inl ⟨by rfl, ?hyA28⟩) ?reA28
    case hyA28 => (intro W hSw; (try dsimp only at hSw); go_simp; try with_reducible rfl)
    try simp only [Act.put, List.setIfInBounds_toArray, List.set_cons_zero, List.set_cons_succ]
    refine' wpAnyJ_takeW (i := 17) (oi := { dst := some 32, op := Op.fieldAddr 163 (Operand.tmp 31) 1, type := 0, pos := "ids.go:136", after := #[{ on := 16, ground := Ground.data }, { on := 0, ground := Ground.phase }, { on := 1, ground := Ground.textOnly Departure.lateStores }, { on := 2, ground := Ground.phase }, { on := 3, ground := Ground.phase }, { on := 4, ground := Ground.phase }, { on := 5, ground := Ground.phase }, { on := 6, ground := Ground.phase }, { on := 7, ground := Ground.phase }, { on := 8, ground := Ground.phase }, { on := 9, ground := Ground.textOnly Departure.lateStores }, { on := 10, ground := Ground.textOnly Departure.lateStoresUnsure }, { on := 11, ground := Ground.textOnly Departure.lateStoresUnsure }, { on := 12, ground := Ground.phase }, { on := 13, ground := Ground.textOnly Departure.lateStores }, { on := 14, ground := Ground.textOnly Departure.lateStoresUnsure }, { on := 15, ground := Ground.phase }], guard := none }) (v := _) rfl (by kernel_rfl) (by kernel_rfl) (by kernel_rfl) (fun _ _ _ h => h) (Or.inl ⟨by rfl, ?hyA29⟩) ?reA29
    case hyA29 => (intro W hSw; (try dsimp only at hSw); go_simp; try with_reducible rfl)
    try simp only [Act.put, List.setIfInBounds_toArray, List.set_cons_zero, List.set_cons_succ]
    refine wpAnyJ_ready (rs := [18]) (by kernel_rfl) (by simp) ?_
    refine AllReadyJ.cons (o := { dst := none, op := Op.store 45 (Operand.tmp 32) (Operand.tmp 23), type := 0, pos := "ids.go:136", after := #[{ on := 17, ground := Ground.data }, { on := 8, ground := Ground.data }, { on := 15, ground := Ground.chain }, { on := 0, ground := Ground.phase }, { on := 1, ground := Ground.textOnly Departure.lateStores }, { on := 2, ground := Ground.phase }, { on := 3, ground := Ground.phase }, { on := 4, ground := Ground.phase }, { on := 5, ground := Ground.phase }, { on := 6, ground := Ground.phase }, { on := 7, ground := Ground.phase }, { on := 8, ground := Ground.phase }, { on := 9, ground := Ground.textOnly Departure.lateStores }, { on := 10, ground := Ground.textOnly Departure.lateStoresUnsure }, { on := 11, ground := Ground.textOnly Departure.lateStoresUnsure }, { on := 12, ground := Ground.phase }, { on := 13, ground := Ground.textOnly Departure.lateStores }, { on := 14, ground := Ground.textOnly Departure.lateStoresUnsure }, { on := 15, ground := Ground.phase }], guard := none }) rfl (fun K hK => ?_) AllReadyJ.nil
    go_simp
    refine hK.out _ _ (fun h => absurd h (by decide)) ?_
    clear hK K
    try simp only [Act.put, List.setIfInBounds_toArray, List.set_cons_zero, List.set_cons_succ]
    refine' wpAnyJ_takeW (i := 19) (oi := { dst := some 33, op := Op.nilCheck (Operand.tmp 16), type := 0, pos := "ids.go:136", after := #[{ on := 1, ground := Ground.data }, { on := 0, ground := Ground.phase }, { on := 1, ground := Ground.phase }, { on := 2, ground := Ground.phase }, { on := 3, ground := Ground.phase }, { on := 4, ground := Ground.phase }, { on := 5, ground := Ground.phase }, { on := 6, ground := Ground.phase }, { on := 7, ground := Ground.phase }, { on := 8, ground := Ground.phase }, { on := 9, ground := Ground.phase }, { on := 10, ground := Ground.phase }, { on := 11, ground := Ground.phase }, { on := 12, ground := Ground.phase }, { on := 13, ground := Ground.phase }, { on := 14, ground := Ground.phase }, { on := 15, ground := Ground.phase }, { on := 16, ground := Ground.phase }, { on := 17, ground := Ground.phase }, { on := 18, ground := Ground.phase }], guard := none }) (v := _) rfl (by kernel_rfl) (by kernel_rfl) (by kernel_rfl) (fun _ _ _ h => h) (Or.inl ⟨by rfl, ?hyA30⟩) ?reA30
    case hyA30 => (intro W hSw; (try dsimp only at hSw); go_simp; try with_reducible rfl)
    try simp only [Act.put, List.setIfInBounds_toArray, List.set_cons_zero, List.set_cons_succ]
    refine' wpAnyJ_takeW (i := 20) (oi := { dst := some 34, op := Op.fieldAddr 163 (Operand.tmp 33) 2, type := 0, pos := "ids.go:136", after := #[{ on := 19, ground := Ground.data }, { on := 0, ground := Ground.phase }, { on := 1, ground := Ground.phase }, { on := 2, ground := Ground.phase }, { on := 3, ground := Ground.phase }, { on := 4, ground := Ground.phase }, { on := 5, ground := Ground.phase }, { on := 6, ground := Ground.phase }, { on := 7, ground := Ground.phase }, { on := 8, ground := Ground.phase }, { on := 9, ground := Ground.phase }, { on := 10, ground := Ground.phase }, { on := 11, ground := Ground.phase }, { on := 12, ground := Ground.phase }, { on := 13, ground := Ground.phase }, { on := 14, ground := Ground.phase }, { on := 15, ground := Ground.phase }, { on := 16, ground := Ground.phase }, { on := 17, ground := Ground.phase }, { on := 18, ground := Ground.phase }], guard := none }) (v := _) rfl (by kernel_rfl) (by kernel_rfl) (by kernel_rfl) (fun _ _ _ h => h) (Or.inl ⟨by rfl, ?hyA31⟩) ?reA31
    case hyA31 => (intro W hSw; (try dsimp only at hSw); go_simp; try with_reducible rfl)
    try simp only [Act.put, List.setIfInBounds_toArray, List.set_cons_zero, List.set_cons_succ]
    refine wpAnyJ_ready (rs := [21]) (by kernel_rfl) (by simp) ?_
    refine AllReadyJ.cons (o := { dst := none, op := Op.store 39 (Operand.tmp 34) (Operand.tmp 30), type := 0, pos := "ids.go:136", after := #[{ on := 20, ground := Ground.data }, { on := 15, ground := Ground.data }, { on := 18, ground := Ground.chain }, { on := 0, ground := Ground.phase }, { on := 1, ground := Ground.phase }, { on := 2, ground := Ground.phase }, { on := 3, ground := Ground.phase }, { on := 4, ground := Ground.phase }, { on := 5, ground := Ground.phase }, { on := 6, ground := Ground.phase }, { on := 7, ground := Ground.phase }, { on := 8, ground := Ground.phase }, { on := 9, ground := Ground.phase }, { on := 10, ground := Ground.phase }, { on := 11, ground := Ground.phase }, { on := 12, ground := Ground.phase }, { on := 13, ground := Ground.phase }, { on := 14, ground := Ground.phase }, { on := 15, ground := Ground.phase }, { on := 16, ground := Ground.phase }, { on := 17, ground := Ground.phase }, { on := 18, ground := Ground.phase }], guard := none }) rfl (fun K hK => ?_) AllReadyJ.nil
    go_simp
    refine hK.out _ _ (fun h => absurd h (by decide)) ?_
    clear hK K
    try simp only [Act.put, List.setIfInBounds_toArray, List.set_cons_zero, List.set_cons_succ]
    refine wpAnyJ_done (by kernel_rfl) ?_ _
    refine NoPanic.normal ?_
    go_wp2_with fail
    go_end0
    have F := H.out.fin T10.out
    exact ⟨rfl, CV.out _ ⟨_, _, F.1, T10.out.2.2.2.1, T10.out.2.2.2.2.1, F.2⟩⟩
  refine AllReadyJ.cons (o := { dst := some 29, op := Op.buildSlice 39 1 #[(0, Operand.tmp 28)], type := 39, pos := "ids.go:136", after := #[{ on := 13, ground := Ground.data }], guard := none }) rfl (fun K hK => ?_) AllReadyJ.nil
  go_simp
  refine hK.out _ _ (fun _ _ => (mid_cells (H.out.mid (T0.out.alloc _))).1) ?_
  clear hK K
  try simp only [Act.put, List.setIfInBounds_toArray, List.set_cons_zero, List.set_cons_succ]
  refine wpAnyJ_ready (rs := [7]) (by kernel_rfl) (by simp) ?_
  refine AllReadyJ.cons (o := { dst := some 22, op := Op.buildSlice 45 1 #[(0, Operand.tmp 21)], type := 45, pos := "ids.go:136", after := #[{ on := 6, ground := Ground.data }], guard := none }) rfl (fun K hK => ?_) AllReadyJ.nil
  go_simp
  refine hK.out _ _ (fun _ _ => (mid_cells (H.out.mid ((T0.out.alloc _).alloc _))).1) ?_
  clear hK K
  try simp only [Act.put, List.setIfInBounds_toArray, List.set_cons_zero, List.set_cons_succ]
  refine wpAnyJ_ready (rs := [8]) (by kernel_rfl) (by simp) ?_
  refine AllReadyJ.cons (o := { dst := some 23, op := Op.call { callee := Callee.builtin Builtin.append, args := #[Operand.tmp 20, Operand.tmp 22], argTypes := #[45, 45] }, type := 45, pos := "ids.go:136", after := #[{ on := 5, ground := Ground.data }, { on := 7, ground := Ground.data }], guard := none }) rfl (fun K hK => ?_) AllReadyJ.nil
  refine step_append_lies _ rfl (.tmp 20) (.tmp 22) 45 rfl 0 3 i3 (.int .i64 0) 1 8 Tryz.underlying45 hi3 hx0 hx1 hx2 rfl (by decide) (.slice aog gs.length cg) gs.length (ic gs) (by simp [Act.eval]) ((T0.out.alloc _).alloc _).1 ⟨w1.heap.size + 1, 0, none⟩ 1 1 [.int .i64 (x : Int)] (by simp [Act.eval]) rfl (by intro j u hj; match j, hj with | 0, hj => simp at hj; subst hj; simp [Addr.add]) (by intro u hu; simp at hu; subst hu; rfl) (by omega) (by unfold maxLen; omega) (by omega) (Nat.zero_le _) _ rfl ?_; intro g9 c9 w9 ho9 hg9 ha9 _
  have T9 := hide (((T0.out.alloc _).alloc _).growG (x := x) ho9 hg9 ha9)
  have s0 : w9.cell? ⟨w1.heap.size, 0, none⟩ = some (.int .i64 (gs.length : Int)) := hg9.cell (by simp) (fun e => by have := (HGL.out _ e.symm).2; first | omega | (simp at this <;> omega))
  have s1 : w9.cell? ⟨w1.heap.size, 1, none⟩ = some (.int .i64 (x : Int)) := hg9.cell (by simp) (fun e => by have := (HGL.out _ e.symm).2; first | omega | (simp at this <;> omega))
  clear ho9 hg9 ha9
  refine hK.out _ _ (fun _ _ => (mid_cells (H.out.mid T9.out)).1) ?_
  clear hK K
  try simp only [Act.put, List.setIfInBounds_toArray, List.set_cons_zero, List.set_cons_succ]
  refine wpAnyJ_ready (rs := [15]) (by kernel_rfl) (by simp) ?_
  refine AllReadyJ.cons (o := { dst := some 30, op := Op.call { callee := Callee.builtin Builtin.append, args := #[Operand.tmp 27, Operand.tmp 29], argTypes := #[39, 39] }, type := 39, pos := "ids.go:136", after := #[{ on := 12, ground := Ground.data }, { on := 14, ground := Ground.data }, { on := 8, ground := Ground.chain }], guard := none }) rfl (fun K hK => ?_) AllReadyJ.nil
  refine step_append_lies _ rfl (.tmp 27) (.tmp 29) 39 rfl 0 29 i41 (.agg #[.int .i64 0, .int .i64 0]) 2 16 Tryz.underlying39 hi41 hy0 hy1 hy2 rfl (by decide) (.slice aol lv.length cl) lv.length (ec lv) (by simp [Act.eval]) T9.out.2.1 ⟨w1.heap.size, 0, none⟩ 1 1 [.int .i64 (gs.length : Int), .int .i64 (x : Int)] (by simp [Act.eval]) rfl (by intro j u hj; match j, hj with | 0, hj => simp at hj; subst hj; simpa [Addr.add] using s0 | 1, hj => simp at hj; subst hj; simpa [Addr.add] using s1) (by intro u hu; simp at hu; rcases hu with rfl | rfl <;> rfl) (by omega) (by unfold maxLen; omega) (by omega) (Nat.zero_le _) _ rfl ?_; intro g8 c8 w8 ho8 hg8 ha8 _
  have T10 := hide (T9.out.growL (a := gs.length) (b := x) ho8 hg8 ha8)
  clear ho8 hg8 ha8
  refine hK.out _ _ (fun _ _ => (mid_cells (H.out.mid T10.out)).1) ?_
  clear hK K
  obtain ⟨⟨d1, d2⟩, y1, y2⟩ := mid_cells (H.out.mid T10.out)
  try simp only [Act.put, List.setIfInBounds_toArray, List.set_cons_zero, List.set_cons_succ]
  refine' wpAnyJ_takeW (i := 16) (oi := { dst := some 31, op := Op.nilCheck (Operand.tmp 15), type := 0, pos := "ids.go:136", after := #[{ on := 0, ground := Ground.data }, { on := 0, ground := Ground.phase }, { on := 1, ground := Ground.textOnly Departure.lateStores }, { on := 2, ground := Ground.phase }, { on := 3, ground := Ground.phase }, { on := 4, ground := Ground.phase }, { on := 5, ground := Ground.phase }, { on := 6, ground := Ground.phase }, { on := 7, ground := Ground.phase }, { on := 8, ground := Ground.phase }, { on := 9, ground := Ground.textOnly Departure.lateStores }, { on := 10, ground := Ground.textOnly Departure.lateStoresUnsure }, { on := 11, ground := Ground.textOnly Departure.lateStoresUnsure }, { on := 12, ground := Ground.phase }, { on := 13, ground := Ground.textOnly Departure.lateStores }, { on := 14, ground := Ground.textOnly Departure.lateStoresUnsure }, { on := 15, ground := Ground.phase }], guard := none }) (v := _) rfl (by kernel_rfl) (by kernel_rfl) (by kernel_rfl) (fun _ _ _ h => h) (Or.inl ⟨by rfl, ?hyA32⟩) ?reA32
  case hyA32 => (intro W hSw; (try dsimp only at hSw); go_simp; try with_reducible rfl)
  try simp only [Act.put, List.setIfInBounds_toArray, List.set_cons_zero, List.set_cons_succ]
  refine' wpAnyJ_takeW (i := 17) (oi := { dst := some 32, op := Op.fieldAddr 163 (Operand.tmp 31) 1, type := 0, pos := "ids.go:136", after := #[{ on := 16, ground := Ground.data }, { on := 0, ground := Ground.phase }, { on := 1, ground := Ground.textOnly Departure.lateStores }, { on := 2, ground := Ground.phase }, { on := 3, ground := Ground.phase }, { on := 4, ground := Ground.phase }, { on := 5, ground := Ground.phase }, { on := 6, ground := Ground.phase }, { on := 7, ground := Ground.phase }, { on := 8, ground := Ground.phase }, { on := 9, ground := Ground.textOnly Departure.lateStores }, { on := 10, ground := Ground.textOnly Departure.lateStoresUnsure }, { on := 11, ground := Ground.textOnly Departure.lateStoresUnsure }, { on := 12, ground := Ground.phase }, { on := 13, ground := Ground.textOnly Departure.lateStores }, { on := 14, ground := Ground.textOnly Departure.lateStoresUnsure }, { on := 15, ground := Ground.phase }], guard := none }) (v := _) rfl (by kernel_rfl) (by kernel_rfl) (by kernel_rfl) (fun _ _ _ h => h) (Or.inl ⟨by rfl, ?hyA33⟩) ?reA33
  case hyA33 => (intro W hSw; (try dsimp only at hSw); go_simp; try with_reducible rfl)
  try simp only [Act.put, List.setIfInBounds_toArray, List.set_cons_zero, List.set_cons_succ]
  refine wpAnyJ_ready (rs := [18]) (by kernel_rfl) (by simp) ?_
  refine AllReadyJ.cons (o := { dst := none, op := Op.store 45 (Operand.tmp 32) (Operand.tmp 23), type := 0, pos := "ids.go:136", after := #[{ on := 17, ground := Ground.data }, { on := 8, ground := Ground.data }, { on := 15, ground := Ground.chain }, { on := 0, ground := Ground.phase }, { on := 1, ground := Ground.textOnly Departure.lateStores }, { on := 2, ground := Ground.phase }, { on := 3, ground := Ground.phase }, { on := 4, ground := Ground.phase }, { on := 5, ground := Ground.phase }, { on := 6, ground := Ground.phase }, { on := 7, ground := Ground.phase }, { on := 8, ground := Ground.phase }, { on := 9, ground := Ground.textOnly Departure.lateStores }, { on := 10, ground := Ground.textOnly Departure.lateStoresUnsure }, { on := 11, ground := Ground.textOnly Departure.lateStoresUnsure }, { on := 12, ground := Ground.phase }, { on := 13, ground := Ground.textOnly Departure.lateStores }, { on := 14, ground := Ground.textOnly Departure.lateStoresUnsure }, { on := 15, ground := Ground.phase }], guard := none }) rfl (fun K hK => ?_) AllReadyJ.nil
  go_simp
  refine hK.out _ _ (fun h => absurd h (by decide)) ?_
  clear hK K
  try simp only [Act.put, List.setIfInBounds_toArray, List.set_cons_zero, List.set_cons_succ]
  refine' wpAnyJ_takeW (i := 19) (oi := { dst := some 33, op := Op.nilCheck (Operand.tmp 16), type := 0, pos := "ids.go:136", after := #[{ on := 1, ground := Ground.data }, { on := 0, ground := Ground.phase }, { on := 1, ground := Ground.phase }, { on := 2, ground := Ground.phase }, { on := 3, ground := Ground.phase }, { on := 4, ground := Ground.phase }, { on := 5, ground := Ground.phase }, { on := 6, ground := Ground.phase }, { on := 7, ground := Ground.phase }, { on := 8, ground := Ground.phase }, { on := 9, ground := Ground.phase }, { on := 10, ground := Ground.phase }, { on := 11, ground := Ground.phase }, { on := 12, ground := Ground.phase }, { on := 13, ground := Ground.phase }, { on := 14, ground := Ground.phase }, { on := 15, ground := Ground.phase }, { on := 16, ground := Ground.phase }, { on := 17, ground := Ground.phase }, { on := 18, ground := Ground.phase }], guard := none }) (v := _) rfl (by kernel_rfl) (by kernel_rfl) (by kernel_rfl) (fun _ _ _ h => h) (Or.inl ⟨by rfl, ?hyA34⟩) ?reA34
  case hyA34 => (intro W hSw; (try dsimp only at hSw); go_simp; try with_reducible rfl)
  try simp only [Act.put, List.setIfInBounds_toArray, List.set_cons_zero, List.set_cons_succ]
  refine' wpAnyJ_takeW (i := 20) (oi := { dst := some 34, op := Op.fieldAddr 163 (Operand.tmp 33) 2, type := 0, pos := "ids.go:136", after := #[{ on := 19, ground := Ground.data }, { on := 0, ground := Ground.phase }, { on := 1, ground := Ground.phase }, { on := 2, ground := Ground.phase }, { on := 3, ground := Ground.phase }, { on := 4, ground := Ground.phase }, { on := 5, ground := Ground.phase }, { on := 6, ground := Ground.phase }, { on := 7, ground := Ground.phase }, { on := 8, ground := Ground.phase }, { on := 9, ground := Ground.phase }, { on := 10, ground := Ground.phase }, { on := 11, ground := Ground.phase }, { on := 12, ground := Ground.phase }, { on := 13, ground := Ground.phase }, { on := 14, ground := Ground.phase }, { on := 15, ground := Ground.phase }, { on := 16, ground := Ground.phase }, { on := 17, ground := Ground.phase }, { on := 18, ground := Ground.phase }], guard := none }) (v := _) rfl (by kernel_rfl) (by kernel_rfl) (by kernel_rfl) (fun _ _ _ h => h) (Or.inl ⟨by rfl, ?hyA35⟩) ?reA35
  case hyA35 => (intro W hSw; (try dsimp only at hSw); go_simp; try with_reducible rfl)
  try simp only [Act.put, List.setIfInBounds_toArray, List.set_cons_zero, List.set_cons_succ]
  refine wpAnyJ_ready (rs := [21]) (by kernel_rfl) (by simp) ?_
  refine AllReadyJ.cons (o := { dst := none, op := Op.store 39 (Operand.tmp 34) (Operand.tmp 30), type := 0, pos := "ids.go:136", after := #[{ on := 20, ground := Ground.data }, { on := 15, ground := Ground.data }, { on := 18, ground := Ground.chain }, { on := 0, ground := Ground.phase }, { on := 1, ground := Ground.phase }, { on := 2, ground := Ground.phase }, { on := 3, ground := Ground.phase }, { on := 4, ground := Ground.phase }, { on := 5, ground := Ground.phase }, { on := 6, ground := Ground.phase }, { on := 7, ground := Ground.phase }, { on := 8, ground := Ground.phase }, { on := 9, ground := Ground.phase }, { on := 10, ground := Ground.phase }, { on := 11, ground := Ground.phase }, { on := 12, ground := Ground.phase }, { on := 13, ground := Ground.phase }, { on := 14, ground := Ground.phase }, { on := 15, ground := Ground.phase }, { on := 16, ground := Ground.phase }, { on := 17, ground := Ground.phase }, { on := 18, ground := Ground.phase }], guard := none }) rfl (fun K hK => ?_) AllReadyJ.nil
  go_simp
  refine hK.out _ _ (fun h => absurd h (by decide)) ?_
  clear hK K
  try simp only [Act.put, List.setIfInBounds_toArray, List.set_cons_zero, List.set_cons_succ]
  refine wpAnyJ_done (by kernel_rfl) ?_ _
  refine NoPanic.normal ?_
  go_wp2_with fail
  go_end0
  have F := H.out.fin T10.out
  exact ⟨rfl, CV.out _ ⟨_, _, F.1, T10.out.2.2.2.1, T10.out.2.2.2.2.1, F.2⟩⟩
set_option maxHeartbeats 8000000 in
set_option maxRecDepth 100000 in
theorem add_worn (g n x : Nat) (vg vl vf : Value) (gs fr : List Nat) (lv : List (Nat × Nat)) (w : World) (h : Pm w g n vg vl vf gs fr lv) (hx : x = 1000001) (hg : gs.length ≤ 1000000) (hl : lv.length ≤ 1000000) :
    Calls Tryz.prog 130 #[.pointer (some ⟨g, 0, none⟩), .int .i64 (x : Int)] w fun e w' => e = .returned (.tuple #[]) ∧ ∃ vg' vl', Pm w' g n vg' vl' vf (gs ++ [x]) fr (lv ++ [(0, 0)]) ∧ (∀ k, vg'.ownBlock = some k → vg.ownBlock = some k ∨ w.heap.size ≤ k) ∧ (∀ k, vl'.ownBlock = some k → vl.ownBlock = some k ∨ w.heap.size ≤ k) ∧ Mv w w' (fun k => k = g ∨ vg.ownBlock = some k ∨ vl.ownBlock = some k) := by
  obtain ⟨i3, hi3, hx0, hx1, hx2⟩ := info_parts info3
  obtain ⟨i41, hi41, hy0, hy1, hy2⟩ := info_parts info41
  obtain ⟨c0, c1, c2, c3⟩ := h.cell
  obtain ⟨aog, cg, rfl⟩ := own_len h.2.1
  obtain ⟨aol, cl, rfl⟩ := own_len h.2.2.1
  have t0 : ((x : Int) == 1000001) = true := by rw [hx]; rfl
  obtain ⟨w1, hw1⟩ : ∃ X, X = w.alloc (.cells #[.int .i64 0, .int .i64 0] 29) := ⟨_, rfl⟩
  have hbe : Below w.heap.size w w1 := hw1 ▸ below_alloc w _
  have h1 := h.later hbe
  have WH : Hid (∀ W, Mv w1 W (fun k => (Value.slice aog gs.length cg).ownBlock = some k ∨ (Value.slice aol lv.length cl).ownBlock = some k) → W.cell? ⟨w.heap.size, 0, none⟩ = some (.int .i64 0) ∧ W.cell? ⟨w.heap.size, 1, none⟩ = some (.int .i64 0)) := fun W hm => by
    have hn : ¬ ((Value.slice aog gs.length cg).ownBlock = some w.heap.size ∨ (Value.slice aol lv.length cl).ownBlock = some w.heap.size) := fun e => by
      rcases e with e | e
      · have := (h.2.1.lt _ e).2
        omega
      · have := (h.2.2.1.lt _ e).2
        omega
    exact ⟨hm.cell (by rw [hw1]; simp) hn, hm.cell (by rw [hw1]; simp) hn⟩
  have CV : Hid (∀ w' : World, (∃ vg' vl', Pm w' g n vg' vl' vf (gs ++ [x]) fr (lv ++ [(0, 0)]) ∧ (∀ k, vg'.ownBlock = some k → (Value.slice aog gs.length cg).ownBlock = some k ∨ w1.heap.size ≤ k) ∧ (∀ k, vl'.ownBlock = some k → (Value.slice aol lv.length cl).ownBlock = some k ∨ w1.heap.size ≤ k) ∧ Mv w1 w' (fun k => k = g ∨ (Value.slice aog gs.length cg).ownBlock = some k ∨ (Value.slice aol lv.length cl).ownBlock = some k)) → ∃ vg' vl', Pm w' g n vg' vl' vf (gs ++ [x]) fr (lv ++ [(0, 0)]) ∧ (∀ k, vg'.ownBlock = some k → (Value.slice aog gs.length cg).ownBlock = some k ∨ w.heap.size ≤ k) ∧ (∀ k, vl'.ownBlock = some k → (Value.slice aol lv.length cl).ownBlock = some k ∨ w.heap.size ≤ k) ∧ Mv w w' (fun k => k = g ∨ (Value.slice aog gs.length cg).ownBlock = some k ∨ (Value.slice aol lv.length cl).ownBlock = some k)) := fun w' ⟨vg', vl', p1, p2, p3, p4⟩ =>
    ⟨vg', vl', p1, fun k e => (p2 k e).imp id (fun h => Nat.le_trans hbe.size h), fun k e => (p3 k e).imp id (fun h => Nat.le_trans hbe.size h), (Mv.of_below hbe _).trans p4 (fun k _ e => e)⟩
  have u0 : ∀ o, (w1.alloc o).cell? ⟨w.heap.size, 0, none⟩ = some (.int .i64 0) := fun o => (WH.out _ (Mv.of_below (below_alloc w1 o) _)).1
  have u1 : ∀ o, (w1.alloc o).cell? ⟨w.heap.size, 1, none⟩ = some (.int .i64 0) := fun o => (WH.out _ (Mv.of_below (below_alloc w1 o) _)).2
  have T0 := hide (h1.two.later (below_drew w1))
  have HGL := hide h1.2.1.lt
  have H := hide h1
  clear h h1 hbe hx
  go_enter Tryz.func130, Tryz.ntmps130
  go_wp2_with fail
  skip
  rw [← hw1]
  clear hw1
  refine wp_region_noPanic ?_
  refine wp_region_late (J := fun i => i != 18 && i != 21) (S := fun W => W.cell? ⟨g, 1, none⟩ = some (.slice aog gs.length cg) ∧ W.cell? ⟨g, 2, none⟩ = some (.slice aol lv.length cl)) (by kernel_rfl) (mid_cells (H.out.mid T0.out)).1 (fun hHeld => ?_)
  refine' wpAnyJ_takeW (i := 0) (oi := { dst := some 15, op := Op.move (Operand.tmp 0), type := 105, pos := "ids.go:136", after := #[], guard := none }) (v := _) rfl (by kernel_rfl) (by kernel_rfl) (by kernel_rfl) (fun _ _ _ h => h) (Or.inl ⟨by rfl, ?hyA1⟩) ?reA1
  case hyA1 => (intro W hSw; (try dsimp only at hSw); go_simp; try with_reducible rfl)
  try simp only [Act.put, List.setIfInBounds_toArray, List.set_cons_zero, List.set_cons_succ]
  refine' wpAnyJ_takeW (i := 1) (oi := { dst := some 16, op := Op.move (Operand.tmp 0), type := 105, pos := "ids.go:136", after := #[{ on := 18, ground := Ground.gcOnly Departure.lateStores }], guard := none }) (v := _) rfl (by kernel_rfl) (by kernel_rfl) (by kernel_rfl) (fun _ _ _ h => h) (Or.inl ⟨by rfl, ?hyA2⟩) ?reA2
  case hyA2 => (intro W hSw; (try dsimp only at hSw); go_simp; try with_reducible rfl)
  try simp only [Act.put, List.setIfInBounds_toArray, List.set_cons_zero, List.set_cons_succ]
  refine' wpAnyJ_takeW (i := 2) (oi := { dst := some 17, op := Op.move (Operand.tmp 0), type := 105, pos := "ids.go:136", after := #[], guard := none }) (v := _) rfl (by kernel_rfl) (by kernel_rfl) (by kernel_rfl) (fun _ _ _ h => h) (Or.inl ⟨by rfl, ?hyA3⟩) ?reA3
  case hyA3 => (intro W hSw; (try dsimp only at hSw); go_simp; try with_reducible rfl)
  try simp only [Act.put, List.setIfInBounds_toArray, List.set_cons_zero, List.set_cons_succ]
  refine' wpAnyJ_takeW (i := 3) (oi := { dst := some 18, op := Op.nilCheck (Operand.tmp 17), type := 0, pos := "ids.go:136", after := #[{ on := 2, ground := Ground.data }], guard := none }) (v := _) rfl (by kernel_rfl) (by kernel_rfl) (by kernel_rfl) (fun _ _ _ h => h) (Or.inl ⟨by rfl, ?hyA4⟩) ?reA4
  case hyA4 => (intro W hSw; (try dsimp only at hSw); go_simp; try with_reducible rfl)
  try simp only [Act.put, List.setIfInBounds_toArray, List.set_cons_zero, List.set_cons_succ]
  refine' wpAnyJ_takeW (i := 4) (oi := { dst := some 19, op := Op.fieldAddr 163 (Operand.tmp 18) 1, type := 0, pos := "ids.go:136", after := #[{ on := 3, ground := Ground.data }], guard := none }) (v := _) rfl (by kernel_rfl) (by kernel_rfl) (by kernel_rfl) (fun _ _ _ h => h) (Or.inl ⟨by rfl, ?hyA5⟩) ?reA5
  case hyA5 => (intro W hSw; (try dsimp only at hSw); go_simp; try with_reducible rfl)
  try simp only [Act.put, List.setIfInBounds_toArray, List.set_cons_zero, List.set_cons_succ]
  refine' wpAnyJ_take (i := 5) (oi := { dst := some 20, op := Op.load 45 (Operand.tmp 19), type := 45, pos := "ids.go:136", after := #[{ on := 4, ground := Ground.data }], guard := none }) (v := _) rfl (by kernel_rfl) (by kernel_rfl) (by kernel_rfl) (by kernel_rfl) (fun _ _ _ h => h) (Or.inl ⟨by rfl, ?hyA6⟩) (by assumption) ?reA6
  case hyA6 => (intro W hSw; (try dsimp only at hSw); go_simp; try with_reducible rfl)
  try simp only [Act.put, List.setIfInBounds_toArray, List.set_cons_zero, List.set_cons_succ]
  refine' wpAnyJ_takeW (i := 6) (oi := { dst := some 21, op := Op.move (Operand.tmp 1), type := 3, pos := "ids.go:136", after := #[], guard := none }) (v := _) rfl (by kernel_rfl) (by kernel_rfl) (by kernel_rfl) (fun _ _ _ h => h) (Or.inl ⟨by rfl, ?hyA7⟩) ?reA7
  case hyA7 => (intro W hSw; (try dsimp only at hSw); go_simp; try with_reducible rfl)
  try simp only [Act.put, List.setIfInBounds_toArray, List.set_cons_zero, List.set_cons_succ]
  refine' wpAnyJ_takeW (i := 9) (oi := { dst := some 24, op := Op.move (Operand.tmp 0), type := 105, pos := "ids.go:136", after := #[], guard := none }) (v := _) rfl (by kernel_rfl) (by kernel_rfl) (by kernel_rfl) (fun _ _ _ h => h) (Or.inl ⟨by rfl, ?hyA8⟩) ?reA8
  case hyA8 => (intro W hSw; (try dsimp only at hSw); go_simp; try with_reducible rfl)
  try simp only [Act.put, List.setIfInBounds_toArray, List.set_cons_zero, List.set_cons_succ]
  refine' wpAnyJ_takeW (i := 10) (oi := { dst := some 25, op := Op.nilCheck (Operand.tmp 24), type := 0, pos := "ids.go:136", after := #[{ on := 9, ground := Ground.data }], guard := none }) (v := _) rfl (by kernel_rfl) (by kernel_rfl) (by kernel_rfl) (fun _ _ _ h => h) (Or.inl ⟨by rfl, ?hyA9⟩) ?reA9
  case hyA9 => (intro W hSw; (try dsimp only at hSw); go_simp; try with_reducible rfl)
  try simp only [Act.put, List.setIfInBounds_toArray, List.set_cons_zero, List.set_cons_succ]
  refine' wpAnyJ_takeW (i := 11) (oi := { dst := some 26, op := Op.fieldAddr 163 (Operand.tmp 25) 2, type := 0, pos := "ids.go:136", after := #[{ on := 10, ground := Ground.data }], guard := none }) (v := _) rfl (by kernel_rfl) (by kernel_rfl) (by kernel_rfl) (fun _ _ _ h => h) (Or.inl ⟨by rfl, ?hyA10⟩) ?reA10
  case hyA10 => (intro W hSw; (try dsimp only at hSw); go_simp; try with_reducible rfl)
  try simp only [Act.put, List.setIfInBounds_toArray, List.set_cons_zero, List.set_cons_succ]
  refine' wpAnyJ_take (i := 12) (oi := { dst := some 27, op := Op.load 39 (Operand.tmp 26), type := 39, pos := "ids.go:136", after := #[{ on := 11, ground := Ground.data }], guard := none }) (v := _) rfl (by kernel_rfl) (by kernel_rfl) (by kernel_rfl) (by kernel_rfl) (fun _ _ _ h => h) (Or.inl ⟨by rfl, ?hyA11⟩) (by assumption) ?reA11
  case hyA11 => (intro W hSw; (try dsimp only at hSw); go_simp; try with_reducible rfl)
  try simp only [Act.put, List.setIfInBounds_toArray, List.set_cons_zero, List.set_cons_succ]
  refine wpAnyJ_ready (rs := [7, 13]) (by kernel_rfl) (by simp) ?_
  refine AllReadyJ.cons (o := { dst := some 22, op := Op.buildSlice 45 1 #[(0, Operand.tmp 21)], type := 45, pos := "ids.go:136", after := #[{ on := 6, ground := Ground.data }], guard := none }) rfl (fun K hK => ?_) ?_
  · go_simp
    refine hK.out _ _ (fun _ _ => (mid_cells (H.out.mid (T0.out.alloc _))).1) ?_
    clear hK K
    try simp only [Act.put, List.setIfInBounds_toArray, List.set_cons_zero, List.set_cons_succ]
    refine wpAnyJ_ready (rs := [8, 13]) (by kernel_rfl) (by simp) ?_
    refine AllReadyJ.cons (o := { dst := some 23, op := Op.call { callee := Callee.builtin Builtin.append, args := #[Operand.tmp 20, Operand.tmp 22], argTypes := #[45, 45] }, type := 45, pos := "ids.go:136", after := #[{ on := 5, ground := Ground.data }, { on := 7, ground := Ground.data }], guard := none }) rfl (fun K hK => ?_) ?_
    · refine step_append_lies _ rfl (.tmp 20) (.tmp 22) 45 rfl 0 3 i3 (.int .i64 0) 1 8 Tryz.underlying45 hi3 hx0 hx1 hx2 rfl (by decide) (.slice aog gs.length cg) gs.length (ic gs) (by simp [Act.eval]) (T0.out.alloc _).1 ⟨w1.heap.size, 0, none⟩ 1 1 [.int .i64 (x : Int)] (by simp [Act.eval]) rfl (by intro j u hj; match j, hj with | 0, hj => simp at hj; subst hj; simp [Addr.add]) (by intro u hu; simp at hu; subst hu; rfl) (by omega) (by unfold maxLen; omega) (by omega) (Nat.zero_le _) _ rfl ?_; intro g9 c9 w9 ho9 hg9 ha9 _
      have T9 := hide ((T0.out.alloc _).growG (x := x) ho9 hg9 ha9)
      clear ho9 hg9 ha9
      refine hK.out _ _ (fun _ _ => (mid_cells (H.out.mid T9.out)).1) ?_
      clear hK K
      try simp only [Act.put, List.setIfInBounds_toArray, List.set_cons_zero, List.set_cons_succ]
      refine wpAnyJ_ready (rs := [13]) (by kernel_rfl) (by simp) ?_
      refine AllReadyJ.cons (o := { dst := some 28, op := Op.load 29 (Operand.tmp 4), type := 29, pos := "ids.go:136", after := #[], guard := none }) rfl (fun K hK => ?_) AllReadyJ.nil
      obtain ⟨q0, q1⟩ := WH.out _ T9.out.2.2.2.2.2
      go_simp
      refine hK.out _ _ (fun _ h => h) ?_
      clear hK K q0 q1
      try simp only [Act.put, List.setIfInBounds_toArray, List.set_cons_zero, List.set_cons_succ]
      refine wpAnyJ_ready (rs := [14]) (by kernel_rfl) (by simp) ?_
      refine AllReadyJ.cons (o := { dst := some 29, op := Op.buildSlice 39 1 #[(0, Operand.tmp 28)], type := 39, pos := "ids.go:136", after := #[{ on := 13, ground := Ground.data }], guard := none }) rfl (fun K hK => ?_) AllReadyJ.nil
      go_simp
      refine hK.out _ _ (fun _ _ => (mid_cells (H.out.mid (T9.out.alloc _))).1) ?_
      clear hK K
      try simp only [Act.put, List.setIfInBounds_toArray, List.set_cons_zero, List.set_cons_succ]
      refine wpAnyJ_ready (rs := [15]) (by kernel_rfl) (by simp) ?_
      refine AllReadyJ.cons (o := { dst := some 30, op := Op.call { callee := Callee.builtin Builtin.append, args := #[Operand.tmp 27, Operand.tmp 29], argTypes := #[39, 39] }, type := 39, pos := "ids.go:136", after := #[{ on := 12, ground := Ground.data }, { on := 14, ground := Ground.data }, { on := 8, ground := Ground.chain }], guard := none }) rfl (fun K hK => ?_) AllReadyJ.nil
      refine step_append_lies _ rfl (.tmp 27) (.tmp 29) 39 rfl 0 29 i41 (.agg #[.int .i64 0, .int .i64 0]) 2 16 Tryz.underlying39 hi41 hy0 hy1 hy2 rfl (by decide) (.slice aol lv.length cl) lv.length (ec lv) (by simp [Act.eval]) (T9.out.alloc _).2.1 ⟨w9.heap.size, 0, none⟩ 1 1 [.int .i64 0, .int .i64 0] (by simp [Act.eval]) rfl (by intro j u hj; match j, hj with | 0, hj => simp at hj; subst hj; simp [Addr.add] | 1, hj => simp at hj; subst hj; simp [Addr.add]) (by intro u hu; simp at hu; subst hu; rfl) (by omega) (by unfold maxLen; omega) (by omega) (Nat.zero_le _) _ rfl ?_; intro g8 c8 w8 ho8 hg8 ha8 _
      have T10 := hide ((T9.out.alloc _).growL (a := 0) (b := 0) ho8 hg8 ha8)
      clear ho8 hg8 ha8
      refine hK.out _ _ (fun _ _ => (mid_cells (H.out.mid T10.out)).1) ?_
      clear hK K
      obtain ⟨⟨d1, d2⟩, y1, y2⟩ := mid_cells (H.out.mid T10.out)
      try simp only [Act.put, List.setIfInBounds_toArray, List.set_cons_zero, List.set_cons_succ]
      refine' wpAnyJ_takeW (i := 16) (oi := { dst := some 31, op := Op.nilCheck (Operand.tmp 15), type := 0, pos := "ids.go:136", after := #[{ on := 0, ground := Ground.data }, { on := 0, ground := Ground.phase }, { on := 1, ground := Ground.textOnly Departure.lateStores }, { on := 2, ground := Ground.phase }, { on := 3, ground := Ground.phase }, { on := 4, ground := Ground.phase }, { on := 5, ground := Ground.phase }, { on := 6, ground := Ground.phase }, { on := 7, ground := Ground.phase }, { on := 8, ground := Ground.phase }, { on := 9, ground := Ground.textOnly Departure.lateStores }, { on := 10, ground := Ground.textOnly Departure.lateStoresUnsure }, { on := 11, ground := Ground.textOnly Departure.lateStoresUnsure }, { on := 12, ground := Ground.phase }, { on := 13, ground := Ground.textOnly Departure.lateStores }, { on := 14, ground := Ground.textOnly Departure.lateStoresUnsure }, { on := 15, ground := Ground.phase }], guard := none }) (v := _) rfl (by kernel_rfl) (by kernel_rfl) (by kernel_rfl) (fun _ _ _ h => h) (Or.inl ⟨by rfl, ?hyA12⟩) ?reA12
      case hyA12 => (intro W hSw; (try dsimp only at hSw); go_simp; try with_reducible rfl)
      try simp only [Act.put, List.setIfInBounds_toArray, List.set_cons_zero, List.set_cons_succ]
      refine' wpAnyJ_takeW (i := 17) (oi := { dst := some 32, op := Op.fieldAddr 163 (Operand.tmp 31) 1, type := 0, pos := "ids.go:136", after := #[{ on := 16, ground := Ground.data }, { on := 0, ground := Ground.phase }, { on := 1, ground := Ground.textOnly Departure.lateStores }, { on := 2, ground := Ground.phase }, { on := 3, ground := Ground.phase }, { on := 4, ground := Ground.phase }, { on := 5, ground := Ground.phase }, { on := 6, ground := Ground.phase }, { on := 7, ground := Ground.phase }, { on := 8, ground := Ground.phase }, { on := 9, ground := Ground.textOnly Departure.lateStores }, { on := 10, ground := Ground.textOnly Departure.lateStoresUnsure }, { on := 11, ground := Ground.textOnly Departure.lateStoresUnsure }, { on := 12, ground := Ground.phase }, { on := 13, ground := Ground.textOnly Departure.lateStores }, { on := 14, ground := Ground.textOnly Departure.lateStoresUnsure }, { on := 15, ground := Ground.phase }], guard := none }) (v := _) rfl (by kernel_rfl) (by kernel_rfl) (by kernel_rfl) (fun _ _ _ h => h) (Or.inl ⟨by rfl, ?hyA13⟩) ?reA13
      case hyA13 => (intro W hSw; (try dsimp only at hSw); go_simp; try with_reducible rfl)
      try simp only [Act.put, List.setIfInBounds_toArray, List.set_cons_zero, List.set_cons_succ]
      refine wpAnyJ_ready (rs := [18]) (by kernel_rfl) (by simp) ?_
      refine AllReadyJ.cons (o := { dst := none, op := Op.store 45 (Operand.tmp 32) (Operand.tmp 23), type := 0, pos := "ids.go:136", after := #[{ on := 17, ground := Ground.data }, { on := 8, ground := Ground.data }, { on := 15, ground := Ground.chain }, { on := 0, ground := Ground.phase }, { on := 1, ground := Ground.textOnly Departure.lateStores }, { on := 2, ground := Ground.phase }, { on := 3, ground := Ground.phase }, { on := 4, ground := Ground.phase }, { on := 5, ground := Ground.phase }, { on := 6, ground := Ground.phase }, { on := 7, ground := Ground.phase }, { on := 8, ground := Ground.phase }, { on := 9, ground := Ground.textOnly Departure.lateStores }, { on := 10, ground := Ground.textOnly Departure.lateStoresUnsure }, { on := 11, ground := Ground.textOnly Departure.lateStoresUnsure }, { on := 12, ground := Ground.phase }, { on := 13, ground := Ground.textOnly Departure.lateStores }, { on := 14, ground := Ground.textOnly Departure.lateStoresUnsure }, { on := 15, ground := Ground.phase }], guard := none }) rfl (fun K hK => ?_) AllReadyJ.nil
      go_simp
      refine hK.out _ _ (fun h => absurd h (by decide)) ?_
      clear hK K
      try simp only [Act.put, List.setIfInBounds_toArray, List.set_cons_zero, List.set_cons_succ]
      refine' wpAnyJ_takeW (i := 19) (oi := { dst := some 33, op := Op.nilCheck (Operand.tmp 16), type := 0, pos := "ids.go:136", after := #[{ on := 1, ground := Ground.data }, { on := 0, ground := Ground.phase }, { on := 1, ground := Ground.phase }, { on := 2, ground := Ground.phase }, { on := 3, ground := Ground.phase }, { on := 4, ground := Ground.phase }, { on := 5, ground := Ground.phase }, { on := 6, ground := Ground.phase }, { on := 7, ground := Ground.phase }, { on := 8, ground := Ground.phase }, { on := 9, ground := Ground.phase }, { on := 10, ground := Ground.phase }, { on := 11, ground := Ground.phase }, { on := 12, ground := Ground.phase }, { on := 13, ground := Ground.phase }, { on := 14, ground := Ground.phase }, { on := 15, ground := Ground.phase }, { on := 16, ground := Ground.phase }, { on := 17, ground := Ground.phase }, { on := 18, ground := Ground.phase }], guard := none }) (v := _) rfl (by kernel_rfl) (by kernel_rfl) (by kernel_rfl) (fun _ _ _ h => h) (Or.inl ⟨by rfl, ?hyA14⟩) ?reA14
      case hyA14 => (intro W hSw; (try dsimp only at hSw); go_simp; try with_reducible rfl)
      try simp only [Act.put, List.setIfInBounds_toArray, List.set_cons_zero, List.set_cons_succ]
      refine' wpAnyJ_takeW (i := 20) (oi := { dst := some 34, op := Op.fieldAddr 163 (Operand.tmp 33) 2, type := 0, pos := "ids.go:136", after := #[{ on := 19, ground := Ground.data }, { on := 0, ground := Ground.phase }, { on := 1, ground := Ground.phase }, { on := 2, ground := Ground.phase }, { on := 3, ground := Ground.phase }, { on := 4, ground := Ground.phase }, { on := 5, ground := Ground.phase }, { on := 6, ground := Ground.phase }, { on := 7, ground := Ground.phase }, { on := 8, ground := Ground.phase }, { on := 9, ground := Ground.phase }, { on := 10, ground := Ground.phase }, { on := 11, ground := Ground.phase }, { on := 12, ground := Ground.phase }, { on := 13, ground := Ground.phase }, { on := 14, ground := Ground.phase }, { on := 15, ground := Ground.phase }, { on := 16, ground := Ground.phase }, { on := 17, ground := Ground.phase }, { on := 18, ground := Ground.phase }], guard := none }) (v := _) rfl (by kernel_rfl) (by kernel_rfl) (by kernel_rfl) (fun _ _ _ h => h) (Or.inl ⟨by rfl, ?hyA15⟩) ?reA15
      case hyA15 => (intro W hSw; (try dsimp only at hSw); go_simp; try with_reducible rfl)
      try simp only [Act.put, List.setIfInBounds_toArray, List.set_cons_zero, List.set_cons_succ]
      refine wpAnyJ_ready (rs := [21]) (by kernel_rfl) (by simp) ?_
      refine AllReadyJ.cons (o := { dst := none, op := Op.store 39 (Operand.tmp 34) (Operand.tmp 30), type := 0, pos := "ids.go:136", after := #[{ on := 20, ground := Ground.data }, { on := 15, ground := Ground.data }, { on := 18, ground := Ground.chain }, { on := 0, ground := Ground.phase }, { on := 1, ground := Ground.phase }, { on := 2, ground := Ground.phase }, { on := 3, ground := Ground.phase }, { on := 4, ground := Ground.phase }, { on := 5, ground := Ground.phase }, { on := 6, ground := Ground.phase }, { on := 7, ground := Ground.phase }, { on := 8, ground := Ground.phase }, { on := 9, ground := Ground.phase }, { on := 10, ground := Ground.phase }, { on := 11, ground := Ground.phase }, { on := 12, ground := Ground.phase }, { on := 13, ground := Ground.phase }, { on := 14, ground := Ground.phase }, { on := 15, ground := Ground.phase }, { on := 16, ground := Ground.phase }, { on := 17, ground := Ground.phase }, { on := 18, ground := Ground.phase }], guard := none }) rfl (fun K hK => ?_) AllReadyJ.nil
      go_simp
      refine hK.out _ _ (fun h => absurd h (by decide)) ?_
      clear hK K
      try simp only [Act.put, List.setIfInBounds_toArray, List.set_cons_zero, List.set_cons_succ]
      refine wpAnyJ_done (by kernel_rfl) ?_ _
      refine NoPanic.normal ?_
      go_wp2_with fail
      go_end0
      have F := H.out.fin T10.out
      exact ⟨rfl, CV.out _ ⟨_, _, F.1, T10.out.2.2.2.1, T10.out.2.2.2.2.1, F.2⟩⟩
    refine AllReadyJ.cons (o := { dst := some 28, op := Op.load 29 (Operand.tmp 4), type := 29, pos := "ids.go:136", after := #[], guard := none }) rfl (fun K hK => ?_) AllReadyJ.nil
    go_simp
    refine hK.out _ _ (fun _ h => h) ?_
    clear hK K
    try simp only [Act.put, List.setIfInBounds_toArray, List.set_cons_zero, List.set_cons_succ]
    refine wpAnyJ_ready (rs := [8, 14]) (by kernel_rfl) (by simp) ?_
    refine AllReadyJ.cons (o := { dst := some 23, op := Op.call { callee := Callee.builtin Builtin.append, args := #[Operand.tmp 20, Operand.tmp 22], argTypes := #[45, 45] }, type := 45, pos := "ids.go:136", after := #[{ on := 5, ground := Ground.data }, { on := 7, ground := Ground.data }], guard := none }) rfl (fun K hK => ?_) ?_
    · refine step_append_lies _ rfl (.tmp 20) (.tmp 22) 45 rfl 0 3 i3 (.int .i64 0) 1 8 Tryz.underlying45 hi3 hx0 hx1 hx2 rfl (by decide) (.slice aog gs.length cg) gs.length (ic gs) (by simp [Act.eval]) (T0.out.alloc _).1 ⟨w1.heap.size, 0, none⟩ 1 1 [.int .i64 (x : Int)] (by simp [Act.eval]) rfl (by intro j u hj; match j, hj with | 0, hj => simp at hj; subst hj; simp [Addr.add]) (by intro u hu; simp at hu; subst hu; rfl) (by omega) (by unfold maxLen; omega) (by omega) (Nat.zero_le _) _ rfl ?_; intro g9 c9 w9 ho9 hg9 ha9 _
      have T9 := hide ((T0.out.alloc _).growG (x := x) ho9 hg9 ha9)
      clear ho9 hg9 ha9
      refine hK.out _ _ (fun _ _ => (mid_cells (H.out.mid T9.out)).1) ?_
      clear hK K
      try simp only [Act.put, List.setIfInBounds_toArray, List.set_cons_zero, List.set_cons_succ]
      refine wpAnyJ_ready (rs := [14]) (by kernel_rfl) (by simp) ?_
      refine AllReadyJ.cons (o := { dst := some 29, op := Op.buildSlice 39 1 #[(0, Operand.tmp 28)], type := 39, pos := "ids.go:136", after := #[{ on := 13, ground := Ground.data }], guard := none }) rfl (fun K hK => ?_) AllReadyJ.nil
      go_simp
      refine hK.out _ _ (fun _ _ => (mid_cells (H.out.mid (T9.out.alloc _))).1) ?_
      clear hK K
      try simp only [Act.put, List.setIfInBounds_toArray, List.set_cons_zero, List.set_cons_succ]
      refine wpAnyJ_ready (rs := [15]) (by kernel_rfl) (by simp) ?_
      refine AllReadyJ.cons (o := { dst := some 30, op := Op.call { callee := Callee.builtin Builtin.append, args := #[Operand.tmp 27, Operand.tmp 29], argTypes := #[39, 39] }, type := 39, pos := "ids.go:136", after := #[{ on := 12, ground := Ground.data }, { on := 14, ground := Ground.data }, { on := 8, ground := Ground.chain }], guard := none }) rfl (fun K hK => ?_) AllReadyJ.nil
      refine step_append_lies _ rfl (.tmp 27) (.tmp 29) 39 rfl 0 29 i41 (.agg #[.int .i64 0, .int .i64 0]) 2 16 Tryz.underlying39 hi41 hy0 hy1 hy2 rfl (by decide) (.slice aol lv.length cl) lv.length (ec lv) (by simp [Act.eval]) (T9.out.alloc _).2.1 ⟨w9.heap.size, 0, none⟩ 1 1 [.int .i64 0, .int .i64 0] (by simp [Act.eval]) rfl (by intro j u hj; match j, hj with | 0, hj => simp at hj; subst hj; simp [Addr.add] | 1, hj => simp at hj; subst hj; simp [Addr.add]) (by intro u hu; simp at hu; subst hu; rfl) (by omega) (by unfold maxLen; omega) (by omega) (Nat.zero_le _) _ rfl ?_; intro g8 c8 w8 ho8 hg8 ha8 _
      have T10 := hide ((T9.out.alloc _).growL (a := 0) (b := 0) ho8 hg8 ha8)
      clear ho8 hg8 ha8
      refine hK.out _ _ (fun _ _ => (mid_cells (H.out.mid T10.out)).1) ?_
      clear hK K
      obtain ⟨⟨d1, d2⟩, y1, y2⟩ := mid_cells (H.out.mid T10.out)
      try simp only [Act.put, List.setIfInBounds_toArray, List.set_cons_zero, List.set_cons_succ]
      refine' wpAnyJ_takeW (i := 16) (oi := { dst := some 31, op := Op.nilCheck (Operand.tmp 15), type := 0, pos := "ids.go:136", after := #[{ on := 0, ground := Ground.data }, { on := 0, ground := Ground.phase }, { on := 1, ground := Ground.textOnly Departure.lateStores }, { on := 2, ground := Ground.phase }, { on := 3, ground := Ground.phase }, { on := 4, ground := Ground.phase }, { on := 5, ground := Ground.phase }, { on := 6, ground := Ground.phase }, { on := 7, ground := Ground.phase }, { on := 8, ground := Ground.phase }, { on := 9, ground := Ground.textOnly Departure.lateStores }, { on := 10, ground := Ground.textOnly Departure.lateStoresUnsure }, { on := 11, ground := Ground.textOnly Departure.lateStoresUnsure }, { on := 12, ground := Ground.phase }, { on := 13, ground := Ground.textOnly Departure.lateStores }, { on := 14, ground := Ground.textOnly Departure.lateStoresUnsure }, { on := 15, ground := Ground.phase }], guard := none }) (v := _) rfl (by kernel_rfl) (by kernel_rfl) (by kernel_rfl) (fun _ _ _ h => h) (Or.inl ⟨by rfl, ?hyA16⟩) ?reA16
      case hyA16 => (intro W hSw; (try dsimp only at hSw); go_simp; try with_reducible rfl)
      try simp only [Act.put, List.setIfInBounds_toArray, List.set_cons_zero, List.set_cons_succ]
      refine' wpAnyJ_takeW (i := 17) (oi := { dst := some 32, op := Op.fieldAddr 163 (Operand.tmp 31) 1, type := 0, pos := "ids.go:136", after := #[{ on := 16, ground := Ground.data }, { on := 0, ground := Ground.phase }, { on := 1, ground := Ground.textOnly Departure.lateStores }, { on := 2, ground := Ground.phase }, { on := 3, ground := Ground.phase }, { on := 4, ground := Ground.phase }, { on := 5, ground := Ground.phase }, { on := 6, ground := Ground.phase }, { on := 7, ground := Ground.phase }, { on := 8, ground := Ground.phase }, { on := 9, ground := Ground.textOnly Departure.lateStores }, { on := 10, ground := Ground.textOnly Departure.lateStoresUnsure }, { on := 11, ground := Ground.textOnly Departure.lateStoresUnsure }, { on := 12, ground := Ground.phase }, { on := 13, ground := Ground.textOnly Departure.lateStores }, { on := 14, ground := Ground.textOnly Departure.lateStoresUnsure }, { on := 15, ground := Ground.phase }], guard := none }) (v := _) rfl (by kernel_rfl) (by kernel_rfl) (by kernel_rfl) (fun _ _ _ h => h) (Or.inl ⟨by rfl, ?hyA17⟩) ?reA17
      case hyA17 => (intro W hSw; (try dsimp only at hSw); go_simp; try with_reducible rfl)
      try simp only [Act.put, List.setIfInBounds_toArray, List.set_cons_zero, List.set_cons_succ]
      refine wpAnyJ_ready (rs := [18]) (by kernel_rfl) (by simp) ?_
      refine AllReadyJ.cons (o := { dst := none, op := Op.store 45 (Operand.tmp 32) (Operand.tmp 23), type := 0, pos := "ids.go:136", after := #[{ on := 17, ground := Ground.data }, { on := 8, ground := Ground.data }, { on := 15, ground := Ground.chain }, { on := 0, ground := Ground.phase }, { on := 1, ground := Ground.textOnly Departure.lateStores }, { on := 2, ground := Ground.phase }, { on := 3, ground := Ground.phase }, { on := 4, ground := Ground.phase }, { on := 5, ground := Ground.phase }, { on := 6, ground := Ground.phase }, { on := 7, ground := Ground.phase }, { on := 8, ground := Ground.phase }, { on := 9, ground := Ground.textOnly Departure.lateStores }, { on := 10, ground := Ground.textOnly Departure.lateStoresUnsure }, { on := 11, ground := Ground.textOnly Departure.lateStoresUnsure }, { on := 12, ground := Ground.phase }, { on := 13, ground := Ground.textOnly Departure.lateStores }, { on := 14, ground := Ground.textOnly Departure.lateStoresUnsure }, { on := 15, ground := Ground.phase }], guard := none }) rfl (fun K hK => ?_) AllReadyJ.nil
      go_simp
      refine hK.out _ _ (fun h => absurd h (by decide)) ?_
      clear hK K
      try simp only [Act.put, List.setIfInBounds_toArray, List.set_cons_zero, List.set_cons_succ]
      refine' wpAnyJ_takeW (i := 19) (oi := { dst := some 33, op := Op.nilCheck (Operand.tmp 16), type := 0, pos := "ids.go:136", after := #[{ on := 1, ground := Ground.data }, { on := 0, ground := Ground.phase }, { on := 1, ground := Ground.phase }, { on := 2, ground := Ground.phase }, { on := 3, ground := Ground.phase }, { on := 4, ground := Ground.phase }, { on := 5, ground := Ground.phase }, { on := 6, ground := Ground.phase }, { on := 7, ground := Ground.phase }, { on := 8, ground := Ground.phase }, { on := 9, ground := Ground.phase }, { on := 10, ground := Ground.phase }, { on := 11, ground := Ground.phase }, { on := 12, ground := Ground.phase }, { on := 13, ground := Ground.phase }, { on := 14, ground := Ground.phase }, { on := 15, ground := Ground.phase }, { on := 16, ground := Ground.phase }, { on := 17, ground := Ground.phase }, { on := 18, ground := Ground.phase }], guard := none }) (v := _) rfl (by kernel_rfl) (by kernel_rfl) (by kernel_rfl) (fun _ _ _ h => h) (Or.inl ⟨by rfl, ?hyA18⟩) ?reA18
      case hyA18 => (intro W hSw; (try dsimp only at hSw); go_simp; try with_reducible rfl)
      try simp only [Act.put, List.setIfInBounds_toArray, List.set_cons_zero, List.set_cons_succ]
      refine' wpAnyJ_takeW (i := 20) (oi := { dst := some 34, op := Op.fieldAddr 163 (Operand.tmp 33) 2, type := 0, pos := "ids.go:136", after := #[{ on := 19, ground := Ground.data }, { on := 0, ground := Ground.phase }, { on := 1, ground := Ground.phase }, { on := 2, ground := Ground.phase }, { on := 3, ground := Ground.phase }, { on := 4, ground := Ground.phase }, { on := 5, ground := Ground.phase }, { on := 6, ground := Ground.phase }, { on := 7, ground := Ground.phase }, { on := 8, ground := Ground.phase }, { on := 9, ground := Ground.phase }, { on := 10, ground := Ground.phase }, { on := 11, ground := Ground.phase }, { on := 12, ground := Ground.phase }, { on := 13, ground := Ground.phase }, { on := 14, ground := Ground.phase }, { on := 15, ground := Ground.phase }, { on := 16, ground := Ground.phase }, { on := 17, ground := Ground.phase }, { on := 18, ground := Ground.phase }], guard := none }) (v := _) rfl (by kernel_rfl) (by kernel_rfl) (by kernel_rfl) (fun _ _ _ h => h) (Or.inl ⟨by rfl, ?hyA19⟩) ?reA19
      case hyA19 => (intro W hSw; (try dsimp only at hSw); go_simp; try with_reducible rfl)
      try simp only [Act.put, List.setIfInBounds_toArray, List.set_cons_zero, List.set_cons_succ]
      refine wpAnyJ_ready (rs := [21]) (by kernel_rfl) (by simp) ?_
      refine AllReadyJ.cons (o := { dst := none, op := Op.store 39 (Operand.tmp 34) (Operand.tmp 30), type := 0, pos := "ids.go:136", after := #[{ on := 20, ground := Ground.data }, { on := 15, ground := Ground.data }, { on := 18, ground := Ground.chain }, { on := 0, ground := Ground.phase }, { on := 1, ground := Ground.phase }, { on := 2, ground := Ground.phase }, { on := 3, ground := Ground.phase }, { on := 4, ground := Ground.phase }, { on := 5, ground := Ground.phase }, { on := 6, ground := Ground.phase }, { on := 7, ground := Ground.phase }, { on := 8, ground := Ground.phase }, { on := 9, ground := Ground.phase }, { on := 10, ground := Ground.phase }, { on := 11, ground := Ground.phase }, { on := 12, ground := Ground.phase }, { on := 13, ground := Ground.phase }, { on := 14, ground := Ground.phase }, { on := 15, ground := Ground.phase }, { on := 16, ground := Ground.phase }, { on := 17, ground := Ground.phase }, { on := 18, ground := Ground.phase }], guard := none }) rfl (fun K hK => ?_) AllReadyJ.nil
      go_simp
      refine hK.out _ _ (fun h => absurd h (by decide)) ?_
      clear hK K
      try simp only [Act.put, List.setIfInBounds_toArray, List.set_cons_zero, List.set_cons_succ]
      refine wpAnyJ_done (by kernel_rfl) ?_ _
      refine NoPanic.normal ?_
      go_wp2_with fail
      go_end0
      have F := H.out.fin T10.out
      exact ⟨rfl, CV.out _ ⟨_, _, F.1, T10.out.2.2.2.1, T10.out.2.2.2.2.1, F.2⟩⟩
    refine AllReadyJ.cons (o := { dst := some 29, op := Op.buildSlice 39 1 #[(0, Operand.tmp 28)], type := 39, pos := "ids.go:136", after := #[{ on := 13, ground := Ground.data }], guard := none }) rfl (fun K hK => ?_) AllReadyJ.nil
    go_simp
    refine hK.out _ _ (fun _ _ => (mid_cells (H.out.mid ((T0.out.alloc _).alloc _))).1) ?_
    clear hK K
    try simp only [Act.put, List.setIfInBounds_toArray, List.set_cons_zero, List.set_cons_succ]
    refine wpAnyJ_ready (rs := [8]) (by kernel_rfl) (by simp) ?_
    refine AllReadyJ.cons (o := { dst := some 23, op := Op.call { callee := Callee.builtin Builtin.append, args := #[Operand.tmp 20, Operand.tmp 22], argTypes := #[45, 45] }, type := 45, pos := "ids.go:136", after := #[{ on := 5, ground := Ground.data }, { on := 7, ground := Ground.data }], guard := none }) rfl (fun K hK => ?_) AllReadyJ.nil
    refine step_append_lies _ rfl (.tmp 20) (.tmp 22) 45 rfl 0 3 i3 (.int .i64 0) 1 8 Tryz.underlying45 hi3 hx0 hx1 hx2 rfl (by decide) (.slice aog gs.length cg) gs.length (ic gs) (by simp [Act.eval]) ((T0.out.alloc _).alloc _).1 ⟨w1.heap.size, 0, none⟩ 1 1 [.int .i64 (x : Int)] (by simp [Act.eval]) rfl (by intro j u hj; match j, hj with | 0, hj => simp at hj; subst hj; simp [Addr.add]) (by intro u hu; simp at hu; subst hu; rfl) (by omega) (by unfold maxLen; omega) (by omega) (Nat.zero_le _) _ rfl ?_; intro g9 c9 w9 ho9 hg9 ha9 _
    have T9 := hide (((T0.out.alloc _).alloc _).growG (x := x) ho9 hg9 ha9)
    have s0 : w9.cell? ⟨w1.heap.size + 1, 0, none⟩ = some (.int .i64 0) := hg9.cell (by simp) (fun e => by have := (HGL.out _ e.symm).2; first | omega | (simp at this <;> omega))
    have s1 : w9.cell? ⟨w1.heap.size + 1, 1, none⟩ = some (.int .i64 0) := hg9.cell (by simp) (fun e => by have := (HGL.out _ e.symm).2; first | omega | (simp at this <;> omega))
    clear ho9 hg9 ha9
    refine hK.out _ _ (fun _ _ => (mid_cells (H.out.mid T9.out)).1) ?_
    clear hK K
    try simp only [Act.put, List.setIfInBounds_toArray, List.set_cons_zero, List.set_cons_succ]
    refine wpAnyJ_ready (rs := [15]) (by kernel_rfl) (by simp) ?_
    refine AllReadyJ.cons (o := { dst := some 30, op := Op.call { callee := Callee.builtin Builtin.append, args := #[Operand.tmp 27, Operand.tmp 29], argTypes := #[39, 39] }, type := 39, pos := "ids.go:136", after := #[{ on := 12, ground := Ground.data }, { on := 14, ground := Ground.data }, { on := 8, ground := Ground.chain }], guard := none }) rfl (fun K hK => ?_) AllReadyJ.nil
    refine step_append_lies _ rfl (.tmp 27) (.tmp 29) 39 rfl 0 29 i41 (.agg #[.int .i64 0, .int .i64 0]) 2 16 Tryz.underlying39 hi41 hy0 hy1 hy2 rfl (by decide) (.slice aol lv.length cl) lv.length (ec lv) (by simp [Act.eval]) T9.out.2.1 ⟨w1.heap.size + 1, 0, none⟩ 1 1 [.int .i64 0, .int .i64 0] (by simp [Act.eval]) rfl (by intro j u hj; match j, hj with | 0, hj => simp at hj; subst hj; simpa [Addr.add] using s0 | 1, hj => simp at hj; subst hj; simpa [Addr.add] using s1) (by intro u hu; simp at hu; subst hu; rfl) (by omega) (by unfold maxLen; omega) (by omega) (Nat.zero_le _) _ rfl ?_; intro g8 c8 w8 ho8 hg8 ha8 _
    have T10 := hide (T9.out.growL (a := 0) (b := 0) ho8 hg8 ha8)
    clear ho8 hg8 ha8
    refine hK.out _ _ (fun _ _ => (mid_cells (H.out.mid T10.out)).1) ?_
    clear hK K
    obtain ⟨⟨d1, d2⟩, y1, y2⟩ := mid_cells (H.out.mid T10.out)
    try simp only [Act.put, List.setIfInBounds_toArray, List.set_cons_zero, List.set_cons_succ]
    refine' wpAnyJ_takeW (i := 16) (oi := { dst := some 31, op := Op.nilCheck (Operand.tmp 15), type := 0, pos := "ids.go:136", after := #[{ on := 0, ground := Ground.data }, { on := 0, ground := Ground.phase }, { on := 1, ground := Ground.textOnly Departure.lateStores }, { on := 2, ground := Ground.phase }, { on := 3, ground := Ground.phase }, { on := 4, ground := Ground.phase }, { on := 5, ground := Ground.phase }, { on := 6, ground := Ground.phase }, { on := 7, ground := Ground.phase }, { on := 8, ground := Ground.phase }, { on := 9, ground := Ground.textOnly Departure.lateStores }, { on := 10, ground := Ground.textOnly Departure.lateStoresUnsure }, { on := 11, ground := Ground.textOnly Departure.lateStoresUnsure }, { on := 12, ground := Ground.phase }, { on := 13, ground := Ground.textOnly Departure.lateStores }, { on := 14, ground := Ground.textOnly Departure.lateStoresUnsure }, { on := 15, ground := Ground.phase }], guard := none }) (v := _) rfl (by kernel_rfl) (by kernel_rfl) (by kernel_rfl) (fun _ _ _ h => h) (Or.inl ⟨by rfl, ?hyA20⟩) ?reA20
    case hyA20 => (intro W hSw; (try dsimp only at hSw); go_simp; try with_reducible rfl)
    try simp only [Act.put, List.setIfInBounds_toArray, List.set_cons_zero, List.set_cons_succ]
    refine' wpAnyJ_takeW (i := 17) (oi := { dst := some 32, op := Op.fieldAddr 163 (Operand.tmp 31) 1, type := 0, pos := "ids.go:136", after := #[{ on := 16, ground := Ground.data }, { on := 0, ground := Ground.phase }, { on := 1, ground := Ground.textOnly Departure.lateStores }, { on := 2, ground := Ground.phase }, { on := 3, ground := Ground.phase }, { on := 4, ground := Ground.phase }, { on := 5, ground := Ground.phase }, { on := 6, ground := Ground.phase }, { on := 7, ground := Ground.phase }, { on := 8, ground := Ground.phase }, { on := 9, ground := Ground.textOnly Departure.lateStores }, { on := 10, ground := Ground.textOnly Departure.lateStoresUnsure }, { on := 11, ground := Ground.textOnly Departure.lateStoresUnsure }, { on := 12, ground := Ground.phase }, { on := 13, ground := Ground.textOnly Departure.lateStores }, { on := 14, ground := Ground.textOnly Departure.lateStoresUnsure }, { on := 15, ground := Ground.phase }], guard := none }) (v := _) rfl (by kernel_rfl) (by kernel_rfl) (by kernel_rfl) (fun _ _ _ h => h) (Or.inl ⟨by rfl, ?hyA21⟩) ?reA21
    case hyA21 => (intro W hSw; (try dsimp only at hSw); go_simp; try with_reducible rfl)
    try simp only [Act.put, List.setIfInBounds_toArray, List.set_cons_zero, List.set_cons_succ]
    refine wpAnyJ_ready (rs := [18]) (by kernel_rfl) (by simp) ?_
    refine AllReadyJ.cons (o := { dst := none, op := Op.store 45 (Operand.tmp 32) (Operand.tmp 23), type := 0, pos := "ids.go:136", after := #[{ on := 17, ground := Ground.data }, { on := 8, ground := Ground.data }, { on := 15, ground := Ground.chain }, { on := 0, ground := Ground.phase }, { on := 1, ground := Ground.textOnly Departure.lateStores }, { on := 2, ground := Ground.phase }, { on := 3, ground := Ground.phase }, { on := 4, ground := Ground.phase }, { on := 5, ground := Ground.phase }, { on := 6, ground := Ground.phase }, { on := 7, ground := Ground.phase }, { on := 8, ground := Ground.phase }, { on := 9, ground := Ground.textOnly Departure.lateStores }, { on := 10, ground := Ground.textOnly Departure.lateStoresUnsure }, { on := 11, ground := Ground.textOnly Departure.lateStoresUnsure }, { on := 12, ground := Ground.phase }, { on := 13, ground := Ground.textOnly Departure.lateStores }, { on := 14, ground := Ground.textOnly Departure.lateStoresUnsure }, { on := 15, ground := Ground.phase }], guard := none }) rfl (fun K hK => ?_) AllReadyJ.nil
    go_simp
    refine hK.out _ _ (fun h => absurd h (by decide)) ?_
    clear hK K
    try simp only [Act.put, List.setIfInBounds_toArray, List.set_cons_zero, List.set_cons_succ]
    refine' wpAnyJ_takeW (i := 19) (oi := { dst := some 33, op := Op.nilCheck (Operand.tmp 16), type := 0, pos := "ids.go:136", after := #[{ on := 1, ground := Ground.data }, { on := 0, ground := Ground.phase }, { on := 1, ground := Ground.phase }, { on := 2, ground := Ground.phase }, { on := 3, ground := Ground.phase }, { on := 4, ground := Ground.phase }, { on := 5, ground := Ground.phase }, { on := 6, ground := Ground.phase }, { on := 7, ground := Ground.phase }, { on := 8, ground := Ground.phase }, { on := 9, ground := Ground.phase }, { on := 10, ground := Ground.phase }, { on := 11, ground := Ground.phase }, { on := 12, ground := Ground.phase }, { on := 13, ground := Ground.phase }, { on := 14, ground := Ground.phase }, { on := 15, ground := Ground.phase }, { on := 16, ground := Ground.phase }, { on := 17, ground := Ground.phase }, { on := 18, ground := Ground.phase }], guard := none }) (v := _) rfl (by kernel_rfl) (by kernel_rfl) (by kernel_rfl) (fun _ _ _ h => h) (Or.inl ⟨by rfl, ?hyA22⟩) ?reA22
    case hyA22 => (intro W hSw; (try dsimp only at hSw); go_simp; try with_reducible rfl)
    try simp only [Act.put, List.setIfInBounds_toArray, List.set_cons_zero, List.set_cons_succ]
    refine' wpAnyJ_takeW (i := 20) (oi := { dst := some 34, op := Op.fieldAddr 163 (Operand.tmp 33) 2, type := 0, pos := "ids.go:136", after := #[{ on := 19, ground := Ground.data }, { on := 0, ground := Ground.phase }, { on := 1, ground := Ground.phase }, { on := 2, ground := Ground.phase }, { on := 3, ground := Ground.phase }, { on := 4, ground := Ground.phase }, { on := 5, ground := Ground.phase }, { on := 6, ground := Ground.phase }, { on := 7, ground := Ground.phase }, { on := 8, ground := Ground.phase }, { on := 9, ground := Ground.phase }, { on := 10, ground := Ground.phase }, { on := 11, ground := Ground.phase }, { on := 12, ground := Ground.phase }, { on := 13, ground := Ground.phase }, { on := 14, ground := Ground.phase }, { on := 15, ground := Ground.phase }, { on := 16, ground := Ground.phase }, { on := 17, ground := Ground.phase }, { on := 18, ground := Ground.phase }], guard := none }) (v := _) rfl (by kernel_rfl) (by kernel_rfl) (by kernel_rfl) (fun _ _ _ h => h) (Or.inl ⟨by rfl, ?hyA23⟩) ?reA23
    case hyA23 => (intro W hSw; (try dsimp only at hSw); go_simp; try with_reducible rfl)
    try simp only [Act.put, List.setIfInBounds_toArray, List.set_cons_zero, List.set_cons_succ]
    refine wpAnyJ_ready (rs := [21]) (by kernel_rfl) (by simp) ?_
    refine AllReadyJ.cons (o := { dst := none, op := Op.store 39 (Operand.tmp 34) (Operand.tmp 30), type := 0, pos := "ids.go:136", after := #[{ on := 20, ground := Ground.data }, { on := 15, ground := Ground.data }, { on := 18, ground := Ground.chain }, { on := 0, ground := Ground.phase }, { on := 1, ground := Ground.phase }, { on := 2, ground := Ground.phase }, { on := 3, ground := Ground.phase }, { on := 4, ground := Ground.phase }, { on := 5, ground := Ground.phase }, { on := 6, ground := Ground.phase }, { on := 7, ground := Ground.phase }, { on := 8, ground := Ground.phase }, { on := 9, ground := Ground.phase }, { on := 10, ground := Ground.phase }, { on := 11, ground := Ground.phase }, { on := 12, ground := Ground.phase }, { on := 13, ground := Ground.phase }, { on := 14, ground := Ground.phase }, { on := 15, ground := Ground.phase }, { on := 16, ground := Ground.phase }, { on := 17, ground := Ground.phase }, { on := 18, ground := Ground.phase }], guard := none }) rfl (fun K hK => ?_) AllReadyJ.nil
    go_simp
    refine hK.out _ _ (fun h => absurd h (by decide)) ?_
    clear hK K
    try simp only [Act.put, List.setIfInBounds_toArray, List.set_cons_zero, List.set_cons_succ]
    refine wpAnyJ_done (by kernel_rfl) ?_ _
    refine NoPanic.normal ?_
    go_wp2_with fail
    go_end0
    have F := H.out.fin T10.out
    exact ⟨rfl, CV.out _ ⟨_, _, F.1, T10.out.2.2.2.1, T10.out.2.2.2.2.1, F.2⟩⟩
  refine AllReadyJ.cons (o := { dst := some 28, op := Op.load 29 (Operand.tmp 4), type := 29, pos := "ids.go:136", after := #[], guard := none }) rfl (fun K hK => ?_) AllReadyJ.nil
  obtain ⟨q0, q1⟩ := WH.out _ T0.out.2.2.2.2.2
  go_simp
  refine hK.out _ _ (fun _ h => h) ?_
  clear hK K q0 q1
  try simp only [Act.put, List.setIfInBounds_toArray, List.set_cons_zero, List.set_cons_succ]
  refine wpAnyJ_ready (rs := [7, 14]) (by kernel_rfl) (by simp) ?_
  refine AllReadyJ.cons (o := { dst := some 22, op := Op.buildSlice 45 1 #[(0, Operand.tmp 21)], type := 45, pos := "ids.go:136", after := #[{ on := 6, ground := Ground.data }], guard := none }) rfl (fun K hK => ?_) ?_
  · go_simp
    refine hK.out _ _ (fun _ _ => (mid_cells (H.out.mid (T0.out.alloc _))).1) ?_
    clear hK K
    try simp only [Act.put, List.setIfInBounds_toArray, List.set_cons_zero, List.set_cons_succ]
    refine wpAnyJ_ready (rs := [8, 14]) (by kernel_rfl) (by simp) ?_
    refine AllReadyJ.cons (o := { dst := some 23, op := Op.call { callee := Callee.builtin Builtin.append, args := #[Operand.tmp 20, Operand.tmp 22], argTypes := #[45, 45] }, type := 45, pos := "ids.go:136", after := #[{ on := 5, ground := Ground.data }, { on := 7, ground := Ground.data }], guard := none }) rfl (fun K hK => ?_) ?_
    · refine step_append_lies _ rfl (.tmp 20) (.tmp 22) 45 rfl 0 3 i3 (.int .i64 0) 1 8 Tryz.underlying45 hi3 hx0 hx1 hx2 rfl (by decide) (.slice aog gs.length cg) gs.length (ic gs) (by simp [Act.eval]) (T0.out.alloc _).1 ⟨w1.heap.size, 0, none⟩ 1 1 [.int .i64 (x : Int)] (by simp [Act.eval]) rfl (by intro j u hj; match j, hj with | 0, hj => simp at hj; subst hj; simp [Addr.add]) (by intro u hu; simp at hu; subst hu; rfl) (by omega) (by unfold maxLen; omega) (by omega) (Nat.zero_le _) _ rfl ?_; intro g9 c9 w9 ho9 hg9 ha9 _
      have T9 := hide ((T0.out.alloc _).growG (x := x) ho9 hg9 ha9)
      clear ho9 hg9 ha9
      refine hK.out _ _ (fun _ _ => (mid_cells (H.out.mid T9.out)).1) ?_
      clear hK K
      try simp only [Act.put, List.setIfInBounds_toArray, List.set_cons_zero, List.set_cons_succ]
      refine wpAnyJ_ready (rs := [14]) (by kernel_rfl) (by simp) ?_
      refine AllReadyJ.cons (o := { dst := some 29, op := Op.buildSlice 39 1 #[(0, Operand.tmp 28)], type := 39, pos := "ids.go:136", after := #[{ on := 13, ground := Ground.data }], guard := none }) rfl (fun K hK => ?_) AllReadyJ.nil
      go_simp
      refine hK.out _ _ (fun _ _ => (mid_cells (H.out.mid (T9.out.alloc _))).1) ?_
      clear hK K
      try simp only [Act.put, List.setIfInBounds_toArray, List.set_cons_zero, List.set_cons_succ]
      refine wpAnyJ_ready (rs := [15]) (by kernel_rfl) (by simp) ?_
      refine AllReadyJ.cons (o := { dst := some 30, op := Op.call { callee := Callee.builtin Builtin.append, args := #[Operand.tmp 27, Operand.tmp 29], argTypes := #[39, 39] }, type := 39, pos := "ids.go:136", after := #[{ on := 12, ground := Ground.data }, { on := 14, ground := Ground.data }, { on := 8, ground := Ground.chain }], guard := none }) rfl (fun K hK => ?_) AllReadyJ.nil
      refine step_append_lies _ rfl (.tmp 27) (.tmp 29) 39 rfl 0 29 i41 (.agg #[.int .i64 0, .int .i64 0]) 2 16 Tryz.underlying39 hi41 hy0 hy1 hy2 rfl (by decide) (.slice aol lv.length cl) lv.length (ec lv) (by simp [Act.eval]) (T9.out.alloc _).2.1 ⟨w9.heap.size, 0, none⟩ 1 1 [.int .i64 0, .int .i64 0] (by simp [Act.eval]) rfl (by intro j u hj; match j, hj with | 0, hj => simp at hj; subst hj; simp [Addr.add] | 1, hj => simp at hj; subst hj; simp [Addr.add]) (by intro u hu; simp at hu; subst hu; rfl) (by omega) (by unfold maxLen; omega) (by omega) (Nat.zero_le _) _ rfl ?_; intro g8 c8 w8 ho8 hg8 ha8 _
      have T10 := hide ((T9.out.alloc _).growL (a := 0) (b := 0) ho8 hg8 ha8)
      clear ho8 hg8 ha8
      refine hK.out _ _ (fun _ _ => (mid_cells (H.out.mid T10.out)).1) ?_
      clear hK K
      obtain ⟨⟨d1, d2⟩, y1, y2⟩ := mid_cells (H.out.mid T10.out)
      try simp only [Act.put, List.setIfInBounds_toArray, List.set_cons_zero, List.set_cons_succ]
      refine' wpAnyJ_takeW (i := 16) (oi := { dst := some 31, op := Op.nilCheck (Operand.tmp 15), type := 0, pos := "ids.go:136", after := #[{ on := 0, ground := Ground.data }, { on := 0, ground := Ground.phase }, { on := 1, ground := Ground.textOnly Departure.lateStores }, { on := 2, ground := Ground.phase }, { on := 3, ground := Ground.phase }, { on := 4, ground := Ground.phase }, { on := 5, ground := Ground.phase }, { on := 6, ground := Ground.phase }, { on := 7, ground := Ground.phase }, { on := 8, ground := Ground.phase }, { on := 9, ground := Ground.textOnly Departure.lateStores }, { on := 10, ground := Ground.textOnly Departure.lateStoresUnsure }, { on := 11, ground := Ground.textOnly Departure.lateStoresUnsure }, { on := 12, ground := Ground.phase }, { on := 13, ground := Ground.textOnly Departure.lateStores }, { on := 14, ground := Ground.textOnly Departure.lateStoresUnsure }, { on := 15, ground := Ground.phase }], guard := none }) (v := _) rfl (by kernel_rfl) (by kernel_rfl) (by kernel_rfl) (fun _ _ _ h => h) (Or.inl ⟨by rfl, ?hyA24⟩) ?reA24
      case hyA24 => (intro W hSw; (try dsimp only at hSw); go_simp; try with_reducible rfl)
      try simp only [Act.put, List.setIfInBounds_toArray, List.set_cons_zero, List.set_cons_succ]
      refine' wpAnyJ_takeW (i := 17) (oi := { dst := some 32, op := Op.fieldAddr 163 (Operand.tmp 31) 1, type := 0, pos := "ids.go:136", after := #[{ on := 16, ground := Ground.data }, { on := 0, ground := Ground.phase }, { on := 1, ground := Ground.textOnly Departure.lateStores }, { on := 2, ground := Ground.phase }, { on := 3, ground := Ground.phase }, { on := 4, ground := Ground.phase }, { on := 5, ground := Ground.phase }, { on := 6, ground := Ground.phase }, { on := 7, ground := Ground.phase }, { on := 8, ground := Ground.phase }, { on := 9, ground := Ground.textOnly Departure.lateStores }, { on := 10, ground := Ground.textOnly Departure.lateStoresUnsure }, { on := 11, ground := Ground.textOnly Departure.lateStoresUnsure }, { on := 12, ground := Ground.phase }, { on := 13, ground := Ground.textOnly Departure.lateStores }, { on := 14, ground := Ground.textOnly Departure.lateStoresUnsure }, { on := 15, ground := Ground.phase }], guard := none }) (v := _) rfl (by kernel_rfl) (by kernel_rfl) (by kernel_rfl) (fun _ _ _ h => h) (Or.inl ⟨by rfl, ?hyA25⟩) ?reA25
      case hyA25 => (intro W hSw; (try dsimp only at hSw); go_simp; try with_reducible rfl)
      try simp only [Act.put, List.setIfInBounds_toArray, List.set_cons_zero, List.set_cons_succ]
      refine wpAnyJ_ready (rs := [18]) (by kernel_rfl) (by simp) ?_
      refine AllReadyJ.cons (o := { dst := none, op := Op.store 45 (Operand.tmp 32) (Operand.tmp 23), type := 0, pos := "ids.go:136", after := #[{ on := 17, ground := Ground.data }, { on := 8, ground := Ground.data }, { on := 15, ground := Ground.chain }, { on := 0, ground := Ground.phase }, { on := 1, ground := Ground.textOnly Departure.lateStores }, { on := 2, ground := Ground.phase }, { on := 3, ground := Ground.phase }, { on := 4, ground := Ground.phase }, { on := 5, ground := Ground.phase }, { on := 6, ground := Ground.phase }, { on := 7, ground := Ground.phase }, { on := 8, ground := Ground.phase }, { on := 9, ground := Ground.textOnly Departure.lateStores }, { on := 10, ground := Ground.textOnly Departure.lateStoresUnsure }, { on := 11, ground := Ground.textOnly Departure.lateStoresUnsure }, { on := 12, ground := Ground.phase }, { on := 13, ground := Ground.textOnly Departure.lateStores }, { on := 14, ground := Ground.textOnly Departure.lateStoresUnsure }, { on := 15, ground := Ground.phase }], guard := none }) rfl (fun K hK => ?_) AllReadyJ.nil
      go_simp
      refine hK.out _ _ (fun h => absurd h (by decide)) ?_
      clear hK K
      try simp only [Act.put, List.setIfInBounds_toArray, List.set_cons_zero, List.set_cons_succ]
      refine' wpAnyJ_takeW (i := 19) (oi := { dst := some 33, op := Op.nilCheck (Operand.tmp 16), type := 0, pos := "ids.go:136", after := #[{ on := 1, ground := Ground.data }, { on := 0, ground := Ground.phase }, { on := 1, ground := Ground.phase }, { on := 2, ground := Ground.phase }, { on := 3, ground := Ground.phase }, { on := 4, ground := Ground.phase }, { on := 5, ground := Ground.phase }, { on := 6, ground := Ground.phase }, { on := 7, ground := Ground.phase }, { on := 8, ground := Ground.phase }, { on := 9, ground := Ground.phase }, { on := 10, ground := Ground.phase }, { on := 11, ground := Ground.phase }, { on := 12, ground := Ground.phase }, { on := 13, ground := Ground.phase }, { on := 14, ground := Ground.phase }, { on := 15, ground := Ground.phase }, { on := 16, ground := Ground.phase }, { on := 17, ground := Ground.phase }, { on := 18, ground := Ground.phase }], guard := none }) (v := _) rfl (by kernel_rfl) (by kernel_rfl) (by kernel_rfl) (fun _ _ _ h => h) (Or.inl ⟨by rfl, ?hyA26⟩) ?reA26
      case hyA26 => (intro W hSw; (try dsimp only at hSw); go_simp; try with_reducible rfl)
      try simp only [Act.put, List.setIfInBounds_toArray, List.set_cons_zero, List.set_cons_succ]
      refine' wpAnyJ_takeW (i := 20) (oi := { dst := some 34, op := Op.fieldAddr 163 (Operand.tmp 33) 2, type := 0, pos := "ids.go:136", after := #[{ on := 19, ground := Ground.data }, { on := 0, ground := Ground.phase }, { on := 1, ground := Ground.phase }, { on := 2, ground := Ground.phase }, { on := 3, ground := Ground.phase }, { on := 4, ground := Ground.phase }, { on := 5, ground := Ground.phase }, { on := 6, ground := Ground.phase }, { on := 7, ground := Ground.phase }, { on := 8, ground := Ground.phase }, { on := 9, ground := Ground.phase }, { on := 10, ground := Ground.phase }, { on := 11, ground := Ground.phase }, { on := 12, ground := Ground.phase }, { on := 13, ground := Ground.phase }, { on := 14, ground := Ground.phase }, { on := 15, ground := Ground.phase }, { on := 16, ground := Ground.phase }, { on := 17, ground := Ground.phase }, { on := 18, ground := Ground.phase }], guard := none }) (v := _) rfl (by kernel_rfl) (by kernel_rfl) (by kernel_rfl) (fun _ _ _ h => h) (Or.inl ⟨by rfl, ?hyA27⟩) ?reA27
      case hyA27 => (intro W hSw; (try dsimp only at hSw); go_simp; try with_reducible rfl)
      try simp only [Act.put, List.setIfInBounds_toArray, List.set_cons_zero, List.set_cons_succ]
      refine wpAnyJ_ready (rs := [21]) (by kernel_rfl) (by simp) ?_
      refine AllReadyJ.cons (o := { dst := none, op := Op.store 39 (Operand.tmp 34) (Operand.tmp 30), type := 0, pos := "ids.go:136", after := #[{ on := 20, ground := Ground.data }, { on := 15, ground := Ground.data }, { on := 18, ground := Ground.chain }, { on := 0, ground := Ground.phase }, { on := 1, ground := Ground.phase }, { on := 2, ground := Ground.phase }, { on := 3, ground := Ground.phase }, { on := 4, ground := Ground.phase }, { on := 5, ground := Ground.phase }, { on := 6, ground := Ground.phase }, { on := 7, ground := Ground.phase }, { on := 8, ground := Ground.phase }, { on := 9, ground := Ground.phase }, { on := 10, ground := Ground.phase }, { on := 11, ground := Ground.phase }, { on := 12, ground := Ground.phase }, { on := 13, ground := Ground.phase }, { on := 14, ground := Ground.phase }, { on := 15, ground := Ground.phase }, { on := 16, ground := Ground.phase }, { on := 17, ground := Ground.phase }, { on := 18, ground := Ground.phase }], guard := none }) rfl (fun K hK => ?_) AllReadyJ.nil
      go_simp
      refine hK.out _ _ (fun h => absurd h (by decide)) ?_
      clear hK K
      try simp only [Act.put, List.setIfInBounds_toArray, List.set_cons_zero, List.set_cons_succ]
      refine wpAnyJ_done (by kernel_rfl) ?_ _
      refine NoPanic.normal ?_
      go_wp2_with fail
      go_end0
      have F := H.out.fin T10.out
      exact ⟨rfl, CV.out _ ⟨_, _, F.1, T10.out.2.2.2.1, T10.out.2.2.2.2.1, F.2⟩⟩
    refine AllReadyJ.cons (o := { dst := some 29, op := Op.buildSlice 39 1 #[(0, Operand.tmp 28)], type := 39, pos := "ids.go:136", after := #[{ on := 13, ground := Ground.data }], guard := none }) rfl (fun K hK => ?_) AllReadyJ.nil
    go_simp
    refine hK.out _ _ (fun _ _ => (mid_cells (H.out.mid ((T0.out.alloc _).alloc _))).1) ?_
    clear hK K
    try simp only [Act.put, List.setIfInBounds_toArray, List.set_cons_zero, List.set_cons_succ]
    refine wpAnyJ_ready (rs := [8]) (by kernel_rfl) (by simp) ?_
    refine AllReadyJ.cons (o := { dst := some 23, op := Op.call { callee := Callee.builtin Builtin.append, args := #[Operand.tmp 20, Operand.tmp 22], argTypes := #[45, 45] }, type := 45, pos := "ids.go:136", after := #[{ on := 5, ground := Ground.data }, { on := 7, ground := Ground.data }], guard := none }) rfl (fun K hK => ?_) AllReadyJ.nil
    refine step_append_lies _ rfl (.tmp 20) (.tmp 22) 45 rfl 0 3 i3 (.int .i64 0) 1 8 Tryz.underlying45 hi3 hx0 hx1 hx2 rfl (by decide) (.slice aog gs.length cg) gs.length (ic gs) (by simp [Act.eval]) ((T0.out.alloc _).alloc _).1 ⟨w1.heap.size, 0, none⟩ 1 1 [.int .i64 (x : Int)] (by simp [Act.eval]) rfl (by intro j u hj; match j, hj with | 0, hj => simp at hj; subst hj; simp [Addr.add]) (by intro u hu; simp at hu; subst hu; rfl) (by omega) (by unfold maxLen; omega) (by omega) (Nat.zero_le _) _ rfl ?_; intro g9 c9 w9 ho9 hg9 ha9 _
    have T9 := hide (((T0.out.alloc _).alloc _).growG (x := x) ho9 hg9 ha9)
    have s0 : w9.cell? ⟨w1.heap.size + 1, 0, none⟩ = some (.int .i64 0) := hg9.cell (by simp) (fun e => by have := (HGL.out _ e.symm).2; first | omega | (simp at this <;> omega))
    have s1 : w9.cell? ⟨w1.heap.size + 1, 1, none⟩ = some (.int .i64 0) := hg9.cell (by simp) (fun e => by have := (HGL.out _ e.symm).2; first | omega | (simp at this <;> omega))
    clear ho9 hg9 ha9
    refine hK.out _ _ (fun _ _ => (mid_cells (H.out.mid T9.out)).1) ?_
    clear hK K
    try simp only [Act.put, List.setIfInBounds_toArray, List.set_cons_zero, List.set_cons_succ]
    refine wpAnyJ_ready (rs := [15]) (by kernel_rfl) (by simp) ?_
    refine AllReadyJ.cons (o := { dst := some 30, op := Op.call { callee := Callee.builtin Builtin.append, args := #[Operand.tmp 27, Operand.tmp 29], argTypes := #[39, 39] }, type := 39, pos := "ids.go:136", after := #[{ on := 12, ground := Ground.data }, { on := 14, ground := Ground.data }, { on := 8, ground := Ground.chain }], guard := none }) rfl (fun K hK => ?_) AllReadyJ.nil
    refine step_append_lies _ rfl (.tmp 27) (.tmp 29) 39 rfl 0 29 i41 (.agg #[.int .i64 0, .int .i64 0]) 2 16 Tryz.underlying39 hi41 hy0 hy1 hy2 rfl (by decide) (.slice aol lv.length cl) lv.length (ec lv) (by simp [Act.eval]) T9.out.2.1 ⟨w1.heap.size + 1, 0, none⟩ 1 1 [.int .i64 0, .int .i64 0] (by simp [Act.eval]) rfl (by intro j u hj; match j, hj with | 0, hj => simp at hj; subst hj; simpa [Addr.add] using s0 | 1, hj => simp at hj; subst hj; simpa [Addr.add] using s1) (by intro u hu; simp at hu; subst hu; rfl) (by omega) (by unfold maxLen; omega) (by omega) (Nat.zero_le _) _ rfl ?_; intro g8 c8 w8 ho8 hg8 ha8 _
    have T10 := hide (T9.out.growL (a := 0) (b := 0) ho8 hg8 ha8)
    clear ho8 hg8 ha8
    refine hK.out _ _ (fun _ _ => (mid_cells (H.out.mid T10.out)).1) ?_
    clear hK K
    obtain ⟨⟨d1, d2⟩, y1, y2⟩ := mid_cells (H.out.mid T10.out)
    try simp only [Act.put, List.setIfInBounds_toArray, List.set_cons_zero, List.set_cons_succ]
    refine' wpAnyJ_takeW (i := 16) (oi := { dst := some 31, op := Op.nilCheck (Operand.tmp 15), type := 0, pos := "ids.go:136", after := #[{ on := 0, ground := Ground.data }, { on := 0, ground := Ground.phase }, { on := 1, ground := Ground.textOnly Departure.lateStores }, { on := 2, ground := Ground.phase }, { on := 3, ground := Ground.phase }, { on := 4, ground := Ground.phase }, { on := 5, ground := Ground.phase }, { on := 6, ground := Ground.phase }, { on := 7, ground := Ground.phase }, { on := 8, ground := Ground.phase }, { on := 9, ground := Ground.textOnly Departure.lateStores }, { on := 10, ground := Ground.textOnly Departure.lateStoresUnsure }, { on := 11, ground := Ground.textOnly Departure.lateStoresUnsure }, { on := 12, ground := Ground.phase }, { on := 13, ground := Ground.textOnly Departure.lateStores }, { on := 14, ground := Ground.textOnly Departure.lateStoresUnsure }, { on := 15, ground := Ground.phase }], guard := none }) (v := _) rfl (by kernel_rfl) (by kernel_rfl) (by kernel_rfl) (fun _ _ _ h => h) (Or.inl ⟨by rfl, ?hyA28⟩) ?reA28
    case hyA28 => (intro W hSw; (try dsimp only at hSw); go_simp; try with_reducible rfl)
    try simp only [Act.put, List.setIfInBounds_toArray, List.set_cons_zero, List.set_cons_succ]
    refine' wpAnyJ_takeW (i := 17) (oi := { dst := some 32, op := Op.fieldAddr 163 (Operand.tmp 31) 1, type := 0, pos := "ids.go:136", after := #[{ on := 16, ground := Ground.data }, { on := 0, ground := Ground.phase }, { on := 1, ground := Ground.textOnly Departure.lateStores }, { on := 2, ground := Ground.phase }, { on := 3, ground := Ground.phase }, { on := 4, ground := Ground.phase }, { on := 5, ground := Ground.phase }, { on := 6, ground := Ground.phase }, { on := 7, ground := Ground.phase }, { on := 8, ground := Ground.phase }, { on := 9, ground := Ground.textOnly Departure.lateStores }, { on := 10, ground := Ground.textOnly Departure.lateStoresUnsure }, { on := 11, ground := Ground.textOnly Departure.lateStoresUnsure }, { on := 12, ground := Ground.phase }, { on := 13, ground := Ground.textOnly Departure.lateStores }, { on := 14, ground := Ground.textOnly Departure.lateStoresUnsure }, { on := 15, ground := Ground.phase }], guard := none }) (v := _) rfl (by kernel_rfl) (by kernel_rfl) (by kernel_rfl) (fun _ _ _ h => h) (Or.inl ⟨by rfl, ?hyA29⟩) ?reA29
    case hyA29 => (intro W hSw; (try dsimp only at hSw); go_simp; try with_reducible rfl)
    try simp only [Act.put, List.setIfInBounds_toArray, List.set_cons_zero, List.set_cons_succ]
    refine wpAnyJ_ready (rs := [18]) (by kernel_rfl) (by simp) ?_
    refine AllReadyJ.cons (o := { dst := none, op := Op.store 45 (Operand.tmp 32) (Operand.tmp 23), type := 0, pos := "ids.go:136", after := #[{ on := 17, ground := Ground.data }, { on := 8, ground := Ground.data }, { on := 15, ground := Ground.chain }, { on := 0, ground := Ground.phase }, { on := 1, ground := Ground.textOnly Departure.lateStores }, { on := 2, ground := Ground.phase }, { on := 3, ground := Ground.phase }, { on := 4, ground := Ground.phase }, { on := 5, ground := Ground.phase }, { on := 6, ground := Ground.phase }, { on := 7, ground := Ground.phase }, { on := 8, ground := Ground.phase }, { on := 9, ground := Ground.textOnly Departure.lateStores }, { on := 10, ground := Ground.textOnly Departure.lateStoresUnsure }, { on := 11, ground := Ground.textOnly Departure.lateStoresUnsure }, { on := 12, ground := Ground.phase }, { on := 13, ground := Ground.textOnly Departure.lateStores }, { on := 14, ground := Ground.textOnly Departure.lateStoresUnsure }, { on := 15, ground := Ground.phase }], guard := none }) rfl (fun K hK => ?_) AllReadyJ.nil
    go_simp
    refine hK.out _ _ (fun h => absurd h (by decide)) ?_
    clear hK K
    try simp only [Act.put, List.setIfInBounds_toArray, List.set_cons_zero, List.set_cons_succ]
    refine' wpAnyJ_takeW (i := 19) (oi := { dst := some 33, op := Op.nilCheck (Operand.tmp 16), type := 0, pos := "ids.go:136", after := #[{ on := 1, ground := Ground.data }, { on := 0, ground := Ground.phase }, { on := 1, ground := Ground.phase }, { on := 2, ground := Ground.phase }, { on := 3, ground := Ground.phase }, { on := 4, ground := Ground.phase }, { on := 5, ground := Ground.phase }, { on := 6, ground := Ground.phase }, { on := 7, ground := Ground.phase }, { on := 8, ground := Ground.phase }, { on := 9, ground := Ground.phase }, { on := 10, ground := Ground.phase }, { on := 11, ground := Ground.phase }, { on := 12, ground := Ground.phase }, { on := 13, ground := Ground.phase }, { on := 14, ground := Ground.phase }, { on := 15, ground := Ground.phase }, { on := 16, ground := Ground.phase }, { on := 17, ground := Ground.phase }, { on := 18, ground := Ground.phase }], guard := none }) (v := _) rfl (by kernel_rfl) (by kernel_rfl) (by kernel_rfl) (fun _ _ _ h => h) (Or.inl ⟨by rfl, ?hyA30⟩) ?reA30
    case hyA30 => (intro W hSw; (try dsimp only at hSw); go_simp; try with_reducible rfl)
    try simp only [Act.put, List.setIfInBounds_toArray, List.set_cons_zero, List.set_cons_succ]
    refine' wpAnyJ_takeW (i := 20) (oi := { dst := some 34, op := Op.fieldAddr 163 (Operand.tmp 33) 2, type := 0, pos := "ids.go:136", after := #[{ on := 19, ground := Ground.data }, { on := 0, ground := Ground.phase }, { on := 1, ground := Ground.phase }, { on := 2, ground := Ground.phase }, { on := 3, ground := Ground.phase }, { on := 4, ground := Ground.phase }, { on := 5, ground := Ground.phase }, { on := 6, ground := Ground.phase }, { on := 7, ground := Ground.phase }, { on := 8, ground := Ground.phase }, { on := 9, ground := Ground.phase }, { on := 10, ground := Ground.phase }, { on := 11, ground := Ground.phase }, { on := 12, ground := Ground.phase }, { on := 13, ground := Ground.phase }, { on := 14, ground := Ground.phase }, { on := 15, ground := Ground.phase }, { on := 16, ground := Ground.phase }, { on := 17, ground := Ground.phase }, { on := 18, ground := Ground.phase }], guard := none }) (v := _) rfl (by kernel_rfl) (by kernel_rfl) (by kernel_rfl) (fun _ _ _ h => h) (Or.inl ⟨by rfl, ?hyA31⟩) ?reA31
    case hyA31 => (intro W hSw; (try dsimp only at hSw); go_simp; try with_reducible rfl)
    try simp only [Act.put, List.setIfInBounds_toArray, List.set_cons_zero, List.set_cons_succ]
    refine wpAnyJ_ready (rs := [21]) (by kernel_rfl) (by simp) ?_
    refine AllReadyJ.cons (o := { dst := none, op := Op.store 39 (Operand.tmp 34) (Operand.tmp 30), type := 0, pos := "ids.go:136", after := #[{ on := 20, ground := Ground.data }, { on := 15, ground := Ground.data }, { on := 18, ground := Ground.chain }, { on := 0, ground := Ground.phase }, { on := 1, ground := Ground.phase }, { on := 2, ground := Ground.phase }, { on := 3, ground := Ground.phase }, { on := 4, ground := Ground.phase }, { on := 5, ground := Ground.phase }, { on := 6, ground := Ground.phase }, { on := 7, ground := Ground.phase }, { on := 8, ground := Ground.phase }, { on := 9, ground := Ground.phase }, { on := 10, ground := Ground.phase }, { on := 11, ground := Ground.phase }, { on := 12, ground := Ground.phase }, { on := 13, ground := Ground.phase }, { on := 14, ground := Ground.phase }, { on := 15, ground := Ground.phase }, { on := 16, ground := Ground.phase }, { on := 17, ground := Ground.phase }, { on := 18, ground := Ground.phase }], guard := none }) rfl (fun K hK => ?_) AllReadyJ.nil
    go_simp
    refine hK.out _ _ (fun h => absurd h (by decide)) ?_
    clear hK K
    try simp only [Act.put, List.setIfInBounds_toArray, List.set_cons_zero, List.set_cons_succ]
    refine wpAnyJ_done (by kernel_rfl) ?_ _
    refine NoPanic.normal ?_
    go_wp2_with fail
    go_end0
    have F := H.out.fin T10.out
    exact ⟨rfl, CV.out _ ⟨_, _, F.1, T10.out.2.2.2.1, T10.out.2.2.2.2.1, F.2⟩⟩
  refine AllReadyJ.cons (o := { dst := some 29, op := Op.buildSlice 39 1 #[(0, Operand.tmp 28)], type := 39, pos := "ids.go:136", after := #[{ on := 13, ground := Ground.data }], guard := none }) rfl (fun K hK => ?_) AllReadyJ.nil
  go_simp
  refine hK.out _ _ (fun _ _ => (mid_cells (H.out.mid (T0.out.alloc _))).1) ?_
  clear hK K
  try simp only [Act.put, List.setIfInBounds_toArray, List.set_cons_zero, List.set_cons_succ]
  refine wpAnyJ_ready (rs := [7]) (by kernel_rfl) (by simp) ?_
  refine AllReadyJ.cons (o := { dst := some 22, op := Op.buildSlice 45 1 #[(0, Operand.tmp 21)], type := 45, pos := "ids.go:136", after := #[{ on := 6, ground := Ground.data }], guard := none }) rfl (fun K hK => ?_) AllReadyJ.nil
  go_simp
  refine hK.out _ _ (fun _ _ => (mid_cells (H.out.mid ((T0.out.alloc _).alloc _))).1) ?_
  clear hK K
  try simp only [Act.put, List.setIfInBounds_toArray, List.set_cons_zero, List.set_cons_succ]
  refine wpAnyJ_ready (rs := [8]) (by kernel_rfl) (by simp) ?_
  refine AllReadyJ.cons (o := { dst := some 23, op := Op.call { callee := Callee.builtin Builtin.append, args := #[Operand.tmp 20, Operand.tmp 22], argTypes := #[45, 45] }, type := 45, pos := "ids.go:136", after := #[{ on := 5, ground := Ground.data }, { on := 7, ground := Ground.data }], guard := none }) rfl (fun K hK => ?_) AllReadyJ.nil
  refine step_append_lies _ rfl (.tmp 20) (.tmp 22) 45 rfl 0 3 i3 (.int .i64 0) 1 8 Tryz.underlying45 hi3 hx0 hx1 hx2 rfl (by decide) (.slice aog gs.length cg) gs.length (ic gs) (by simp [Act.eval]) ((T0.out.alloc _).alloc _).1 ⟨w1.heap.size + 1, 0, none⟩ 1 1 [.int .i64 (x : Int)] (by simp [Act.eval]) rfl (by intro j u hj; match j, hj with | 0, hj => simp at hj; subst hj; simp [Addr.add]) (by intro u hu; simp at hu; subst hu; rfl) (by omega) (by unfold maxLen; omega) (by omega) (Nat.zero_le _) _ rfl ?_; intro g9 c9 w9 ho9 hg9 ha9 _
  have T9 := hide (((T0.out.alloc _).alloc _).growG (x := x) ho9 hg9 ha9)
  have s0 : w9.cell? ⟨w1.heap.size, 0, none⟩ = some (.int .i64 0) := hg9.cell (by simp) (fun e => by have := (HGL.out _ e.symm).2; first | omega | (simp at this <;> omega))
  have s1 : w9.cell? ⟨w1.heap.size, 1, none⟩ = some (.int .i64 0) := hg9.cell (by simp) (fun e => by have := (HGL.out _ e.symm).2; first | omega | (simp at this <;> omega))
  clear ho9 hg9 ha9
  refine hK.out _ _ (fun _ _ => (mid_cells (H.out.mid T9.out)).1) ?_
  clear hK K
  try simp only [Act.put, List.setIfInBounds_toArray, List.set_cons_zero, List.set_cons_succ]
  refine wpAnyJ_ready (rs := [15]) (by kernel_rfl) (by simp) ?_
  refine AllReadyJ.cons (o := { dst := some 30, op := Op.call { callee := Callee.builtin Builtin.append, args := #[Operand.tmp 27, Operand.tmp 29], argTypes := #[39, 39] }, type := 39, pos := "ids.go:136", after := #[{ on := 12, ground := Ground.data }, { on := 14, ground := Ground.data }, { on := 8, ground := Ground.chain }], guard := none }) rfl (fun K hK => ?_) AllReadyJ.nil
  refine step_append_lies _ rfl (.tmp 27) (.tmp 29) 39 rfl 0 29 i41 (.agg #[.int .i64 0, .int .i64 0]) 2 16 Tryz.underlying39 hi41 hy0 hy1 hy2 rfl (by decide) (.slice aol lv.length cl) lv.length (ec lv) (by simp [Act.eval]) T9.out.2.1 ⟨w1.heap.size, 0, none⟩ 1 1 [.int .i64 0, .int .i64 0] (by simp [Act.eval]) rfl (by intro j u hj; match j, hj with | 0, hj => simp at hj; subst hj; simpa [Addr.add] using s0 | 1, hj => simp at hj; subst hj; simpa [Addr.add] using s1) (by intro u hu; simp at hu; subst hu; rfl) (by omega) (by unfold maxLen; omega) (by omega) (Nat.zero_le _) _ rfl ?_; intro g8 c8 w8 ho8 hg8 ha8 _
  have T10 := hide (T9.out.growL (a := 0) (b := 0) ho8 hg8 ha8)
  clear ho8 hg8 ha8
  refine hK.out _ _ (fun _ _ => (mid_cells (H.out.mid T10.out)).1) ?_
  clear hK K
  obtain ⟨⟨d1, d2⟩, y1, y2⟩ := mid_cells (H.out.mid T10.out)
  try simp only [Act.put, List.setIfInBounds_toArray, List.set_cons_zero, List.set_cons_succ]
  refine' wpAnyJ_takeW (i := 16) (oi := { dst := some 31, op := Op.nilCheck (Operand.tmp 15), type := 0, pos := "ids.go:136", after := #[{ on := 0, ground := Ground.data }, { on := 0, ground := Ground.phase }, { on := 1, ground := Ground.textOnly Departure.lateStores }, { on := 2, ground := Ground.phase }, { on := 3, ground := Ground.phase }, { on := 4, ground := Ground.phase }, { on := 5, ground := Ground.phase }, { on := 6, ground := Ground.phase }, { on := 7, ground := Ground.phase }, { on := 8, ground := Ground.phase }, { on := 9, ground := Ground.textOnly Departure.lateStores }, { on := 10, ground := Ground.textOnly Departure.lateStoresUnsure }, { on := 11, ground := Ground.textOnly Departure.lateStoresUnsure }, { on := 12, ground := Ground.phase }, { on := 13, ground := Ground.textOnly Departure.lateStores }, { on := 14, ground := Ground.textOnly Departure.lateStoresUnsure }, { on := 15, ground := Ground.phase }], guard := none }) (v := _) rfl (by kernel_rfl) (by kernel_rfl) (by kernel_rfl) (fun _ _ _ h => h) (Or.inl ⟨by rfl, ?hyA32⟩) ?reA32
  case hyA32 => (intro W hSw; (try dsimp only at hSw); go_simp; try with_reducible rfl)
  try simp only [Act.put, List.setIfInBounds_toArray, List.set_cons_zero, List.set_cons_succ]
  refine' wpAnyJ_takeW (i := 17) (oi := { dst := some 32, op := Op.fieldAddr 163 (Operand.tmp 31) 1, type := 0, pos := "ids.go:136", after := #[{ on := 16, ground := Ground.data }, { on := 0, ground := Ground.phase }, { on := 1, ground := Ground.textOnly Departure.lateStores }, { on := 2, ground := Ground.phase }, { on := 3, ground := Ground.phase }, { on := 4, ground := Ground.phase }, { on := 5, ground := Ground.phase }, { on := 6, ground := Ground.phase }, { on := 7, ground := Ground.phase }, { on := 8, ground := Ground.phase }, { on := 9, ground := Ground.textOnly Departure.lateStores }, { on := 10, ground := Ground.textOnly Departure.lateStoresUnsure }, { on := 11, ground := Ground.textOnly Departure.lateStoresUnsure }, { on := 12, ground := Ground.phase }, { on := 13, ground := Ground.textOnly Departure.lateStores }, { on := 14, ground := Ground.textOnly Departure.lateStoresUnsure }, { on := 15, ground := Ground.phase }], guard := none }) (v := _) rfl (by kernel_rfl) (by kernel_rfl) (by kernel_rfl) (fun _ _ _ h => h) (Or.inl ⟨by rfl, ?hyA33⟩) ?reA33
  case hyA33 => (intro W hSw; (try dsimp only at hSw); go_simp; try with_reducible rfl)
  try simp only [Act.put, List.setIfInBounds_toArray, List.set_cons_zero, List.set_cons_succ]
  refine wpAnyJ_ready (rs := [18]) (by kernel_rfl) (by simp) ?_
  refine AllReadyJ.cons (o := { dst := none, op := Op.store 45 (Operand.tmp 32) (Operand.tmp 23), type := 0, pos := "ids.go:136", after := #[{ on := 17, ground := Ground.data }, { on := 8, ground := Ground.data }, { on := 15, ground := Ground.chain }, { on := 0, ground := Ground.phase }, { on := 1, ground := Ground.textOnly Departure.lateStores }, { on := 2, ground := Ground.phase }, { on := 3, ground := Ground.phase }, { on := 4, ground := Ground.phase }, { on := 5, ground := Ground.phase }, { on := 6, ground := Ground.phase }, { on := 7, ground := Ground.phase }, { on := 8, ground := Ground.phase }, { on := 9, ground := Ground.textOnly Departure.lateStores }, { on := 10, ground := Ground.textOnly Departure.lateStoresUnsure }, { on := 11, ground := Ground.textOnly Departure.lateStoresUnsure }, { on := 12, ground := Ground.phase }, { on := 13, ground := Ground.textOnly Departure.lateStores }, { on := 14, ground := Ground.textOnly Departure.lateStoresUnsure }, { on := 15, ground := Ground.phase }], guard := none }) rfl (fun K hK => ?_) AllReadyJ.nil
  go_simp
  refine hK.out _ _ (fun h => absurd h (by decide)) ?_
  clear hK K
  try simp only [Act.put, List.setIfInBounds_toArray, List.set_cons_zero, List.set_cons_succ]
  refine' wpAnyJ_takeW (i := 19) (oi := { dst := some 33, op := Op.nilCheck (Operand.tmp 16), type := 0, pos := "ids.go:136", after := #[{ on := 1, ground := Ground.data }, { on := 0, ground := Ground.phase }, { on := 1, ground := Ground.phase }, { on := 2, ground := Ground.phase }, { on := 3, ground := Ground.phase }, { on := 4, ground := Ground.phase }, { on := 5, ground := Ground.phase }, { on := 6, ground := Ground.phase }, { on := 7, ground := Ground.phase }, { on := 8, ground := Ground.phase }, { on := 9, ground := Ground.phase }, { on := 10, ground := Ground.phase }, { on := 11, ground := Ground.phase }, { on := 12, ground := Ground.phase }, { on := 13, ground := Ground.phase }, { on := 14, ground := Ground.phase }, { on := 15, ground := Ground.phase }, { on := 16, ground := Ground.phase }, { on := 17, ground := Ground.phase }, { on := 18, ground := Ground.phase }], guard := none }) (v := _) rfl (by kernel_rfl) (by kernel_rfl) (by kernel_rfl) (fun _ _ _ h => h) (Or.inl ⟨by rfl, ?hyA34⟩) ?reA34
  case hyA34 => (intro W hSw; (try dsimp only at hSw); go_simp; try with_reducible rfl)
  try simp only [Act.put, List.setIfInBounds_toArray, List.set_cons_zero, List.set_cons_succ]
  refine' wpAnyJ_takeW (i := 20) (oi := { dst := some 34, op := Op.fieldAddr 163 (Operand.tmp 33) 2, type := 0, pos := "ids.go:136", after := #[{ on := 19, ground := Ground.data }, { on := 0, ground := Ground.phase }, { on := 1, ground := Ground.phase }, { on := 2, ground := Ground.phase }, { on := 3, ground := Ground.phase }, { on := 4, ground := Ground.phase }, { on := 5, ground := Ground.phase }, { on := 6, ground := Ground.phase }, { on := 7, ground := Ground.phase }, { on := 8, ground := Ground.phase }, { on := 9, ground := Ground.phase }, { on := 10, ground := Ground.phase }, { on := 11, ground := Ground.phase }, { on := 12, ground := Ground.phase }, { on := 13, ground := Ground.phase }, { on := 14, ground := Ground.phase }, { on := 15, ground := Ground.phase }, { on := 16, ground := Ground.phase }, { on := 17, ground := Ground.phase }, { on := 18, ground := Ground.phase }], guard := none }) (v := _) rfl (by kernel_rfl) (by kernel_rfl) (by kernel_rfl) (fun _ _ _ h => h) (Or.inl ⟨by rfl, ?hyA35⟩) ?reA35
  case hyA35 => (intro W hSw; (try dsimp only at hSw); go_simp; try with_reducible rfl)
  try simp only [Act.put, List.setIfInBounds_toArray, List.set_cons_zero, List.set_cons_succ]
  refine wpAnyJ_ready (rs := [21]) (by kernel_rfl) (by simp) ?_
  refine AllReadyJ.cons (o := { dst := none, op := Op.store 39 (Operand.tmp 34) (Operand.tmp 30), type := 0, pos := "ids.go:136", after := #[{ on := 20, ground := Ground.data }, { on := 15, ground := Ground.data }, { on := 18, ground := Ground.chain }, { on := 0, ground := Ground.phase }, { on := 1, ground := Ground.phase }, { on := 2, ground := Ground.phase }, { on := 3, ground := Ground.phase }, { on := 4, ground := Ground.phase }, { on := 5, ground := Ground.phase }, { on := 6, ground := Ground.phase }, { on := 7, ground := Ground.phase }, { on := 8, ground := Ground.phase }, { on := 9, ground := Ground.phase }, { on := 10, ground := Ground.phase }, { on := 11, ground := Ground.phase }, { on := 12, ground := Ground.phase }, { on := 13, ground := Ground.phase }, { on := 14, ground := Ground.phase }, { on := 15, ground := Ground.phase }, { on := 16, ground := Ground.phase }, { on := 17, ground := Ground.phase }, { on := 18, ground := Ground.phase }], guard := none }) rfl (fun K hK => ?_) AllReadyJ.nil
  go_simp
  refine hK.out _ _ (fun h => absurd h (by decide)) ?_
  clear hK K
  try simp only [Act.put, List.setIfInBounds_toArray, List.set_cons_zero, List.set_cons_succ]
  refine wpAnyJ_done (by kernel_rfl) ?_ _
  refine NoPanic.normal ?_
  go_wp2_with fail
  go_end0
  have F := H.out.fin T10.out
  exact ⟨rfl, CV.out _ ⟨_, _, F.1, T10.out.2.2.2.1, T10.out.2.2.2.2.1, F.2⟩⟩
end Go.Proofs.YtafmiolehlagkaaGreat
