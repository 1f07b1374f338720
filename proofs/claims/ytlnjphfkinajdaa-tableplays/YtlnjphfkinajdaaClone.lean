/-
  Clone.
-/
import Derived.Test.YtlnjphfkinajdaaCln
namespace Go.Proofs.Ytlnjphfkinajdaa
open Go.RowKit
/-- Columns that are copied one by one. -/
def Cm (B : Nat) (W : World) (ko : Nat) (lab : Nat → Nat) (done : List Value) (cols : List (List Int)) : Prop :=
  W.ownsRow B 27 1 (.slice (some ⟨ko, 0, none⟩) cols.length cols.length) cols.length (done ++ List.replicate (cols.length - done.length) (.slice none 0 0)) ∧
  (∀ i (hi : i < done.length) (hi2 : i < cols.length), W.ownsRow B 2 1 done[i] cols[i].length (zc cols[i])) ∧ lab ko = 3 ∧ ∀ i (hi : i < done.length) k, done[i].ownBlock = some k → lab k = 4 + i
section
variable {B ko : Nat} {W W' : World} {lab : Nat → Nat} {done : List Value} {cols : List (List Int)} {v : Value}
theorem Cm.start (h : W.ownsRow B 27 1 (.slice (some ⟨ko, 0, none⟩) cols.length cols.length) cols.length (List.replicate cols.length (.slice none 0 0))) : Cm B W ko (fun _ => 3) [] cols :=
  ⟨by simpa using h, fun i hi => by simp at hi, rfl, fun i hi => by simp at hi⟩
theorem Cm.later (h : Cm B W ko lab done cols) (hb : Below W.heap.size W W') : Cm B W' ko lab done cols :=
  ⟨own_later h.1 hb, fun i hi hi2 => own_later (h.2.1 i hi hi2) hb, h.2.2⟩
theorem Cm.step (h : Cm B W ko lab done cols) (hB : B ≤ W.heap.size) (hj : done.length < cols.length) (hv : W'.ownsRow W.heap.size 2 1 v cols[done.length].length (zc cols[done.length])) (hb : Below W.heap.size W W') :
    (W'.cell? ⟨ko, done.length, none⟩ = some (.slice none 0 0) ∧ W'.frozen? ⟨ko, done.length, none⟩ = false) ∧ Cm B (W'.setCell ⟨ko, done.length, none⟩ v) ko (ext lab W.heap.size (4 + done.length)) (done ++ [v]) cols ∧ Below B W (W'.setCell ⟨ko, done.length, none⟩ v) := by
  obtain ⟨h1, h2, h3, h4⟩ := h
  have hk := h1.lt ko rfl
  have h1' := own_later h1 hb
  have hm : Mv W' (W'.setCell ⟨ko, done.length, none⟩ v) (fun k => k = ko) := Mv.set (S := fun k => k = ko) (Mv.refl _ _) rfl _ _
  refine ⟨⟨?_, h1'.frozenAt _⟩, ⟨?_, fun i hi hi2 => ?_, ?_, fun i hi k e => ?_⟩, (hb.mono hB).trans (hm.below (Nat.le_trans hB hb.size) (fun k e => by omega))⟩
  · rw [h1'.cellAt _ (by omega), List.getElem?_append_right (Nat.le_refl _), Nat.sub_self, List.getElem?_replicate, if_pos (by omega)]
  · have := (h1'.stored done.length v).1
    have e : (done ++ List.replicate (cols.length - done.length) (Value.slice none 0 0)).set done.length v = (done ++ [v]) ++ List.replicate (cols.length - (done ++ [v]).length) (Value.slice none 0 0) := by
      obtain ⟨m, hm⟩ : ∃ m, cols.length - done.length = m + 1 := ⟨cols.length - done.length - 1, by omega⟩
      have hm' : cols.length - (done ++ [v]).length = m := by simp; omega
      rw [hm, hm', List.replicate_succ, List.set_append_right _ _ (Nat.le_refl _)]
      simp
    rw [e] at this
    exact this
  · by_cases e : i < done.length
    · rw [List.getElem_append_left e]
      have := own_later (h2 i e hi2) hb
      refine hm.own this (fun k e1 e2 => ?_)
      have := h4 i e k e1
      subst e2
      omega
    · have : i = done.length := by simp at hi; omega
      subst this
      simp only [List.getElem_concat_length]
      exact own_lower (hm.own hv (fun k e1 e2 => by have := (hv.lt k e1).1; omega)) hB
  · rw [ext_old hk.2]; exact h3
  · by_cases e0 : i < done.length
    · rw [List.getElem_append_left e0] at e
      rw [ext_old ((h2 i e0 (by omega)).lt k e).2]
      exact h4 i e0 k e
    · have : i = done.length := by simp at hi; omega
      subst this
      simp only [List.getElem_concat_length] at e
      exact ext_new (hv.lt k e).1
theorem Cm.finish {W1 W2 : World} {g' n : Nat} {rows : List (Int × Int)} {f : Int × Int → Option Nat} (h : Cm B W ko lab done cols) (_hB : B ≤ W.heap.size) (hd : done.length = cols.length) (hv : W1.ownsRow W.heap.size 32 2 v rows.length (ez rows)) (hb : Below W.heap.size W W1) (hp : Mp W2 g' n f) (hg : W1.heap.size ≤ g') (hb2 : Below W1.heap.size W1 W2)
    (hix : Ix rows f) (hcl : ∀ c ∈ cols, c.length = rows.length) (hib : ∀ e ∈ rows, InB e) (hr : rows.length ≤ 200) (hc : cols.length ≤ 48) :
    Tb (W2.alloc (.cells #[v, .map (some g'), .slice (some ⟨ko, 0, none⟩) cols.length cols.length] 74)) (fun k => B ≤ k) W2.heap.size n rows cols ∧ Below W.heap.size W (W2.alloc (.cells #[v, .map (some g'), .slice (some ⟨ko, 0, none⟩) cols.length cols.length] 74)) := by
  obtain ⟨h1, h2, h3, h4⟩ := h
  have hk := h1.lt ko rfl
  have s1 := hb.size
  have s2 := hb2.size
  have sp := hp.lt
  have ha := below_alloc W2 (.cells #[v, .map (some g'), .slice (some ⟨ko, 0, none⟩) cols.length cols.length] 74)
  have hb3 := below_on hb2 ha
  have hb4 := below_on hb hb3
  rw [hd] at h1
  simp only [Nat.sub_self, List.replicate_zero, List.append_nil] at h1
  refine ⟨⟨fun k => if k < W.heap.size then lab k else if k < W1.heap.size then 1 else if k < W2.heap.size then 2 else 0, v, g', _, done, f, ⟨heap_alloc_new W2 _, own_lower (own_later hv hb3) (Nat.zero_le _), hp.same (ha.block _ sp), ?_, hd, fun j hj hj2 => own_lower (own_later (h2 j hj hj2) hb4) (Nat.zero_le _), ?_, fun k e => ?_, ?_, fun k e => ?_, fun j hj k e => ?_⟩, hix, hcl, ⟨by omega, fun k e => ?_, by omega, fun k e => ?_, fun v' hv' k e => ?_⟩, hib, hr, hc⟩, hb4⟩
  · have := own_lower (own_later h1 hb4) (Nat.zero_le _)
    rw [hd]
    exact this
  · dsimp only
    rw [if_neg (by omega), if_neg (by omega), if_neg (by omega)]
  · have := hv.lt k e
    dsimp only
    rw [if_neg (by omega), if_pos (by omega)]
  · dsimp only
    rw [if_neg (by omega), if_neg (by omega), if_pos (by omega)]
  · simp only [Value.ownBlock, Option.some.injEq] at e
    subst e
    dsimp only
    rw [if_pos hk.2]
    exact h3
  · have := ((h2 j hj (by omega)).lt k e).2
    dsimp only
    rw [if_pos this]
    exact h4 j hj k e
  · have := (hv.lt k e).1
    omega
  · simp only [Value.ownBlock, Option.some.injEq] at e
    subst e
    exact hk.1
  · obtain ⟨j, hj, rfl⟩ := List.getElem_of_mem hv'
    exact ((h2 j hj (by omega)).lt k e).1
end
set_option maxHeartbeats 2000000 in
set_option maxRecDepth 100000 in
theorem cloned_any {w : World} {S : Nat → Prop} {g n : Nat} {rows : List (Int × Int)} {cols : List (List Int)} (h : Tb w S g n rows cols) : Calls Try.prog 17 #[.pointer (some ⟨g, 0, none⟩)] w fun e w' => ∃ g', e = .returned (.pointer (some ⟨g', 0, none⟩)) ∧ Tb w' (fun k => w.heap.size ≤ k) g' n rows cols ∧ Below w.heap.size w w' := by
  obtain ⟨lab, vr, gm, vc, cs, f, hm, hix, hcl, -, hib, hr2, hc48⟩ := h
  have HM := hide hm
  have HX := hide (And.intro hix (And.intro hcl hib))
  have hcs := hm.2.2.2.2.1
  obtain ⟨i0, hi0, hz0, hz1, hz2⟩ := info_parts info27
  obtain ⟨ar, cr, rfl⟩ := own_len hm.2.1
  obtain ⟨ac, cc, rfl⟩ := own_len hm.2.2.2.1
  have CC : Hid (∀ W, Below w.heap.size w W → W.cell? ⟨g, 0, none⟩ = some (.slice ar rows.length cr) ∧ W.cell? ⟨g, 1, none⟩ = some (.map (some gm)) ∧ W.cell? ⟨g, 2, none⟩ = some (.slice ac cs.length cc)) := fun W hb => (HM.out.later hb).cell
  clear hm hcl hix hib
  obtain ⟨c0, c1, c2⟩ := CC.out _ (Below.refl _ _)
  go_enter Try.func17, Try.ntmps17
  go_wp2_with (at_make; refine wpList_make_full _ rfl _ _ 26 rfl w.heap.size 27 i0 (.slice none 0 0) 1 Try.underlying26 hi0 hz0 hz1 .i64 .i64 _ _ cs.length rfl rfl ?c1 ?c2 ?c3 ?c4 ?c5 ?_)
  case c1 => omega
  case c2 => omega
  case c3 => rw [hz2]; omega
  case c4 => unfold maxLen; omega
  case c5 => simp
  intro w1 hown hgrow
  rw [toList_madeCells_one] at hown
  clear c0 c1 c2
  have B1 : Below w.heap.size w w1 := (Below.refl _ _).grown hgrow (Nat.le_refl _) (by intro k hk; cases hk)
  obtain ⟨ko, hko⟩ : ∃ k, k = w.heap.size := ⟨_, rfl⟩
  rw [← hko]
  have HO : Hid (Cm w.heap.size w1 ko (fun _ => 3) [] cols) := by
    refine Cm.start ?_
    rw [hko]
    exact hown
  have HB1 := hide B1
  obtain ⟨d0, d1, d2⟩ := CC.out w1 B1
  clear hown hgrow B1 hko
  go_upto_block 0 with fail
  clear d0 d1 d2
  go_wp2_with fail
  go_loopw [17] (fun v17 W => ∃ (lb : Nat → Nat) (done : List Value) (j : Nat), j ≤ cols.length ∧ Hid (done.length = j) ∧ v17 = .int .i64 (j : Int) ∧ Hid (Cm w.heap.size W ko lb done cols) ∧ Hid (Below w.heap.size w W)) (fun v17 _ => cols.length - (intOf v17).toNat)
  case atStart => exact ⟨_, [], 0, Nat.zero_le _, rfl, rfl, HO, HB1⟩
  case round =>
    obtain ⟨lb, done, j, hjl, hdj, rfl, HR, HB⟩ := hrel
    by_cases hj : j < cols.length
    · have t1 : (j : Int) < (cols.length : Int) := by omega
      have hmw := HM.out.later HB.out
      obtain ⟨gc, cc', ec, -, -⟩ := own_form hmw.2.2.2.1 (by omega)
      simp only [Value.slice.injEq] at ec
      obtain ⟨rfl, -, rfl⟩ := ec
      have e1 := own_slices hmw.2.2.2.1 j (by omega)
      have hrow := hmw.2.2.2.2.2.1 j (by omega) hj
      have hlen : cols[j].length = rows.length := HX.out.2.1 _ (List.getElem_mem hj)
      have J : Hid (Calls Try.prog 27 #[cs[j]] wr fun e w' => ∃ v', e = .returned v' ∧ Hid (w'.ownsRow wr.heap.size 2 1 v' cols[j].length (zc cols[j]) ∧ Below wr.heap.size wr w')) :=
        (clone_any _ _ _ wr hrow (by omega)).mono (fun e w' ⟨v', h1, h2, h3⟩ => ⟨v', h1, h2, h3⟩)
      generalize cs[j]'(by omega) = vj at *
      clear hmw hrow
      go_wp2_with fail
      refine J.out.mono ?_
      rintro e w2 ⟨v', rfl, HV⟩
      have hd := hdj.out
      subst hd
      obtain ⟨⟨f1, f2⟩, HC2, HB2⟩ := HR.out.step HB.out.size hj HV.out.1 HV.out.2
      have HC2 := hide HC2
      have HB2 := hide HB2
      obtain ⟨av, cv, rfl⟩ := own_len HV.out.1
      clear hlen
      go_wp2_with fail
      go_roundw
      case rel => exact ⟨_, done ++ [_], done.length + 1, by omega, hide (by simp), by go_num, HC2, HB.out.trans HB2.out⟩
      case measure => simp [intOf]; omega
    · obtain rfl : j = cols.length := by omega
      have t1 : ¬ (cols.length : Int) < (cols.length : Int) := by omega
      have hbd : Hid (Below w.heap.size w wr.drew) := below_on HB.out (below_drew wr)
      have J28 : Hid (∀ W, Below w.heap.size w W → Calls Try.prog 28 #[.slice ar rows.length cr] W fun e w' => ∃ v', e = .returned v' ∧ Hid (w'.ownsRow W.heap.size 32 2 v' rows.length (ez rows) ∧ Below W.heap.size W w' ∧ Below w.heap.size w w') ∧ w'.cell? ⟨g, 0, none⟩ = some (.slice ar rows.length cr) ∧ w'.cell? ⟨g, 1, none⟩ = some (.map (some gm))) := fun W hW =>
        (clone_ents _ rows W (own_later HM.out.2.1 hW) (by omega)).mono (fun e w' ⟨v', h1, h2, h3⟩ => ⟨v', h1, ⟨h2, h3, below_on hW h3⟩, (CC.out _ (below_on hW h3)).1, (CC.out _ (below_on hW h3)).2.1⟩)
      have J29 : Hid (∀ W, Below w.heap.size w W → Calls Try.prog 29 #[.map (some gm)] W fun e w' => ∃ g', e = .returned (.map (some g')) ∧ Hid (W.heap.size ≤ g' ∧ Mp w' g' n f ∧ Below W.heap.size W w') ∧ w'.cell? ⟨g, 0, none⟩ = some (.slice ar rows.length cr) ∧ w'.cell? ⟨g, 1, none⟩ = some (.map (some gm))) := fun W hW =>
        (clone_map gm n f W (HM.out.later hW).2.2.1).mono (fun e w' ⟨g', h1, h2, h3, h4⟩ => ⟨g', h1, ⟨Nat.le_of_eq h2, h3, h4⟩, (CC.out _ (below_on hW h4)).1, (CC.out _ (below_on hW h4)).2.1⟩)
      obtain ⟨d0, d1, -⟩ := CC.out _ hbd.out
      go_wp2_with fail
      go_region_held3 (fun W => W.cell? ⟨g, 0, none⟩ = some (.slice ar rows.length cr) ∧ W.cell? ⟨g, 1, none⟩ = some (.map (some gm))) (go_keep) (first | (go_at_call 29; refine (J29.out _ HH.out.2.2).mono ?_; rintro e w3 ⟨g3, rfl, HH3, y0, y1⟩) | (go_at_call 28; refine (J28.out _ hbd.out).mono ?_; rintro e w2 ⟨v2, rfl, HH, x0, x1⟩; obtain ⟨a2, k2, rfl⟩ := own_len HH.out.1))
      all_goals
        go_wp2_with fail
        go_ret
        have hfin := (HR.out.later (below_drew wr)).finish hbd.out.size hdj.out HH.out.1 HH.out.2.1 HH3.out.2.1 HH3.out.1 HH3.out.2.2 HX.out.1 HX.out.2.1 HX.out.2.2 hr2 hc48
        exact ⟨_, rfl, hfin.1, below_on hbd.out hfin.2⟩
section
variable {B : Nat} {N : Nat → Prop} {W : World} {g n : Nat} {rows : List (Int × Int)} {cols : List (List Int)}
/-- A table and its clone: two that are apart. -/
theorem tf_clone (h : Tf B N W g n rows cols) : Calls Try.prog 17 #[.pointer (some ⟨g, 0, none⟩)] W fun e w' => ∃ g', e = .returned (.pointer (some ⟨g', 0, none⟩)) ∧ (∃ S, Tb w' S g n rows cols ∧ (∀ k, S k → B ≤ k ∧ k < W.heap.size ∧ ¬ N k)) ∧ Tb w' (fun k => W.heap.size ≤ k) g' n rows cols ∧ Below W.heap.size W w' := by
  obtain ⟨S, h1, h2, h3, h4⟩ := h
  refine (cloned_any h1).mono ?_
  rintro e w' ⟨g', rfl, t1, t2⟩
  exact ⟨g', rfl, ⟨S, h1.later t2, h2⟩, t1, t2⟩
end
end Go.Proofs.Ytlnjphfkinajdaa
