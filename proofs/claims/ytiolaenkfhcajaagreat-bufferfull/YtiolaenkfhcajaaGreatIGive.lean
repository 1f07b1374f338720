/-
  Give.
-/
import Derived.Test.YtiolaenkfhcajaaGreatMgC
namespace Go.Proofs.YtiolaenkfhcajaaGreat
open Go.RowKit
set_option maxRecDepth 100000
/-- The free row grows. -/
theorem Pm.grow_free {w W W' : World} {g n g9 c9 x : Nat} {vg vl vf : Value} {gs fr : List Nat} {lv : List (Nat × Nat)} (h : Pm w g n vg vl vf gs fr lv) (hb : Below w.heap.size w W) (ho : W'.ownsRow 0 3 1 (.slice (some ⟨g9, 0, none⟩) (fr.length + 1) c9) (fr.length + 1) (ic fr ++ [.int .i64 (x : Int)])) (hg : W.grownBy W' vf.ownBlock) (ha : vf.ownBlock = some g9 ∨ g9 = W.heap.size) :
    W'.heap[g]? = some (.cells #[.int .i64 (n : Int), vg, vl, vf] 82 (0, 0)) ∧ Pm (W'.setCell ⟨g, 3, none⟩ (.slice (some ⟨g9, 0, none⟩) (fr.length + 1) c9)) g n vg vl (.slice (some ⟨g9, 0, none⟩) (fr.length + 1) c9) gs (fr ++ [x]) lv ∧ (∀ k, (Value.slice (some ⟨g9, 0, none⟩) (fr.length + 1) c9).ownBlock = some k → vf.ownBlock = some k ∨ w.heap.size ≤ k) ∧ Mv w (W'.setCell ⟨g, 3, none⟩ (.slice (some ⟨g9, 0, none⟩) (fr.length + 1) c9)) (fun k => k = g ∨ vf.ownBlock = some k) := by
  have hW := h.later hb
  have hlt := h.lt
  have hsz := hb.size
  obtain ⟨a1, a2, a3, a4, ⟨a5, a6, a7⟩, a8, a9, a10⟩ := hW
  have hg1 : W'.heap[g]? = some (.cells #[.int .i64 (n : Int), vg, vl, vf] 82 (0, 0)) := (hg.block g (by omega) (fun e => a7 e.symm)).trans a1
  have n3 : (Value.slice (some ⟨g9, 0, none⟩) (fr.length + 1) c9).ownBlock ≠ some g := fun e => by
    simp only [Value.ownBlock, Option.some.injEq] at e
    rcases ha with h | h
    · exact a7 (by rw [h, e])
    · omega
  have loc : ∀ k, (Value.slice (some ⟨g9, 0, none⟩) (fr.length + 1) c9).ownBlock = some k → vf.ownBlock = some k ∨ W.heap.size ≤ k := fun k e => by
    simp only [Value.ownBlock, Option.some.injEq] at e
    rcases ha with h | h
    · exact .inl (by rw [h, e])
    · exact .inr (by omega)
  refine ⟨hg1, ⟨?_, own_set (own_kept a2 hg (fun k e1 e2 => a9 k e1 e2)) a5, own_set (own_kept a3 hg (fun k e1 e2 => a10 k e1 e2)) a6, ?_, ⟨a5, a6, n3⟩, a8, fun k e1 e2 => ?_, fun k e1 e2 => ?_⟩, fun k e => (loc k e).imp id (fun h => by omega), ((Mv.of_below hb _).grown hg (fun k _ e => .inr e)).set (.inl rfl) _ _⟩
  · rw [heap_setCell_same W' g 3 _ 82 _ hg1]
    rfl
  · rw [List.length_append, ic_append]
    exact own_set ho n3
  · rcases loc k e2 with h | h
    · exact a9 k e1 h
    · have := (a2.lt k e1).2
      omega
  · rcases loc k e2 with h | h
    · exact a10 k e1 h
    · have := (a3.lt k e1).2
      omega
set_option maxHeartbeats 1000000 in
theorem give_stale {w : World} {S : Nat → Prop} {g n : Nat} {gs fr : List Nat} (a b : Int) (h : Pl w S g n gs fr) (hl : livesOf gs fr a b = false) :
    Calls Tryz.prog 54 #[.pointer (some ⟨g, 0, none⟩), .agg #[.int .i64 a, .int .i64 b]] w fun e w' => e = .returned (.int .i64 41) ∧ Below w.heap.size w w' := by
  have HL := hide (lives_any a b (h.later (below_alloc w (.cells #[.int .i64 a, .int .i64 b] 36))))
  rw [hl] at HL
  clear h hl
  go_enter Tryz.func54, Tryz.ntmps54
  go_wp2_with fail
  refine HL.out.mono ?_
  rintro e w1 ⟨rfl, hb⟩
  have HB := hide (below_on (below_alloc w _) hb)
  clear hb HL
  go_wp2_with fail
  go_ret
  exact ⟨rfl, HB.out⟩
set_option maxHeartbeats 4000000 in
set_option maxRecDepth 100000 in
theorem give_walk (g n i y : Nat) (vg vl vf : Value) (gs fr : List Nat) (lv : List (Nat × Nat)) (w : World) (h : Pm w g n vg vl vf gs fr lv) (hi : i < gs.length) (hil : i < lv.length) (hfl : fr.length ≤ 1000000)
    (hL : Calls Tryz.prog 25 #[.pointer (some ⟨g, 0, none⟩), .agg #[.int .i64 (i : Int), .int .i64 (y : Int)]] (w.alloc (.cells #[.int .i64 (i : Int), .int .i64 (y : Int)] 36)) fun e w' => e = .returned (.bool true) ∧ Below (w.alloc (.cells #[.int .i64 (i : Int), .int .i64 (y : Int)] 36)).heap.size (w.alloc (.cells #[.int .i64 (i : Int), .int .i64 (y : Int)] 36)) w') :
    Calls Tryz.prog 54 #[.pointer (some ⟨g, 0, none⟩), .agg #[.int .i64 (i : Int), .int .i64 (y : Int)]] w fun e w' => e = .returned (.int .i64 0) ∧ ∃ vf', Pm w' g n vg vl vf' (if y = 1000000 then gs.set i 1000001 else gs) (if y = 1000000 then fr else fr ++ [i]) (lv.set i (0, 0)) ∧ (∀ k, vf'.ownBlock = some k → vf.ownBlock = some k ∨ w.heap.size ≤ k) ∧ Mv w w' (fun k => k = g ∨ vg.ownBlock = some k ∨ vl.ownBlock = some k ∨ vf.ownBlock = some k) := by
  obtain ⟨i3, hi3, hx0, hx1, hx2⟩ := info_parts info3
  obtain ⟨gg, cg, rfl, hg1, hg2⟩ := own_form h.2.1 (by omega)
  obtain ⟨gl, cl, rfl, hl1, hl2⟩ := own_form h.2.2.1 (by omega)
  obtain ⟨aof, cf, rfl⟩ := own_len h.2.2.2.1
  have hne : gg ≠ gl := fun e => h.2.2.2.2.2.1 gg rfl (by rw [e]; rfl)
  have hgl : gl ≠ g := fun e => h.2.2.2.2.1.2.1 (by rw [e]; rfl)
  have hll := (h.2.2.1.lt gl rfl).2
  have hlg := (h.2.1.lt gg rfl).2
  have hgw := h.lt
  have HL := hide hL
  have H := hide h
  clear hL h
  go_enter Tryz.func54, Tryz.ntmps54
  go_wp2_with fail
  refine HL.out.mono ?_
  rintro e w1 ⟨rfl, hb⟩
  have hb1 := below_on (below_alloc w (.cells #[.int .i64 (i : Int), .int .i64 (y : Int)] 36)) hb
  have hp1 := H.out.later hb1
  have bx : w1.heap[w.heap.size]? = some (.cells #[.int .i64 (i : Int), .int .i64 (y : Int)] 36 (0, 0)) := (hb.block w.heap.size (by simp)).trans (heap_alloc_new w _)
  obtain ⟨l1, l2⟩ := i_own_ent hp1.2.2.1 i hil
  have lf1 := hp1.2.2.1.frozenAt (i * 2)
  have lf2 := hp1.2.2.1.frozenAt (i * 2 + 1)
  have hp2 := hp1.set_live i 0 0 hil
  have bx2 : ((w1.setCell ⟨gl, i * 2, none⟩ (.int .i64 ((0 : Nat) : Int))).setCell ⟨gl, i * 2 + 1, none⟩ (.int .i64 ((0 : Nat) : Int))).heap[w.heap.size]? = some (.cells #[.int .i64 (i : Int), .int .i64 (y : Int)] 36 (0, 0)) := (heap_setCell_other _ ⟨gl, i * 2 + 1, none⟩ w.heap.size _ (by show w.heap.size ≠ gl; omega)).trans ((heap_setCell_other w1 ⟨gl, i * 2, none⟩ w.heap.size _ (by show w.heap.size ≠ gl; omega)).trans bx)
  have HM2 : Hid (Mv w ((w1.setCell ⟨gl, i * 2, none⟩ (.int .i64 ((0 : Nat) : Int))).setCell ⟨gl, i * 2 + 1, none⟩ (.int .i64 ((0 : Nat) : Int))) (fun k => k = g ∨ (Value.slice (some ⟨gg, 0, none⟩) gs.length cg).ownBlock = some k ∨ (Value.slice (some ⟨gl, 0, none⟩) lv.length cl).ownBlock = some k ∨ (Value.slice aof fr.length cf).ownBlock = some k)) := ((Mv.of_below hb1 _).set (g := gl) (.inr (.inr (.inl rfl))) _ _).set (g := gl) (.inr (.inr (.inl rfl))) _ _
  have ez : ((0 : Nat) : Int) = 0 := rfl
  rw [ez] at hp2 bx2 HM2
  have c := hp1.cell
  obtain ⟨-, c1, c2, c3⟩ := c
  obtain ⟨-, d1, d2, d3⟩ := hp2.cell
  have b0 : w1.cell? ⟨w.heap.size, 0, none⟩ = some (.int .i64 (i : Int)) := by rw [cell_of_row w1 w.heap.size _ _ 36 (0, 0) bx]; rfl
  have q0 : ((w1.setCell ⟨gl, i * 2, none⟩ (.int .i64 0)).setCell ⟨gl, i * 2 + 1, none⟩ (.int .i64 0)).cell? ⟨w.heap.size, 0, none⟩ = some (.int .i64 (i : Int)) := by rw [cell_of_row _ w.heap.size _ _ 36 (0, 0) bx2]; rfl
  have t1 : (i : Int) < (gs.length : Int) := by omega
  have t2 : (i : Int) < (lv.length : Int) := by omega
  have HP2 := hide hp2
  clear hb hp1 hp2 bx HL H
  go_upto_region 3 with fail
  go_region_held3 (fun W => W.cell? ⟨g, 2, none⟩ = some (.slice (some ⟨gl, 0, none⟩) lv.length cl) ∧ W.cell? ⟨w.heap.size, 0, none⟩ = some (.int .i64 (i : Int))) (go_keep) (fail)
  obtain ⟨w2, hw2⟩ : ∃ X, X = ((w1.setCell ⟨gl, i * 2, none⟩ (.int .i64 0)).setCell ⟨gl, i * 2 + 1, none⟩ (.int .i64 0)).drew := ⟨_, rfl⟩
  have HP3 : Hid (Pm w2 g n (.slice (some ⟨gg, 0, none⟩) gs.length cg) (.slice (some ⟨gl, 0, none⟩) lv.length cl) (.slice aof fr.length cf) gs fr (lv.set i (0, 0))) := hw2 ▸ HP2.out.later (below_drew _)
  have HM3 := hide (HM2.out.later (below_drew _))
  have bx3 : w2.heap[w.heap.size]? = some (.cells #[.int .i64 (i : Int), .int .i64 (y : Int)] 36 (0, 0)) := hw2 ▸ bx2
  rw [← hw2] at HM3 ⊢
  clear hw2 HM2 HP2 bx2 c1 c2 c3 d1 d2 d3 b0 q0 l1 l2 lf1 lf2 hb1
  obtain ⟨-, c1, c2, c3⟩ := HP3.out.cell
  have b0 : w2.cell? ⟨w.heap.size, 0, none⟩ = some (.int .i64 (i : Int)) := by rw [cell_of_row w2 w.heap.size _ _ 36 (0, 0) bx3]; rfl
  have b1 : w2.cell? ⟨w.heap.size, 1, none⟩ = some (.int .i64 (y : Int)) := by rw [cell_of_row w2 w.heap.size _ _ 36 (0, 0) bx3]; rfl
  by_cases hy : y = 1000000
  · subst hy
    have e1 := own_int HP3.out.2.1 i hi
    have f1 := HP3.out.2.1.frozenAt i
    have hp4 := HP3.out.set_gen i 1000001
    obtain ⟨-, d1, -, -⟩ := hp4.cell
    have q0 : (w2.setCell ⟨gg, i, none⟩ (.int .i64 ((1000001 : Nat) : Int))).cell? ⟨w.heap.size, 0, none⟩ = some (.int .i64 (i : Int)) := by
      rw [World.cell?_setCell_far _ ⟨gg, i, none⟩ _ _ (by show gg ≠ w.heap.size; omega)]
      exact b0
    have HM4 := hide (HM3.out.set (g := gg) (.inr (.inl rfl)) i (.int .i64 ((1000001 : Nat) : Int)))
    have ez : ((1000001 : Nat) : Int) = 1000001 := rfl
    rw [ez] at hp4 d1 q0 HM4
    have HP4 := hide hp4
    clear hp4
    go_upto_region 5 with fail
    go_region_held3 (fun W => W.cell? ⟨g, 1, none⟩ = some (.slice (some ⟨gg, 0, none⟩) gs.length cg) ∧ W.cell? ⟨w.heap.size, 0, none⟩ = some (.int .i64 (i : Int))) (go_keep) (fail)
    go_wp2_with fail
    go_ret
    exact ⟨rfl, _, HP4.out.later (below_drew _), fun k e => .inl e, HM4.out.later (below_drew _)⟩
  · have t3 : ((y : Int) == 1000000) = false := by rw [beq_eq_false_iff_ne]; omega
    have k3 : ∀ o, (w2.alloc o).cell? ⟨g, 3, none⟩ = some (.slice aof fr.length cf) := fun o => (HP3.out.later (below_alloc w2 o)).cell.2.2.2
    have HO : Hid ((w2.drew.alloc (.cells #[.int .i64 (i : Int)] 3)).ownsRow 0 3 1 (.slice aof fr.length cf) fr.length (ic fr)) := own_later HP3.out.2.2.2.1 (below_on (below_drew w2) (below_alloc _ _))
    have K9 : Hid (∀ (g9 c9 : Nat) (w9 : World), w9.ownsRow 0 3 1 (.slice (some ⟨g9, 0, none⟩) (fr.length + 1) c9) (fr.length + 1) (ic fr ++ [.int .i64 (i : Int)]) → (w2.drew.alloc (.cells #[.int .i64 (i : Int)] 3)).grownBy w9 (Value.slice aof fr.length cf).ownBlock → ((Value.slice aof fr.length cf).ownBlock = some g9 ∨ g9 = (w2.drew.alloc (.cells #[.int .i64 (i : Int)] 3)).heap.size) → (w9.heap[g]? = some (.cells #[.int .i64 (n : Int), .slice (some ⟨gg, 0, none⟩) gs.length cg, .slice (some ⟨gl, 0, none⟩) lv.length cl, .slice aof fr.length cf] 82 (0, 0)) ∧ Pm (w9.setCell ⟨g, 3, none⟩ (.slice (some ⟨g9, 0, none⟩) (fr.length + 1) c9)) g n (.slice (some ⟨gg, 0, none⟩) gs.length cg) (.slice (some ⟨gl, 0, none⟩) lv.length cl) (.slice (some ⟨g9, 0, none⟩) (fr.length + 1) c9) gs (fr ++ [i]) (lv.set i (0, 0)) ∧ (∀ k, (Value.slice (some ⟨g9, 0, none⟩) (fr.length + 1) c9).ownBlock = some k → (Value.slice aof fr.length cf).ownBlock = some k ∨ w2.heap.size ≤ k) ∧ Mv w2 (w9.setCell ⟨g, 3, none⟩ (.slice (some ⟨g9, 0, none⟩) (fr.length + 1) c9)) (fun k => k = g ∨ (Value.slice aof fr.length cf).ownBlock = some k))) := fun g9 c9 w9 h1 h2 h3 => HP3.out.grow_free (below_on (below_drew w2) (below_alloc _ _)) h1 h2 h3
    go_upto_region 6 with fail
    go_region_law (refine step_append_lies _ rfl (.tmp 31) (.tmp 34) 22 rfl 0 3 i3 (.int .i64 0) 1 8 Tryz.underlying22 hi3 hx0 hx1 hx2 rfl (by decide) (.slice aof fr.length cf) fr.length (ic fr) (by simp [Act.eval]) HO.out ⟨w2.heap.size, 0, none⟩ 1 1 [.int .i64 (i : Int)] (by simp [Act.eval]) rfl (by intro j u hj; match j, hj with | 0, hj => simp at hj; subst hj; simp [Addr.add]) (by intro u hu; simp at hu; subst hu; rfl) (by omega) (by unfold maxLen; omega) (by omega) (Nat.zero_le _) _ rfl ?_; intro g9 c9 w9 ho9 hg9 ha9 _; obtain ⟨p1, p2, p3, p4⟩ := K9.out g9 c9 w9 ho9 hg9 ha9; have d3 : w9.cell? ⟨g, 3, none⟩ = some (.slice aof fr.length cf) := (cell_of_row w9 g 3 _ 82 (0, 0) p1).trans rfl; have y3 : w9.frozen? ⟨g, 3, none⟩ = false := frozen_of_row w9 g 3 _ 82 p1; have P2 := hide p2; have P3 := hide p3; have P4 := hide p4; clear ho9 hg9 ha9 p1 p2 p3 p4)
    all_goals
      go_wp2_with fail
      go_ret
      refine ⟨rfl, _, P2.out, fun k e => (P3.out k e).imp id (fun h => Nat.le_trans HM3.out.size h), HM3.out.trans P4.out (fun k _ e => ?_)⟩
      rcases e with e | e
      · exact .inl e
      · exact .inr (.inr (.inr e))
theorem lv_give {i : Nat} {gs fr : List Nat} (hi : i < gs.length) :
    (lvOf gs fr).set i (0, 0) = lvOf (if gs.getD i 0 = 1000000 then gs.set i 1000001 else gs) (if gs.getD i 0 = 1000000 then fr else fr ++ [i]) := by
  by_cases hw : gs.getD i 0 = 1000000
  · rw [if_pos hw, if_pos hw]
    apply List.ext_getElem
    · simp [lvOf_len]
    · intro j h1 h2
      have hj : j < gs.length := by simpa [lvOf_len] using h1
      rw [lvOf_at _ _ j (by simpa using hj), List.getElem_set]
      by_cases hij : i = j
      · subst hij
        have e : on (gs.set i 1000001) fr i = false := by simp [on, hi]
        rw [if_pos rfl, e]
        rfl
      · rw [if_neg hij, lvOf_at _ _ j hj]
        have e : (gs.set i 1000001).getD j 0 = gs.getD j 0 := by simp [List.getD_eq_getElem?_getD, hij]
        have e2 : on (gs.set i 1000001) fr j = on gs fr j := by simp only [on, e]
        rw [e2, e]
  · rw [if_neg hw, if_neg hw]
    apply List.ext_getElem
    · simp [lvOf_len]
    · intro j h1 h2
      have hj : j < gs.length := by simpa [lvOf_len] using h1
      rw [lvOf_at _ _ j hj, List.getElem_set]
      by_cases hij : i = j
      · subst hij
        have e : on gs (fr ++ [i]) i = false := by simp [on]
        rw [if_pos rfl, e]
        rfl
      · rw [if_neg hij, lvOf_at _ _ j hj]
        have e : on gs (fr ++ [i]) j = on gs fr j := by simp [on, Ne.symm hij]
        rw [e]
theorem ok_give {n i : Nat} {gs fr : List Nat} (h : Ok n gs fr) (hi : i < gs.length) (hl : gs.getD i 0 ≤ 1000000) (hf : i ∉ fr) :
    Ok n (if gs.getD i 0 = 1000000 then gs.set i 1000001 else gs) (if gs.getD i 0 = 1000000 then fr else fr ++ [i]) := by
  obtain ⟨h1, h2, h3, h4, h5, h6⟩ := h
  by_cases hw : gs.getD i 0 = 1000000
  · rw [if_pos hw, if_pos hw]
    refine ⟨h1, h2, by simpa using h3, fun x hx => ?_, h5, fun j hj => ?_⟩
    · rcases List.mem_or_eq_of_mem_set hx with h | h
      · exact h4 x h
      · omega
    · have := h6 j hj
      have hij : i ≠ j := fun e => hf (e ▸ hj)
      have e : (gs.set i 1000001).getD j 0 = gs.getD j 0 := by simp [List.getD_eq_getElem?_getD, hij]
      rw [List.length_set, e]
      exact this
  · rw [if_neg hw, if_neg hw]
    refine ⟨h1, h2, h3, h4, ?_, fun j hj => ?_⟩
    · rw [List.nodup_append]
      refine ⟨h5, by simp, fun a ha b hb => ?_⟩
      simp at hb
      subst hb
      exact fun e => hf (e ▸ ha)
    · rcases List.mem_append.1 hj with h | h
      · exact h6 j h
      · simp at h
        subst h
        exact ⟨hi, by omega⟩
theorem give_live {w : World} {S : Nat → Prop} {g n i : Nat} {gs fr : List Nat} (h : Pl w S g n gs fr) (hi : i < gs.length) (hl : gs.getD i 0 ≤ 1000000) (hf : i ∉ fr) :
    Calls Tryz.prog 54 #[.pointer (some ⟨g, 0, none⟩), ev (i, gs.getD i 0)] w fun e w' => e = .returned (.int .i64 0) ∧ Pl w' (Nw w S) g n (if gs.getD i 0 = 1000000 then gs.set i 1000001 else gs) (if gs.getD i 0 = 1000000 then fr else fr ++ [i]) ∧ Mv w w' S := by
  have hlv : livesOf gs fr (i : Int) ((gs.getD i 0 : Nat) : Int) = true := by
    simp [livesOf, isOn, on, hi, hf]
    simpa [hi] using hl
  have hL := lives_any (i : Int) ((gs.getD i 0 : Nat) : Int) (h.later (below_alloc w (.cells #[.int .i64 (i : Int), .int .i64 ((gs.getD i 0 : Nat) : Int)] 36)))
  rw [hlv] at hL
  obtain ⟨⟨vg, vl, vf, hp, s0, s1, s2, s3⟩, ho⟩ := h
  have hfl := ho.free_len
  have hlen := ho.2.2.1
  have hn2 := ho.2.1
  refine (give_walk g n i (gs.getD i 0) vg vl vf gs fr _ w hp hi (by rw [lvOf_len]; exact hi) (by omega) hL).mono ?_
  rintro e w' ⟨rfl, vf', q1, q2, q3⟩
  rw [lv_give hi] at q1
  refine ⟨rfl, ⟨⟨vg, vl, vf', q1, .inl s0, s1.mono (fun _ e => .inl e), s2.mono (fun _ e => .inl e), fun k e => ?_⟩, ok_give ho hi hl hf⟩, q3.mono (fun k _ e => ?_)⟩
  · exact (q2 k e).imp (fun h => s3 k h) id
  · rcases e with rfl | e | e | e
    · exact s0
    · exact s1 k e
    · exact s2 k e
    · exact s3 k e
end Go.Proofs.YtiolaenkfhcajaaGreat
