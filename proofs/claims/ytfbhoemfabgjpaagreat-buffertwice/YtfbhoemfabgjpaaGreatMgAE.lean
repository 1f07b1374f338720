import Derived.Test.YtfbhoemfabgjpaaGreatMgAD
import Derived.Test.YtfbhoemfabgjpaaGreatMgAC
/-
  State.
-/
namespace Go.Proofs.YtfbhoemfabgjpaaGreat
open Go.RowKit
set_option maxRecDepth 100000
theorem nodup_len : ∀ (n : Nat) (l : List Nat), l.Nodup → (∀ x ∈ l, x < n) → l.length ≤ n
  | 0, l, _, h => by
    cases l with
    | nil => simp
    | cons x t => have := h x (by simp); omega
  | n + 1, l, hd, h => by
    by_cases hn : n ∈ l
    · have := nodup_len n (l.erase n) (hd.erase n) (fun x hx => by
        have h1 := hd.mem_erase_iff.1 hx
        have := h x h1.2
        have := h1.1
        omega)
      rw [List.length_erase_of_mem hn] at this
      omega
    · have := nodup_len n l hd (fun x hx => by
        have h1 := h x hx
        have : x ≠ n := fun e => hn (e ▸ hx)
        omega)
      omega
theorem Ok.free_len {n : Nat} {gs fr : List Nat} (h : Ok n gs fr) : fr.length ≤ gs.length := nodup_len _ _ h.2.2.2.2.1 (fun x hx => (h.2.2.2.2.2 x hx).1)
end Go.Proofs.YtfbhoemfabgjpaaGreat

/-
  Give.
-/
namespace Go.Proofs.YtfbhoemfabgjpaaGreat
open Go.RowKit
set_option maxRecDepth 100000
/-- The free row grows. -/
theorem Pm.grow_free {w W W' : World} {g n g9 c9 x : Nat} {vg vl vf : Value} {gs fr : List Nat} {lv : List (Nat × Nat)} (h : Pm w g n vg vl vf gs fr lv) (hb : Below w.heap.size w W) (ho : W'.ownsRow 0 3 1 (.slice (some ⟨g9, 0, none⟩) (fr.length + 1) c9) (fr.length + 1) (ic fr ++ [.int .i64 (x : Int)])) (hg : W.grownBy W' vf.ownBlock) (ha : vf.ownBlock = some g9 ∨ g9 = W.heap.size) :
    W'.heap[g]? = some (.cells #[.int .i64 (n : Int), vg, vl, vf] 91 (0, 0)) ∧ Pm (W'.setCell ⟨g, 3, none⟩ (.slice (some ⟨g9, 0, none⟩) (fr.length + 1) c9)) g n vg vl (.slice (some ⟨g9, 0, none⟩) (fr.length + 1) c9) gs (fr ++ [x]) lv ∧ (∀ k, (Value.slice (some ⟨g9, 0, none⟩) (fr.length + 1) c9).ownBlock = some k → vf.ownBlock = some k ∨ w.heap.size ≤ k) ∧ Mv w (W'.setCell ⟨g, 3, none⟩ (.slice (some ⟨g9, 0, none⟩) (fr.length + 1) c9)) (fun k => k = g ∨ vf.ownBlock = some k) := by
  have hW := h.later hb
  have hlt := h.lt
  have hsz := hb.size
  obtain ⟨a1, a2, a3, a4, ⟨a5, a6, a7⟩, a8, a9, a10⟩ := hW
  have hg1 : W'.heap[g]? = some (.cells #[.int .i64 (n : Int), vg, vl, vf] 91 (0, 0)) := (hg.block g (by omega) (fun e => a7 e.symm)).trans a1
  have n3 : (Value.slice (some ⟨g9, 0, none⟩) (fr.length + 1) c9).ownBlock ≠ some g := fun e => by
    simp only [Value.ownBlock, Option.some.injEq] at e
    rcases ha with h | h
    · exact a7 (by rw [h, e])
    · omega
  have loc : ∀ k, (Value.slice (some ⟨g9, 0, none⟩) (fr.length + 1) c9).ownBlock = some k → vf.ownBlock = some k ∨ W.heap.size ≤ k := fun k e => by
    simp only [Value.ownBlock, Option.some.injEq] at e
    rcases ha with h | h
    · exact .inl (by rw [h, e])
    · exact .inr (by omega)
  refine ⟨hg1, ⟨?_, own_set (own_kept a2 hg (fun k e1 e2 => a9 k e1 e2)) a5, own_set (own_kept a3 hg (fun k e1 e2 => a10 k e1 e2)) a6, ?_, ⟨a5, a6, n3⟩, a8, fun k e1 e2 => ?_, fun k e1 e2 => ?_⟩, fun k e => (loc k e).imp id (fun h => by omega), ((Mv.of_below hb _).grown hg (fun k _ e => .inr e)).set (.inl rfl) _ _⟩
  · rw [heap_setCell_same W' g 3 _ 91 _ hg1]
    rfl
  · rw [List.length_append, ic_append]
    exact own_set ho n3
  · rcases loc k e2 with h | h
    · exact a9 k e1 h
    · have := (a2.lt k e1).2
      omega
  · rcases loc k e2 with h | h
    · exact a10 k e1 h
    · have := (a3.lt k e1).2
      omega
set_option maxHeartbeats 1000000 in
theorem give_stale {w : World} {S : Nat → Prop} {g n : Nat} {gs fr : List Nat} (a b : Int) (h : Pl w S g n gs fr) (hl : livesOf gs fr a b = false) :
    Calls Tryz.prog 68 #[.pointer (some ⟨g, 0, none⟩), .agg #[.int .i64 a, .int .i64 b]] w fun e w' => e = .returned (.int .i64 41) ∧ Below w.heap.size w w' := by
  have HL := hide (lives_any a b (h.later (below_alloc w (.cells #[.int .i64 a, .int .i64 b] 34))))
  rw [hl] at HL
  clear h hl
  go_enter Tryz.func68, Tryz.ntmps68
  go_wp2_with fail
  refine HL.out.mono ?_
  rintro e w1 ⟨rfl, hb⟩
  have HB := hide (below_on (below_alloc w _) hb)
  clear hb HL
  go_wp2_with fail
  go_ret
  exact ⟨rfl, HB.out⟩
set_option maxHeartbeats 4000000 in
set_option maxRecDepth 100000 in
theorem give_walk (g n i y : Nat) (vg vl vf : Value) (gs fr : List Nat) (lv : List (Nat × Nat)) (w : World) (h : Pm w g n vg vl vf gs fr lv) (hi : i < gs.length) (hil : i < lv.length) (hfl : fr.length ≤ 1000000)
    (hL : Calls Tryz.prog 29 #[.pointer (some ⟨g, 0, none⟩), .agg #[.int .i64 (i : Int), .int .i64 (y : Int)]] (w.alloc (.cells #[.int .i64 (i : Int), .int .i64 (y : Int)] 34)) fun e w' => e = .returned (.bool true) ∧ Below (w.alloc (.cells #[.int .i64 (i : Int), .int .i64 (y : Int)] 34)).heap.size (w.alloc (.cells #[.int .i64 (i : Int), .int .i64 (y : Int)] 34)) w') :
    Calls Tryz.prog 68 #[.pointer (some ⟨g, 0, none⟩), .agg #[.int .i64 (i : Int), .int .i64 (y : Int)]] w fun e w' => e = .returned (.int .i64 0) ∧ ∃ vf', Pm w' g n vg vl vf' (if y = 1000000 then gs.set i 1000001 else gs) (if y = 1000000 then fr else fr ++ [i]) (lv.set i (0, 0)) ∧ (∀ k, vf'.ownBlock = some k → vf.ownBlock = some k ∨ w.heap.size ≤ k) ∧ Mv w w' (fun k => k = g ∨ vg.ownBlock = some k ∨ vl.ownBlock = some k ∨ vf.ownBlock = some k) := by
  obtain ⟨i3, hi3, hx0, hx1, hx2⟩ := info_parts info3
  obtain ⟨gg, cg, rfl, hg1, hg2⟩ := own_form h.2.1 (by omega)
  obtain ⟨gl, cl, rfl, hl1, hl2⟩ := own_form h.2.2.1 (by omega)
  obtain ⟨aof, cf, rfl⟩ := own_len h.2.2.2.1
  have hne : gg ≠ gl := fun e => h.2.2.2.2.2.1 gg rfl (by rw [e]; rfl)
  have hgl : gl ≠ g := fun e => h.2.2.2.2.1.2.1 (by rw [e]; rfl)
  have hll := (h.2.2.1.lt gl rfl).2
  have hlg := (h.2.1.lt gg rfl).2
  have hgw := h.lt
  have HL := hide hL
  have H := hide h
  clear hL h
  go_enter Tryz.func68, Tryz.ntmps68
  go_wp2_with fail
  refine HL.out.mono ?_
  rintro e w1 ⟨rfl, hb⟩
  have hb1 := below_on (below_alloc w (.cells #[.int .i64 (i : Int), .int .i64 (y : Int)] 34)) hb
  have hp1 := H.out.later hb1
  have bx : w1.heap[w.heap.size]? = some (.cells #[.int .i64 (i : Int), .int .i64 (y : Int)] 34 (0, 0)) := (hb.block w.heap.size (by simp)).trans (heap_alloc_new w _)
  obtain ⟨l1, l2⟩ := i_own_ent hp1.2.2.1 i hil
  have lf1 := hp1.2.2.1.frozenAt (i * 2)
  have lf2 := hp1.2.2.1.frozenAt (i * 2 + 1)
  have hp2 := hp1.set_live i 0 0 hil
  have bx2 : ((w1.setCell ⟨gl, i * 2, none⟩ (.int .i64 ((0 : Nat) : Int))).setCell ⟨gl, i * 2 + 1, none⟩ (.int .i64 ((0 : Nat) : Int))).heap[w.heap.size]? = some (.cells #[.int .i64 (i : Int), .int .i64 (y : Int)] 34 (0, 0)) := (heap_setCell_other _ ⟨gl, i * 2 + 1, none⟩ w.heap.size _ (by show w.heap.size ≠ gl; omega)).trans ((heap_setCell_other w1 ⟨gl, i * 2, none⟩ w.heap.size _ (by show w.heap.size ≠ gl; omega)).trans bx)
  have HM2 : Hid (Mv w ((w1.setCell ⟨gl, i * 2, none⟩ (.int .i64 ((0 : Nat) : Int))).setCell ⟨gl, i * 2 + 1, none⟩ (.int .i64 ((0 : Nat) : Int))) (fun k => k = g ∨ (Value.slice (some ⟨gg, 0, none⟩) gs.length cg).ownBlock = some k ∨ (Value.slice (some ⟨gl, 0, none⟩) lv.length cl).ownBlock = some k ∨ (Value.slice aof fr.length cf).ownBlock = some k)) := ((Mv.of_below hb1 _).set (g := gl) (.inr (.inr (.inl rfl))) _ _).set (g := gl) (.inr (.inr (.inl rfl))) _ _
  have ez : ((0 : Nat) : Int) = 0 := rfl
  rw [ez] at hp2 bx2 HM2
  have c := hp1.cell
  obtain ⟨-, c1, c2, c3⟩ := c
  obtain ⟨-, d1, d2, d3⟩ := hp2.cell
  have b0 : w1.cell? ⟨w.heap.size, 0, none⟩ = some (.int .i64 (i : Int)) := by rw [cell_of_row w1 w.heap.size _ _ 34 (0, 0) bx]; rfl
  have q0 : ((w1.setCell ⟨gl, i * 2, none⟩ (.int .i64 0)).setCell ⟨gl, i * 2 + 1, none⟩ (.int .i64 0)).cell? ⟨w.heap.size, 0, none⟩ = some (.int .i64 (i : Int)) := by rw [cell_of_row _ w.heap.size _ _ 34 (0, 0) bx2]; rfl
  have t1 : (i : Int) < (gs.length : Int) := by omega
  have t2 : (i : Int) < (lv.length : Int) := by omega
  have HP2 := hide hp2
  clear hb hp1 hp2 bx HL H
  go_upto_region 3 with fail
  go_region_held3 (fun W => W.cell? ⟨g, 2, none⟩ = some (.slice (some ⟨gl, 0, none⟩) lv.length cl) ∧ W.cell? ⟨w.heap.size, 0, none⟩ = some (.int .i64 (i : Int))) (go_keep) (fail)
  obtain ⟨w2, hw2⟩ : ∃ X, X = ((w1.setCell ⟨gl, i * 2, none⟩ (.int .i64 0)).setCell ⟨gl, i * 2 + 1, none⟩ (.int .i64 0)).drew := ⟨_, rfl⟩
  have HP3 : Hid (Pm w2 g n (.slice (some ⟨gg, 0, none⟩) gs.length cg) (.slice (some ⟨gl, 0, none⟩) lv.length cl) (.slice aof fr.length cf) gs fr (lv.set i (0, 0))) := hw2 ▸ HP2.out.later (below_drew _)
  have HM3 := hide (HM2.out.later (below_drew _))
  have bx3 : w2.heap[w.heap.size]? = some (.cells #[.int .i64 (i : Int), .int .i64 (y : Int)] 34 (0, 0)) := hw2 ▸ bx2
  rw [← hw2] at HM3 ⊢
  clear hw2 HM2 HP2 bx2 c1 c2 c3 d1 d2 d3 b0 q0 l1 l2 lf1 lf2 hb1
  obtain ⟨-, c1, c2, c3⟩ := HP3.out.cell
  have b0 : w2.cell? ⟨w.heap.size, 0, none⟩ = some (.int .i64 (i : Int)) := by rw [cell_of_row w2 w.heap.size _ _ 34 (0, 0) bx3]; rfl
  have b1 : w2.cell? ⟨w.heap.size, 1, none⟩ = some (.int .i64 (y : Int)) := by rw [cell_of_row w2 w.heap.size _ _ 34 (0, 0) bx3]; rfl
  by_cases hy : y = 1000000
  · subst hy
    have e1 := own_int HP3.out.2.1 i hi
    have f1 := HP3.out.2.1.frozenAt i
    have hp4 := HP3.out.set_gen i 1000001
    obtain ⟨-, d1, -, -⟩ := hp4.cell
    have q0 : (w2.setCell ⟨gg, i, none⟩ (.int .i64 ((1000001 : Nat) : Int))).cell? ⟨w.heap.size, 0, none⟩ = some (.int .i64 (i : Int)) := by
      rw [World.cell?_setCell_far _ ⟨gg, i, none⟩ _ _ (by show gg ≠ w.heap.size; omega)]
      exact b0
    have HM4 := hide (HM3.out.set (g := gg) (.inr (.inl rfl)) i (.int .i64 ((1000001 : Nat) : Int)))
    have ez : ((1000001 : Nat) : Int) = 1000001 := rfl
    rw [ez] at hp4 d1 q0 HM4
    have HP4 := hide hp4
    clear hp4
    go_upto_region 5 with fail
    go_region_held3 (fun W => W.cell? ⟨g, 1, none⟩ = some (.slice (some ⟨gg, 0, none⟩) gs.length cg) ∧ W.cell? ⟨w.heap.size, 0, none⟩ = some (.int .i64 (i : Int))) (go_keep) (fail)
    go_wp2_with fail
    go_ret
    exact ⟨rfl, _, HP4.out.later (below_drew _), fun k e => .inl e, HM4.out.later (below_drew _)⟩
  · have t3 : ((y : Int) == 1000000) = false := by rw [beq_eq_false_iff_ne]; omega
    have k3 : ∀ o, (w2.alloc o).cell? ⟨g, 3, none⟩ = some (.slice aof fr.length cf) := fun o => (HP3.out.later (below_alloc w2 o)).cell.2.2.2
    have HO : Hid ((w2.drew.alloc (.cells #[.int .i64 (i : Int)] 3)).ownsRow 0 3 1 (.slice aof fr.length cf) fr.length (ic fr)) := own_later HP3.out.2.2.2.1 (below_on (below_drew w2) (below_alloc _ _))
    have K9 : Hid (∀ (g9 c9 : Nat) (w9 : World), w9.ownsRow 0 3 1 (.slice (some ⟨g9, 0, none⟩) (fr.length + 1) c9) (fr.length + 1) (ic fr ++ [.int .i64 (i : Int)]) → (w2.drew.alloc (.cells #[.int .i64 (i : Int)] 3)).grownBy w9 (Value.slice aof fr.length cf).ownBlock → ((Value.slice aof fr.length cf).ownBlock = some g9 ∨ g9 = (w2.drew.alloc (.cells #[.int .i64 (i : Int)] 3)).heap.size) → (w9.heap[g]? = some (.cells #[.int .i64 (n : Int), .slice (some ⟨gg, 0, none⟩) gs.length cg, .slice (some ⟨gl, 0, none⟩) lv.length cl, .slice aof fr.length cf] 91 (0, 0)) ∧ Pm (w9.setCell ⟨g, 3, none⟩ (.slice (some ⟨g9, 0, none⟩) (fr.length + 1) c9)) g n (.slice (some ⟨gg, 0, none⟩) gs.length cg) (.slice (some ⟨gl, 0, none⟩) lv.length cl) (.slice (some ⟨g9, 0, none⟩) (fr.length + 1) c9) gs (fr ++ [i]) (lv.set i (0, 0)) ∧ (∀ k, (Value.slice (some ⟨g9, 0, none⟩) (fr.length + 1) c9).ownBlock = some k → (Value.slice aof fr.length cf).ownBlock = some k ∨ w2.heap.size ≤ k) ∧ Mv w2 (w9.setCell ⟨g, 3, none⟩ (.slice (some ⟨g9, 0, none⟩) (fr.length + 1) c9)) (fun k => k = g ∨ (Value.slice aof fr.length cf).ownBlock = some k))) := fun g9 c9 w9 h1 h2 h3 => HP3.out.grow_free (below_on (below_drew w2) (below_alloc _ _)) h1 h2 h3
    go_upto_region 6 with fail
    go_region_law (refine step_append_lies _ rfl (.tmp 31) (.tmp 34) 79 rfl 0 3 i3 (.int .i64 0) 1 8 Tryz.underlying79 hi3 hx0 hx1 hx2 rfl (by decide) (.slice aof fr.length cf) fr.length (ic fr) (by simp [Act.eval]) HO.out ⟨w2.heap.size, 0, none⟩ 1 1 [.int .i64 (i : Int)] (by simp [Act.eval]) rfl (by intro j u hj; match j, hj with | 0, hj => simp at hj; subst hj; simp [Addr.add]) (by intro u hu; simp at hu; subst hu; rfl) (by omega) (by unfold maxLen; omega) (by omega) (Nat.zero_le _) _ rfl ?_; intro g9 c9 w9 ho9 hg9 ha9 _; obtain ⟨p1, p2, p3, p4⟩ := K9.out g9 c9 w9 ho9 hg9 ha9; have d3 : w9.cell? ⟨g, 3, none⟩ = some (.slice aof fr.length cf) := (cell_of_row w9 g 3 _ 91 (0, 0) p1).trans rfl; have y3 : w9.frozen? ⟨g, 3, none⟩ = false := frozen_of_row w9 g 3 _ 91 p1; have P2 := hide p2; have P3 := hide p3; have P4 := hide p4; clear ho9 hg9 ha9 p1 p2 p3 p4)
    all_goals
      go_wp2_with fail
      go_ret
      refine ⟨rfl, _, P2.out, fun k e => (P3.out k e).imp id (fun h => Nat.le_trans HM3.out.size h), HM3.out.trans P4.out (fun k _ e => ?_)⟩
      rcases e with e | e
      · exact .inl e
      · exact .inr (.inr (.inr e))
theorem lv_give {i : Nat} {gs fr : List Nat} (hi : i < gs.length) :
    (lvOf gs fr).set i (0, 0) = lvOf (if gs.getD i 0 = 1000000 then gs.set i 1000001 else gs) (if gs.getD i 0 = 1000000 then fr else fr ++ [i]) := by
  by_cases hw : gs.getD i 0 = 1000000
  · rw [if_pos hw, if_pos hw]
    apply List.ext_getElem
    · simp [lvOf_len]
    · intro j h1 h2
      have hj : j < gs.length := by simpa [lvOf_len] using h1
      rw [lvOf_at _ _ j (by simpa using hj), List.getElem_set]
      by_cases hij : i = j
      · subst hij
        have e : on (gs.set i 1000001) fr i = false := by simp [on, hi]
        rw [if_pos rfl, e]
        rfl
      · rw [if_neg hij, lvOf_at _ _ j hj]
        have e : (gs.set i 1000001).getD j 0 = gs.getD j 0 := by simp [List.getD_eq_getElem?_getD, hij]
        have e2 : on (gs.set i 1000001) fr j = on gs fr j := by simp only [on, e]
        rw [e2, e]
  · rw [if_neg hw, if_neg hw]
    apply List.ext_getElem
    · simp [lvOf_len]
    · intro j h1 h2
      have hj : j < gs.length := by simpa [lvOf_len] using h1
      rw [lvOf_at _ _ j hj, List.getElem_set]
      by_cases hij : i = j
      · subst hij
        have e : on gs (fr ++ [i]) i = false := by simp [on]
        rw [if_pos rfl, e]
        rfl
      · rw [if_neg hij, lvOf_at _ _ j hj]
        have e : on gs (fr ++ [i]) j = on gs fr j := by simp [on, Ne.symm hij]
        rw [e]
theorem ok_give {n i : Nat} {gs fr : List Nat} (h : Ok n gs fr) (hi : i < gs.length) (hl : gs.getD i 0 ≤ 1000000) (hf : i ∉ fr) :
    Ok n (if gs.getD i 0 = 1000000 then gs.set i 1000001 else gs) (if gs.getD i 0 = 1000000 then fr else fr ++ [i]) := by
  obtain ⟨h1, h2, h3, h4, h5, h6⟩ := h
  by_cases hw : gs.getD i 0 = 1000000
  · rw [if_pos hw, if_pos hw]
    refine ⟨h1, h2, by simpa using h3, fun x hx => ?_, h5, fun j hj => ?_⟩
    · rcases List.mem_or_eq_of_mem_set hx with h | h
      · exact h4 x h
      · omega
    · have := h6 j hj
      have hij : i ≠ j := fun e => hf (e ▸ hj)
      have e : (gs.set i 1000001).getD j 0 = gs.getD j 0 := by simp [List.getD_eq_getElem?_getD, hij]
      rw [List.length_set, e]
      exact this
  · rw [if_neg hw, if_neg hw]
    refine ⟨h1, h2, h3, h4, ?_, fun j hj => ?_⟩
    · rw [List.nodup_append]
      refine ⟨h5, by simp, fun a ha b hb => ?_⟩
      simp at hb
      subst hb
      exact fun e => hf (e ▸ ha)
    · rcases List.mem_append.1 hj with h | h
      · exact h6 j h
      · simp at h
        subst h
        exact ⟨hi, by omega⟩
theorem give_live {w : World} {S : Nat → Prop} {g n i : Nat} {gs fr : List Nat} (h : Pl w S g n gs fr) (hi : i < gs.length) (hl : gs.getD i 0 ≤ 1000000) (hf : i ∉ fr) :
    Calls Tryz.prog 68 #[.pointer (some ⟨g, 0, none⟩), ev (i, gs.getD i 0)] w fun e w' => e = .returned (.int .i64 0) ∧ Pl w' (Nw w S) g n (if gs.getD i 0 = 1000000 then gs.set i 1000001 else gs) (if gs.getD i 0 = 1000000 then fr else fr ++ [i]) ∧ Mv w w' S := by
  have hlv : livesOf gs fr (i : Int) ((gs.getD i 0 : Nat) : Int) = true := by
    simp [livesOf, isOn, on, hi, hf]
    simpa [hi] using hl
  have hL := lives_any (i : Int) ((gs.getD i 0 : Nat) : Int) (h.later (below_alloc w (.cells #[.int .i64 (i : Int), .int .i64 ((gs.getD i 0 : Nat) : Int)] 34)))
  rw [hlv] at hL
  obtain ⟨⟨vg, vl, vf, hp, s0, s1, s2, s3⟩, ho⟩ := h
  have hfl := ho.free_len
  have hlen := ho.2.2.1
  have hn2 := ho.2.1
  refine (give_walk g n i (gs.getD i 0) vg vl vf gs fr _ w hp hi (by rw [lvOf_len]; exact hi) (by omega) hL).mono ?_
  rintro e w' ⟨rfl, vf', q1, q2, q3⟩
  rw [lv_give hi] at q1
  refine ⟨rfl, ⟨⟨vg, vl, vf', q1, .inl s0, s1.mono (fun _ e => .inl e), s2.mono (fun _ e => .inl e), fun k e => ?_⟩, ok_give ho hi hl hf⟩, q3.mono (fun k _ e => ?_)⟩
  · exact (q2 k e).imp (fun h => s3 k h) id
  · rcases e with rfl | e | e | e
    · exact s0
    · exact s1 k e
    · exact s2 k e
    · exact s3 k e
end Go.Proofs.YtfbhoemfabgjpaaGreat

/-
  World: a world in memory: each block is labelled by whose it is.
-/
namespace Go.Proofs.YtfbhoemfabgjpaaGreat
open Go.RowKit
set_option maxRecDepth 100000
abbrev Ts := List (Int × Int) × List (List Int)
def TbS (w : World) (S : Nat → Prop) (g : Nat) (s : Ts) (M : Nat) : Prop := ∃ n, n ≤ M ∧ Tb w S g n s.1 s.2
section
variable {w w' : World} {S T : Nat → Prop} {g M M' : Nat} {s : Ts}
theorem TbS.mono (h : TbS w S g s M) (hs : ∀ k, S k → T k) : TbS w T g s M := by
  obtain ⟨n, hn, h⟩ := h
  exact ⟨n, hn, h.mono hs⟩
theorem TbS.frame (h : TbS w S g s M) (hm : Mv w w' T) (hs : ∀ k, S k → ¬ T k) : TbS w' S g s M := by
  obtain ⟨n, hn, h⟩ := h
  exact ⟨n, hn, h.frame hm hs⟩
theorem TbS.up (h : TbS w S g s M) (hM : M ≤ M') : TbS w S g s M' := by
  obtain ⟨n, hn, h⟩ := h
  exact ⟨n, by omega, h⟩
theorem TbS.tight (h : TbS w S g s M) : TbS w (fun k => S k ∧ k < w.heap.size) g s M := by
  obtain ⟨n, hn, h⟩ := h
  exact ⟨n, hn, h.tight⟩
end
theorem Mq.mono {w : World} {gm n n' : Nat} {q : Nat → Option Nat} (h : Mq w gm n q) (hn : n ≤ n') : Mq w gm n' q := by
  obtain ⟨D, h1, h2⟩ := h
  exact ⟨D, h1.mono hn, h2⟩
def Lb (own : Nat → Nat) (w : World) (i : Nat) : Nat → Prop := fun k => k < w.heap.size ∧ own k = i
/-- What is new since w gets the label L. -/
def rel (own : Nat → Nat) (w : World) (L : Nat) : Nat → Nat := fun k => if k < w.heap.size then own k else L
theorem rel_old {own : Nat → Nat} {w : World} {L k : Nat} (h : k < w.heap.size) : rel own w L k = own k := if_pos h
theorem rel_new {own : Nat → Nat} {w : World} {L k : Nat} (h : w.heap.size ≤ k) : rel own w L k = L := if_neg (by omega)
theorem Lb.rel {own : Nat → Nat} {w w' : World} {L i k : Nat} (h : Lb own w i k) (hs : w.heap.size ≤ w'.heap.size) : Lb (rel own w L) w' i k := ⟨by have := h.1; omega, (rel_old h.1).trans h.2⟩
/-- Kinds, in blocks that nobody writes. -/
def Kf (w : World) (S : Nat → Prop) (v : Value) (ks : List Kind) : Prop := ∀ w', (∀ k, S k → w'.heap[k]? = w.heap[k]?) → Kr w' v ks
theorem Kf.kr {w : World} {S : Nat → Prop} {v : Value} {ks : List Kind} (h : Kf w S v ks) : Kr w v ks := h w (fun _ _ => rfl)
theorem Kf.next {w w' : World} {S S' : Nat → Prop} {v : Value} {ks : List Kind} (h : Kf w S v ks) (h1 : ∀ k, S k → w'.heap[k]? = w.heap[k]?) (h2 : ∀ k, S k → S' k) : Kf w' S' v ks := fun w2 hw => h w2 (fun k hk => (hw k (h2 k hk)).trans (h1 k hk))
/-- A world but for what is labelled L: 1 its block, 2 its kinds, 3 its pool, 4 the map of sets, 5 the map of tables, 10 + s the table of the set s. -/
def Wx (L : Nat) (w : World) (own : Nat → Nat) (gw : Nat) (vk : Value) (gp gm gt M : Nat) (ks : List Kind) (gs fr : List Nat) (f : Int × Int → Option Nat) (q : Nat → Option Nat) (T : Nat → Ts) : Prop :=
  (own gw = 1 ∧ own gm = 4 ∧ own gt = 5) ∧ (gm < w.heap.size ∧ gt < w.heap.size) ∧ Wc w gw vk gp gm gt ∧ Kf w (Lb own w 2) vk ks ∧ (L ≠ 3 → Pl w (Lb own w 3) gp 200 gs fr) ∧ (L ≠ 4 → Mp w gm M f) ∧ (L ≠ 5 → Mq w gt M q) ∧
  ∀ s g, q s = some g → L ≠ 10 + s → TbS w (Lb own w (10 + s)) g (T s) M
section
variable {L : Nat} {w w' : World} {own : Nat → Nat} {gw gp gm gt M M' : Nat} {vk : Value} {ks : List Kind} {gs fr gs' fr' : List Nat} {f f' : Int × Int → Option Nat} {q q' : Nat → Option Nat} {T T' : Nat → Ts}
theorem Wx.up (h : Wx L w own gw vk gp gm gt M ks gs fr f q T) (hM : M ≤ M') : Wx L w own gw vk gp gm gt M' ks gs fr f q T := by
  obtain ⟨h1, hlt, h2, h3, h4, h5, h6, h7⟩ := h
  exact ⟨h1, hlt, h2, h3, h4, fun e => (h5 e).mono hM, fun e => (h6 e).mono hM, fun s g hg e => (h7 s g hg e).up hM⟩
/-- Where only what is labelled L, or nobody's, is written, the rest stays. -/
theorem Wx.frame {S : Nat → Prop} (h : Wx 0 w own gw vk gp gm gt M ks gs fr f q T) (hL : L = 0 ∨ 3 ≤ L) (hm : Mv w w' S) (hS : ∀ k, k < w.heap.size → S k → own k = L ∨ own k = 0) : Wx L w' (rel own w L) gw vk gp gm gt M ks gs fr f q T := by
  obtain ⟨⟨a1, a2, a3⟩, ⟨b1, b2⟩, h2, h3, h4, h5, h6, h7⟩ := h
  have hsz := hm.size
  have hw : gw < w.heap.size := lt_of_block h2
  refine ⟨⟨(rel_old hw).trans a1, (rel_old b1).trans a2, (rel_old b2).trans a3⟩, ⟨by omega, by omega⟩, hm.at h2 (fun e => by have := hS gw hw e; omega), h3.next (fun k hk => hm.2.2.2.2 k hk.1 (fun e => by have := hS k hk.1 e; have := hk.2; omega)) (fun k hk => hk.rel hsz), fun e => ?_, fun e => ?_, fun e => ?_, fun s g hg e => ?_⟩
  · exact ((h4 (by omega)).frame hm (fun k hk e' => by have := hS k hk.1 e'; have := hk.2; omega)).mono (fun k hk => hk.rel hsz)
  · exact (h5 (by omega)).same (hm.2.2.2.2 gm b1 (fun e' => by have := hS gm b1 e'; omega))
  · exact (h6 (by omega)).same (hm.2.2.2.2 gt b2 (fun e' => by have := hS gt b2 e'; omega))
  · exact ((h7 s g hg (by omega)).frame hm (fun k hk e' => by have := hS k hk.1 e'; have := hk.2; omega)).mono (fun k hk => hk.rel hsz)
theorem Wx.later (h : Wx 0 w own gw vk gp gm gt M ks gs fr f q T) (hb : Below w.heap.size w w') : Wx 0 w' (rel own w 0) gw vk gp gm gt M ks gs fr f q T := h.frame (.inl rfl) (Mv.of_below hb (fun _ => False)) (fun _ _ e => e.elim)
/-- The blocks of L and what is new. -/
theorem Lb.of_new {k : Nat} (h : Nw w (Lb own w L) k) (hk : k < w'.heap.size) : Lb (Go.Proofs.YtfbhoemfabgjpaaGreat.rel own w L) w' L k := by
  rcases h with h | h
  · exact ⟨hk, (rel_old h.1).trans h.2⟩
  · exact ⟨hk, rel_new h⟩
/-- A table turns. -/
theorem Wx.table {s g : Nat} {t : Ts} (h : Wx 0 w own gw vk gp gm gt M ks gs fr f q T) (hm : Mv w w' (Lb own w (10 + s))) (hg : q s = some g) (ht : TbS w' (Nw w (Lb own w (10 + s))) g t M') (hM : M ≤ M') : Wx 0 w' (rel own w (10 + s)) gw vk gp gm gt M' ks gs fr f q (fun x => if x = s then t else T x) := by
  have k := (h.frame (.inr (by omega)) hm (fun k _ e => .inl e.2)).up hM
  obtain ⟨h1, hlt, h2, h3, h4, h5, h6, h7⟩ := k
  refine ⟨h1, hlt, h2, h3, fun _ => h4 (by omega), fun _ => h5 (by omega), fun _ => h6 (by omega), fun x g' hx _ => ?_⟩
  by_cases e : x = s
  · subst e
    rw [hg] at hx
    obtain rfl := Option.some.inj hx
    simp only [if_true]
    exact ht.tight.mono (fun k hk => Lb.of_new hk.1 hk.2)
  · simp only [if_neg e]
    exact h7 x g' hx (by omega)
/-- The pool turns. -/
theorem Wx.pool (h : Wx 0 w own gw vk gp gm gt M ks gs fr f q T) (hm : Mv w w' (Lb own w 3)) (ht : Pl w' (Lb (rel own w 3) w' 3) gp 200 gs' fr') : Wx 0 w' (rel own w 3) gw vk gp gm gt M ks gs' fr' f q T := by
  have k := h.frame (L := 3) (.inr (by omega)) hm (fun k _ e => .inl e.2)
  obtain ⟨h1, hlt, h2, h3, h4, h5, h6, h7⟩ := k
  exact ⟨h1, hlt, h2, h3, fun _ => ht, fun _ => h5 (by omega), fun _ => h6 (by omega), fun x g' hx _ => h7 x g' hx (by omega)⟩
theorem mv_turned {g : Nat} (h : w.mapTurned w' g) : Mv w w' (fun k => k = g) := by
  exact (Mv.refl w (fun k => k = g)).grown h.grown (fun k _ e => (Option.some.inj e).symm)
/-- The map of sets turns. -/
theorem Wx.sets (h : Wx 0 w own gw vk gp gm gt M ks gs fr f q T) (hm : w.mapTurned w' gm) (hf : Mp w' gm M' f') (hM : M ≤ M') : Wx 0 w' (rel own w 4) gw vk gp gm gt M' ks gs fr f' q T := by
  have k := (h.frame (L := 4) (.inr (by omega)) (mv_turned hm) (fun k _ e => .inl (by rw [e]; exact h.1.2.1))).up hM
  obtain ⟨h1, hlt, h2, h3, h4, h5, h6, h7⟩ := k
  exact ⟨h1, hlt, h2, h3, fun _ => h4 (by omega), fun _ => hf, fun _ => h6 (by omega), fun x g' hx _ => h7 x g' hx (by omega)⟩
/-- The map of tables turns: nothing comes to it. -/
theorem Wx.less (h : Wx 0 w own gw vk gp gm gt M ks gs fr f q T) (hm : w.mapTurned w' gt) (hf : Mq w' gt M' q') (hM : M ≤ M') (hq : ∀ s g, q' s = some g → q s = some g) : Wx 0 w' (rel own w 5) gw vk gp gm gt M' ks gs fr f q' T := by
  have k := (h.frame (L := 5) (.inr (by omega)) (mv_turned hm) (fun k _ e => .inl (by rw [e]; exact h.1.2.2))).up hM
  obtain ⟨h1, hlt, h2, h3, h4, h5, h6, h7⟩ := k
  exact ⟨h1, hlt, h2, h3, fun _ => h4 (by omega), fun _ => h5 (by omega), fun _ => hf, fun x g' hx _ => h7 x g' (hq x g' hx) (by omega)⟩
/-- A table comes to it, whose blocks are new since w0. -/
theorem Wx.more {w0 : World} {s g : Nat} {t : Ts} (h : Wx 0 w0 own gw vk gp gm gt M ks gs fr f q T) (hb : Below w0.heap.size w0 w) (ht : TbS w (fun k => w0.heap.size ≤ k) g t M') (hM : M ≤ M') (hs : q s = none) (hm : w.mapTurned w' gt) (hf : Mq w' gt M' (fun x => if x = s then some g else q x)) :
    Wx 0 w' (rel (rel own w0 (10 + s)) w 5) gw vk gp gm gt M' ks gs fr f (fun x => if x = s then some g else q x) (fun x => if x = s then t else T x) := by
  have k0 := h.frame (L := 10 + s) (.inr (by omega)) (Mv.of_below hb (fun _ => False)) (fun _ _ e => e.elim)
  have k : Wx 0 w (rel own w0 (10 + s)) gw vk gp gm gt M ks gs fr f q T := by
    obtain ⟨h1, hlt, h2, h3, h4, h5, h6, h7⟩ := k0
    refine ⟨h1, hlt, h2, h3, fun _ => h4 (by omega), fun _ => h5 (by omega), fun _ => h6 (by omega), fun x g' hx _ => h7 x g' hx (fun e => ?_)⟩
    obtain rfl : s = x := by omega
    rw [hs] at hx
    cases hx
  have k2 := (k.frame (L := 5) (.inr (by omega)) (mv_turned hm) (fun k' _ e => .inl (by rw [e]; exact k.1.2.2))).up hM
  obtain ⟨h1, hlt, h2, h3, h4, h5, h6, h7⟩ := k2
  refine ⟨h1, hlt, h2, h3, fun _ => h4 (by omega), fun _ => h5 (by omega), fun _ => hf, fun x g' hx _ => ?_⟩
  by_cases e : x = s
  · subst e
    simp only [if_true, Option.some.injEq] at hx ⊢
    subst hx
    have hgt : gt < w0.heap.size := h.2.1.2
    refine ((ht.tight.frame (mv_turned hm) (fun k' hk e' => ?_))).mono (fun k' hk => ⟨Nat.lt_of_lt_of_le hk.2 (mv_turned hm).size, ?_⟩)
    · have := hk.1
      subst e'
      omega
    · rw [rel_old hk.2, rel_new hk.1]
  · simp only [if_neg e] at hx ⊢
    exact h7 x g' hx (by omega)
end
end Go.Proofs.YtfbhoemfabgjpaaGreat
