/-
  Take.
-/
import Derived.Test.YtfbhoemfabgjpaaGreatINext
import Derived.Laws.ResultCell
namespace Go.Proofs.YtfbhoemfabgjpaaGreat
open Go.RowKit
set_option maxRecDepth 100000
set_option maxHeartbeats 4000000 in
set_option maxRecDepth 100000 in
theorem take_of (g n i : Nat) (gs fr : List Nat) (lv : List (Nat × Nat)) (w : World) (R : World → Value → Value → Value → Prop) (hi : i < gs.length) (hil : i < lv.length) (hx : gs[i] ≤ 1000000)
    (hn : Calls Tryz.prog 88 #[.pointer (some ⟨g, 0, none⟩)] (w.alloc (.cells #[.int .i64 0, .int .i64 0] 34)) fun e w1 => e = .returned (.tuple #[.int .i64 (i : Int), .int .i64 0]) ∧ ∃ vg vl vf, Pm w1 g n vg vl vf gs fr lv ∧ R w1 vg vl vf)
    (hR : ∀ w1 vg vl vf, Pm w1 g n vg vl vf gs fr lv → R w1 vg vl vf → w1.heap[w.heap.size]? = some (.cells #[.int .i64 0, .int .i64 0] 34 (0, 0)) ∧ vg.ownBlock ≠ some w.heap.size ∧ vl.ownBlock ≠ some w.heap.size ∧ vf.ownBlock ≠ some w.heap.size) :
    Calls Tryz.prog 66 #[.pointer (some ⟨g, 0, none⟩)] w fun e w' => e = .returned (.tuple #[ev (i, gs[i] + 1), .int .i64 0]) ∧ ∃ w1 vg vl vf, R w1 vg vl vf ∧ Pm w1 g n vg vl vf gs fr lv ∧ Pm w' g n vg vl vf (gs.set i (gs[i] + 1)) fr (lv.set i (i, gs[i] + 1)) ∧ Mv w1 w' (fun k => vg.ownBlock = some k ∨ vl.ownBlock = some k ∨ k = w.heap.size) := by
  have HN := hide hn
  have HR := hide hR
  clear hn hR
  go_enter Tryz.func66, Tryz.ntmps66
  go_wp2_with fail
  refine HN.out.mono ?_
  rintro e w1 ⟨rfl, vg, vl, vf, hp, hr⟩
  obtain ⟨r1, r2, r3, rf⟩ := HR.out w1 vg vl vf hp hr
  have hgw : g ≠ w.heap.size := fun e => by
    have := hp.1
    rw [e, r1] at this
    simp at this
  obtain ⟨gg, cg, rfl, hg1, hg2⟩ := own_form hp.2.1 (by omega)
  obtain ⟨gl, cl, rfl, hl1, hl2⟩ := own_form hp.2.2.1 (by omega)
  have hne : gg ≠ gl := fun e => hp.2.2.2.2.2.1 gg rfl (by rw [e]; rfl)
  have hgg : gg ≠ g := fun e => hp.2.2.2.2.1.1 (by rw [e]; rfl)
  have hgl : gl ≠ g := fun e => hp.2.2.2.2.1.2.1 (by rw [e]; rfl)
  have hwg : gg ≠ w.heap.size := fun e => r2 (by rw [← e]; rfl)
  have hwl : gl ≠ w.heap.size := fun e => r3 (by rw [← e]; rfl)
  obtain ⟨y, hy⟩ : ∃ y, y = gs[i] := ⟨_, rfl⟩
  obtain ⟨c0, c1, c2, c3⟩ := hp.cell
  have e1 := own_int hp.2.1 i hi
  have f1 := hp.2.1.frozenAt i
  have hp2 := hp.set_gen i (y + 1)
  obtain ⟨d0, d1, d2, d3⟩ := hp2.cell
  have ho2 := own_int_set hp.2.1 i (y + 1)
  have e2 := own_int ho2 i (by simpa using hi)
  rw [List.getElem_set_self] at e2
  obtain ⟨l1, l2⟩ := i_own_ent hp2.2.2.1 i hil
  have lf1 := hp2.2.2.1.frozenAt (i * 2)
  have lf2 := hp2.2.2.1.frozenAt (i * 2 + 1)
  have r4 : (w1.setCell ⟨gg, i, none⟩ (.int .i64 ((y + 1 : Nat) : Int))).heap[w.heap.size]? = some (.cells #[.int .i64 0, .int .i64 0] 34 (0, 0)) := (heap_setCell_other w1 ⟨gg, i, none⟩ w.heap.size _ (Ne.symm hwg)).trans r1
  have HP2 := hide hp2
  have HP1 := hide hp
  have HRR := hide hr
  have ei : ((y + 1 : Nat) : Int) = (y : Int) + 1 := by omega
  rw [← hy] at e1 hx
  have HM2 : Hid (Mv w1 (w1.setCell ⟨gg, i, none⟩ (.int .i64 ((y + 1 : Nat) : Int))) (fun k => (Value.slice (some ⟨gg, 0, none⟩) gs.length cg).ownBlock = some k ∨ (Value.slice (some ⟨gl, 0, none⟩) lv.length cl).ownBlock = some k ∨ k = w.heap.size)) := (Mv.refl w1 _).set (.inl rfl) _ _
  rw [ei] at e2 d0 d1 d2 d3 l1 l2 lf1 lf2 HP2 r4 HM2
  have t1 : (i : Int) < (gs.length : Int) := by omega
  have t2 : (i : Int) < (lv.length : Int) := by omega
  have tw : IntKind.i64.wrap ((y : Int) + 1) = (y : Int) + 1 := by rw [IntKind.wrap_i64]; omega
  have HY := hide hy
  clear hp hp2 ho2 hr HN HR ei hy
  go_upto_region 5 with fail
  obtain ⟨w2, hw2⟩ : ∃ X, X = w1.setCell ⟨gg, i, none⟩ (.int .i64 ((y : Int) + 1)) := ⟨_, rfl⟩
  rw [← hw2] at e2 d0 d1 d2 d3 l1 l2 lf1 lf2 HP2 r4 HM2 ⊢
  clear hw2 c0 c1 c2 c3 e1 f1
  have hp3 := HP2.out.set_live i i (y + 1) hil
  have r5 : ((w2.setCell ⟨gl, i * 2, none⟩ (.int .i64 (i : Int))).setCell ⟨gl, i * 2 + 1, none⟩ (.int .i64 ((y + 1 : Nat) : Int))).heap[w.heap.size]? = some (.cells #[.int .i64 0, .int .i64 0] 34 (0, 0)) := (heap_setCell_other _ ⟨gl, i * 2 + 1, none⟩ w.heap.size _ (Ne.symm hwl)).trans ((heap_setCell_other w2 ⟨gl, i * 2, none⟩ w.heap.size _ (Ne.symm hwl)).trans r4)
  have HM3 := hide ((HM2.out.set (g := gl) (.inr (.inl rfl)) (i * 2) (.int .i64 (i : Int))).set (g := gl) (.inr (.inl rfl)) (i * 2 + 1) (.int .i64 ((y + 1 : Nat) : Int)))
  have k0 := (hp3.later (below_drew _)).cell
  have ho3 := own_ent_set HP2.out.2.2.1 i i (y + 1) hil
  obtain ⟨m1, m2⟩ := i_own_ent ho3 i (by simpa using hil)
  rw [List.getElem_set_self] at m1 m2
  have HP3 := hide hp3
  have ei : ((y + 1 : Nat) : Int) = (y : Int) + 1 := by omega
  have k1 : ((w2.setCell ⟨gl, i * 2, none⟩ (.int .i64 (i : Int))).setCell ⟨gl, i * 2 + 1, none⟩ (.int .i64 ((y : Int) + 1))).cell? ⟨gg, i, none⟩ = some (.int .i64 ((y : Int) + 1)) := by
    rw [World.cell?_setCell_far _ ⟨gl, i * 2 + 1, none⟩ _ _ (Ne.symm hne), World.cell?_setCell_far _ ⟨gl, i * 2, none⟩ _ _ (Ne.symm hne)]
    exact e2
  have r6 : ((w2.setCell ⟨gl, i * 2, none⟩ (.int .i64 (i : Int))).setCell ⟨gl, i * 2 + 1, none⟩ (.int .i64 ((y : Int) + 1))).cell? ⟨w.heap.size, 0, none⟩ = some (.int .i64 0) := by
    rw [← ei, cell_of_row _ w.heap.size _ _ 34 (0, 0) r5]
    rfl
  have r7 : ((w2.setCell ⟨gl, i * 2, none⟩ (.int .i64 (i : Int))).setCell ⟨gl, i * 2 + 1, none⟩ (.int .i64 ((y : Int) + 1))).cell? ⟨w.heap.size, 1, none⟩ = some (.int .i64 0) := by
    rw [← ei, cell_of_row _ w.heap.size _ _ 34 (0, 0) r5]
    rfl
  have r8 : ∀ q, ((w2.setCell ⟨gl, i * 2, none⟩ (.int .i64 (i : Int))).setCell ⟨gl, i * 2 + 1, none⟩ (.int .i64 ((y : Int) + 1))).frozen? ⟨w.heap.size, q, none⟩ = false := fun q => by
    rw [← ei]
    exact frozen_of_row _ w.heap.size q _ 34 r5
  simp only at m1 m2
  rw [ei] at m1 m2 k0 HP3 HM3 r5
  obtain ⟨-, k2, k3, -⟩ := k0
  clear hp3 ho3 ei
  go_region_held3 (fun W => W.cell? ⟨g, 1, none⟩ = some (.slice (some ⟨gg, 0, none⟩) gs.length cg) ∧ W.cell? ⟨g, 2, none⟩ = some (.slice (some ⟨gl, 0, none⟩) lv.length cl) ∧ W.cell? ⟨gg, i, none⟩ = some (.int .i64 ((y : Int) + 1))) (go_keep) (fail)
  obtain ⟨w3, hw3⟩ : ∃ X, X = (w2.setCell ⟨gl, i * 2, none⟩ (.int .i64 (i : Int))).setCell ⟨gl, i * 2 + 1, none⟩ (.int .i64 ((y : Int) + 1)) := ⟨_, rfl⟩
  rw [← hw3] at m1 m2 k2 k3 HP3 HM3 r5 r6 r7 r8 ⊢
  clear hw3 k1 l1 l2 lf1 lf2 d0 d1 d2 d3 e2
  go_wp2_with fail
  (try simp only [Exit.inBlock, Exit.then])
  have hy := HY.out
  refine bodyPost_ret (v := .tuple #[ev (i, gs[i] + 1), .int .i64 0]) ?_ rfl ⟨rfl, w1, _, _, vf, HRR.out, HP1.out, ?_, ?_⟩
  · rw [results_cell_tmp rfl, ← hy]
    clear hy
    go_simp
    rfl
  · rw [← hy]
    refine HP3.out.frame (T := fun k => k = w.heap.size) ((((Mv.refl w3 (fun k => k = w.heap.size)).set rfl _ _).set rfl _ _).later (below_drew _)) hgw (fun k e e' => hwg ?_) (fun k e e' => hwl ?_) (fun k e e' => rf (by rw [e, e']))
    · simp only [Value.ownBlock, Option.some.injEq] at e
      exact e.trans e'
    · simp only [Value.ownBlock, Option.some.injEq] at e
      exact e.trans e'
  · exact ((HM3.out.set (.inr (.inr rfl)) _ _).set (.inr (.inr rfl)) _ _).later (below_drew _)
/-! ### Of a pool that is whole -/
theorem lv_len {n : Nat} {gs fr : List Nat} (h : Ok n gs fr) : (lvOf gs fr).length ≤ 1000000 := by rw [lvOf_len]; have := h.2.2.1; have := h.2.1; omega
theorem getD_set {gs : List Nat} {i j x : Nat} (h : i < gs.length) : (gs.set i x).getD j 0 = if i = j then x else gs.getD j 0 := by
  simp only [List.getD_eq_getElem?_getD, List.getElem?_set]
  by_cases hij : i = j
  · subst hij
    simp [h]
  · simp [hij]
theorem contains_cons_ne {i j : Nat} {fr : List Nat} (h : i ≠ j) : (i :: fr).contains j = fr.contains j := by
  simp [Ne.symm h]
/-- Who is free is given out. -/
theorem lv_take {n i : Nat} {gs fr : List Nat} (h : Ok n gs (i :: fr)) : (lvOf gs (i :: fr)).set i (i, gs.getD i 0 + 1) = lvOf (gs.set i (gs.getD i 0 + 1)) fr := by
  have hi := h.2.2.2.2.2 i (by simp)
  have hnf : i ∉ fr := (List.nodup_cons.1 h.2.2.2.2.1).1
  apply List.ext_getElem
  · simp [lvOf_len]
  · intro j h1 h2
    have hj : j < gs.length := by simpa [lvOf_len] using h1
    rw [lvOf_at _ _ j (by simpa using hj), List.getElem_set]
    by_cases hij : i = j
    · subst hij
      have e : on (gs.set i (gs.getD i 0 + 1)) fr i = true := by
        simp only [on, getD_set hi.1, if_true, Bool.and_eq_true, decide_eq_true_eq, Bool.not_eq_true', List.contains_eq_mem, decide_eq_false_iff_not]
        exact ⟨by omega, hnf⟩
      rw [if_pos rfl, e, if_pos rfl, getD_set hi.1, if_pos rfl]
    · rw [if_neg hij, lvOf_at _ _ j hj]
      have e : on (gs.set i (gs.getD i 0 + 1)) fr j = on gs (i :: fr) j := by
        simp only [on, getD_set hi.1, if_neg hij, contains_cons_ne hij]
      rw [e, getD_set hi.1, if_neg hij]
theorem ok_take {n i : Nat} {gs fr : List Nat} (h : Ok n gs (i :: fr)) : Ok n (gs.set i (gs.getD i 0 + 1)) fr := by
  obtain ⟨h1, h2, h3, h4, h5, h6⟩ := h
  have hi := h6 i (by simp)
  have hnd := List.nodup_cons.1 h5
  refine ⟨h1, h2, by simpa using h3, fun x hx => ?_, hnd.2, fun j hj => ?_⟩
  · rcases List.mem_or_eq_of_mem_set hx with h | h
    · exact h4 x h
    · subst h
      omega
  · have := h6 j (by simp [hj])
    have hij : i ≠ j := fun e => hnd.1 (e ▸ hj)
    rw [List.length_set, getD_set hi.1, if_neg hij]
    exact this
/-- A new one is given out. -/
theorem lv_new (gs : List Nat) : (lvOf gs [] ++ [(0, 0)]).set gs.length (gs.length, 1) = lvOf (gs ++ [1]) [] := by
  apply List.ext_getElem
  · simp [lvOf_len]
  · intro j h1 h2
    have hj : j < gs.length + 1 := by simpa [lvOf_len] using h1
    rw [lvOf_at _ _ j (by simpa using hj), List.getElem_set]
    by_cases hij : gs.length = j
    · subst hij
      simp [on]
    · rw [if_neg hij]
      have hj' : j < gs.length := by omega
      rw [List.getElem_append_left (by simpa [lvOf_len] using hj'), lvOf_at _ _ j hj']
      simp [on, List.getD_eq_getElem?_getD, List.getElem?_append_left hj']
theorem ok_new {n : Nat} {gs : List Nat} (h : Ok n gs []) (hn : gs.length < n) : Ok n (gs ++ [1]) [] := by
  obtain ⟨h1, h2, h3, h4, h5, h6⟩ := h
  refine ⟨h1, h2, by simp; omega, fun x hx => ?_, h5, fun j hj => by simp at hj⟩
  rcases List.mem_append.1 hx with h | h
  · exact h4 x h
  · simp at h
    omega
theorem take_free {w : World} {S : Nat → Prop} {g n i : Nat} {gs fr : List Nat} (h : Pl w S g n gs (i :: fr)) :
    Calls Tryz.prog 66 #[.pointer (some ⟨g, 0, none⟩)] w fun e w' => e = .returned (.tuple #[ev (i, gs.getD i 0 + 1), .int .i64 0]) ∧ Pl w' (Nw w S) g n (gs.set i (gs.getD i 0 + 1)) fr ∧ Mv w w' S := by
  obtain ⟨⟨vg, vl, vf, hp, s0, s1, s2, s3⟩, ho⟩ := h
  have hi := ho.2.2.2.2.2 i (by simp)
  have hgi : gs.getD i 0 = gs[i]'hi.1 := by simp [hi.1]
  have hfl := ho.free_len
  have hlen := ho.2.2.1
  have hn2 := ho.2.1
  simp only [List.length_cons] at hfl
  have hp0 := hp.later (below_alloc w (.cells #[.int .i64 0, .int .i64 0] 34))
  refine (take_of g n i gs fr (lvOf gs (i :: fr)) w (fun w1 vg' vl' vf' => vg' = vg ∧ vl' = vl ∧ vf'.ownBlock = vf.ownBlock ∧ Mv (w.alloc (.cells #[.int .i64 0, .int .i64 0] 34)) w1 (fun k => k = g ∨ vf.ownBlock = some k)) hi.1 (by rw [lvOf_len]; exact hi.1) (by rw [← hgi]; omega) ((next_free g n i vg vl vf gs fr _ _ hp0 (by omega)).mono ?_) ?_).mono ?_
  · rintro e w1 ⟨rfl, vf', q1, q2, q3⟩
    exact ⟨rfl, vg, vl, vf', q1, rfl, rfl, q2, q3⟩
  · rintro w1 vg' vl' vf' - ⟨rfl, rfl, q2, q3⟩
    refine ⟨q3.at (heap_alloc_new w _) ?_, fun e => ?_, fun e => ?_, fun e => ?_⟩
    · have := hp.lt
      rintro (e | e)
      · omega
      · have := (hp.2.2.2.1.lt _ e).2
        omega
    · have := (hp.2.1.lt _ e).2
      omega
    · have := (hp.2.2.1.lt _ e).2
      omega
    · rw [q2] at e
      have := (hp.2.2.2.1.lt _ e).2
      omega
  · rintro e w' ⟨rfl, w1, vg', vl', vf', ⟨rfl, rfl, q2, q3⟩, q4, q5, q6⟩
    rw [← hgi] at q5 ⊢
    rw [lv_take ho] at q5
    refine ⟨rfl, ⟨⟨_, _, _, q5, .inl s0, s1.mono (fun _ e => .inl e), s2.mono (fun _ e => .inl e), fun k e => .inl (s3 k (q2 ▸ e))⟩, ok_take ho⟩, ((Mv.of_below (below_alloc w _) S).trans q3 (fun k _ e => ?_)).trans q6 (fun k hk e => ?_)⟩
    · rcases e with rfl | e
      · exact s0
      · exact s3 k e
    · rcases e with e | e | e
      · exact s1 k e
      · exact s2 k e
      · omega
theorem take_full {w : World} {S : Nat → Prop} {g : Nat} {gs : List Nat} (h : Pl w S g gs.length gs []) :
    Calls Tryz.prog 66 #[.pointer (some ⟨g, 0, none⟩)] w fun e w' => e = .returned (.tuple #[ev (0, 0), .int .i64 40]) ∧ Below w.heap.size w w' := by
  obtain ⟨⟨vg, vl, vf, hp, s0, s1, s2, s3⟩, ho⟩ := h
  have HN := hide (next_full g vg vl vf gs _ _ (hp.later (below_alloc w (.cells #[.int .i64 0, .int .i64 0] 34))))
  clear hp s0 s1 s2 s3 ho
  go_enter Tryz.func66, Tryz.ntmps66
  go_wp2_with fail
  refine HN.out.mono ?_
  rintro e w1 ⟨rfl, rfl⟩
  clear HN
  go_wp2_with fail
  (try simp only [Exit.inBlock, Exit.then])
  refine bodyPost_ret (v := .tuple #[ev (0, 0), .int .i64 40]) ?_ rfl ⟨rfl, below_alloc w _⟩
  rw [results_cell_tmp rfl]
  go_simp
  rfl
theorem take_new {w : World} {S : Nat → Prop} {g n : Nat} {gs : List Nat} (h : Pl w S g n gs []) (hn : gs.length < n) :
    Calls Tryz.prog 66 #[.pointer (some ⟨g, 0, none⟩)] w fun e w' => e = .returned (.tuple #[ev (gs.length, 1), .int .i64 0]) ∧ Pl w' (Nw w S) g n (gs ++ [1]) [] ∧ Mv w w' S := by
  obtain ⟨⟨vg, vl, vf, hp, s0, s1, s2, s3⟩, ho⟩ := h
  have hn2 := ho.2.1
  have hp0 := hp.later (below_alloc w (.cells #[.int .i64 0, .int .i64 0] 34))
  have hsz : (w.alloc (.cells #[.int .i64 0, .int .i64 0] 34)).heap.size = w.heap.size + 1 := by simp
  have hgi : (gs ++ [0])[gs.length]'(by simp) = 0 := by simp
  refine (take_of g n gs.length (gs ++ [0]) [] (lvOf gs [] ++ [(0, 0)]) w (fun w1 vg' vl' vf' => vf' = vf ∧ (∀ k, vg'.ownBlock = some k → vg.ownBlock = some k ∨ w.heap.size + 1 ≤ k) ∧ (∀ k, vl'.ownBlock = some k → vl.ownBlock = some k ∨ w.heap.size + 1 ≤ k) ∧ Mv (w.alloc (.cells #[.int .i64 0, .int .i64 0] 34)) w1 (fun k => k = g ∨ vg.ownBlock = some k ∨ vl.ownBlock = some k)) (by simp) (by simp [lvOf_len]) (by rw [hgi]; omega) ((next_new g n vg vl vf gs _ _ hp0 hn (by omega) (lv_len ho)).mono ?_) ?_).mono ?_
  · rintro e w1 ⟨rfl, vg', vl', q1, q2, q3, q4⟩
    rw [hsz] at q2 q3
    exact ⟨rfl, vg', vl', vf, q1, rfl, q2, q3, q4⟩
  · rintro w1 vg' vl' vf' - ⟨rfl, q2, q3, q4⟩
    refine ⟨q4.at (heap_alloc_new w _) ?_, fun e => ?_, fun e => ?_, fun e => ?_⟩
    · have := hp.lt
      rintro (e | e | e)
      · omega
      · have := (hp.2.1.lt _ e).2
        omega
      · have := (hp.2.2.1.lt _ e).2
        omega
    · rcases q2 _ e with e | e
      · have := (hp.2.1.lt _ e).2
        omega
      · omega
    · rcases q3 _ e with e | e
      · have := (hp.2.2.1.lt _ e).2
        omega
      · omega
    · have := (hp.2.2.2.1.lt _ e).2
      omega
  · rintro e w' ⟨rfl, w1, vg', vl', vf', ⟨rfl, q2, q3, q4⟩, q5, q6, q7⟩
    rw [hgi] at q6 ⊢
    rw [Nat.zero_add, lv_new, List.set_append_right _ _ (Nat.le_refl _), Nat.sub_self, List.set_cons_zero] at q6
    refine ⟨rfl, ⟨⟨_, _, _, q6, .inl s0, fun k e => ?_, fun k e => ?_, s3.mono (fun _ e => .inl e)⟩, ok_new ho hn⟩, ((Mv.of_below (below_alloc w _) S).trans q4 (fun k _ e => ?_)).trans q7 (fun k hk e => ?_)⟩
    · rcases q2 k e with h | h
      · exact .inl (s1 k h)
      · exact .inr (by omega)
    · rcases q3 k e with h | h
      · exact .inl (s2 k h)
      · exact .inr (by omega)
    · rcases e with rfl | e | e
      · exact s0
      · exact s1 k e
      · exact s2 k e
    · rcases e with e | e | e
      · rcases q2 k e with h | h
        · exact s1 k h
        · omega
      · rcases q3 k e with h | h
        · exact s2 k h
        · omega
      · omega
end Go.Proofs.YtfbhoemfabgjpaaGreat
