/-
  The document's Take.
-/
import Derived.Test.YtejbdhbphbgckaaDocAll
namespace Go.Proofs.Ytejbdhbphbgckaa
open Go.RowKit
theorem hs_take {gs : List Nat} {i x : Nat} (hx : x ≤ 1000000) : (hsOf gs).set i x = hsOf (gs.set i x) := by
  simp only [hsOf, List.map_set, Nat.min_eq_left hx]
theorem os_take {n i : Nat} {gs fr : List Nat} (h : Ok n gs (i :: fr)) : (osOf gs (i :: fr)).set i true = osOf (gs.set i (gs.getD i 0 + 1)) fr := by
  have hi := h.2.2.2.2.2 i (by simp)
  have hnf : i ∉ fr := (List.nodup_cons.1 h.2.2.2.2.1).1
  apply List.ext_getElem
  · simp [osOf_len]
  · intro j h1 h2
    have hj : j < gs.length := by simpa [osOf_len] using h1
    rw [osOf_at _ _ j (by simpa using hj), List.getElem_set]
    by_cases hij : i = j
    · subst hij
      rw [if_pos rfl]
      symm
      simp only [on, getD_set hi.1, if_true, Bool.and_eq_true, decide_eq_true_eq, Bool.not_eq_true', List.contains_eq_mem, decide_eq_false_iff_not]
      exact ⟨by omega, hnf⟩
    · rw [if_neg hij, osOf_at _ _ j hj]
      simp only [on, getD_set hi.1, if_neg hij, contains_cons_ne hij]
theorem Fw.tail {w : World} {g o n c x : Nat} {l : List Nat} (h : Fw w (.slice (some ⟨g, o, none⟩) n c) (x :: l)) (hg : g < w.heap.size) : Fw w (.slice (if c = 1 then some ⟨g, o, none⟩ else some ⟨g, o + 1, none⟩) l.length (c - 1)) l := by
  have h' := h
  rcases h with ⟨h'', -⟩ | ⟨g', o', c', h'', h1, h2, -, -⟩
  · simp at h''
  · simp only [Value.slice.injEq, Option.some.injEq, Addr.mk.injEq, and_true] at h''
    obtain ⟨⟨rfl, rfl⟩, -, rfl⟩ := h''
    simp only [List.length_cons] at h1
    by_cases hc : c = 1
    · obtain rfl : l = [] := List.eq_nil_of_length_eq_zero (by omega)
      exact .inr ⟨g, o, c - 1, by simp [hc], by simp, by omega, hg, fun j hj => by simp at hj⟩
    · refine .inr ⟨g, o + 1, c - 1, by simp [hc], by omega, by omega, hg, fun j hj => ?_⟩
      have := h'.at (j + 1) (by simp; omega)
      rw [show o + 1 + j = o + (j + 1) by omega, this]
      simp
set_option maxHeartbeats 4000000 in
set_option maxRecDepth 100000 in
theorem dtake_walk (g n i y : Nat) (vg vo vf : Value) (hs fr : List Nat) (os : List Bool) (w : World) (h : Dm w g n vg vo vf hs os (i :: fr)) (hi : i < hs.length) (hio : i < os.length) (hy : hs[i] = y) (hy2 : y ≤ 1000000) :
    Calls Try.prog 19 #[.pointer (some ⟨g, 0, none⟩)] w fun e w' => e = .returned (.tuple #[ev (i, y + 1), .int .i64 0]) ∧ ∃ vf', Dm w' g n vg vo vf' (hs.set i (y + 1)) (os.set i true) fr ∧ vf'.ownBlock = vf.ownBlock ∧ Mv w w' (fun k => k = g ∨ vg.ownBlock = some k ∨ vo.ownBlock = some k) := by
  obtain ⟨gf, o, c, rfl, hc1, hc2⟩ := h.2.2.2.1.form (by simp)
  simp only [List.length_cons] at *
  obtain ⟨gg, cg, rfl, -, -⟩ := own_form h.2.1 (by omega)
  obtain ⟨go, co, rfl, -, -⟩ := own_form h.2.2.1 (by omega)
  have hgf := h.2.2.2.1.lt gf rfl
  have hgg := (h.2.1.lt gg rfl).2
  have hgo := (h.2.2.1.lt go rfl).2
  have hg := h.lt
  have hba := below_alloc w (.cells #[.int .i64 0, .int .i64 0] 41)
  have h1 := h.later hba
  obtain ⟨-, c1, c2, c3⟩ := h1.cell
  have z3 := h1.frozen 3
  have ef := h1.2.2.2.1.at 0 (by simp)
  simp only [List.getElem_cons_zero, Nat.add_zero] at ef
  obtain ⟨vf', hvf'⟩ : ∃ v : Value, v = .slice (if c = 1 then some ⟨gf, o, none⟩ else some ⟨gf, o + 1, none⟩) fr.length (c - 1) := ⟨_, rfl⟩
  have hob : vf'.ownBlock = some gf := by rw [hvf']; split <;> rfl
  have h2 : Dm ((w.alloc (.cells #[.int .i64 0, .int .i64 0] 41)).setCell ⟨g, 3, none⟩ vf') g n (.slice (some ⟨gg, 0, none⟩) hs.length cg) (.slice (some ⟨go, 0, none⟩) os.length co) vf' hs os fr := h1.put_free (by rw [hvf']; exact h1.2.2.2.1.tail (by simp; omega)) (by rw [hob]; exact h1.2.2.2.2.1.2.2) (fun k e1 e2 => h1.2.2.2.2.2.2.1 k e1 (by rw [hob] at e2; exact e2)) (fun k e1 e2 => h1.2.2.2.2.2.2.2 k e1 (by rw [hob] at e2; exact e2))
  have HM2 : Hid (Mv w ((w.alloc (.cells #[.int .i64 0, .int .i64 0] 41)).setCell ⟨g, 3, none⟩ vf') (fun k => k = g ∨ (Value.slice (some ⟨gg, 0, none⟩) hs.length cg).ownBlock = some k ∨ (Value.slice (some ⟨go, 0, none⟩) os.length co).ownBlock = some k)) := (Mv.of_below hba _).set (.inl rfl) _ _
  have bx2 : ((w.alloc (.cells #[.int .i64 0, .int .i64 0] 41)).setCell ⟨g, 3, none⟩ vf').heap[w.heap.size]? = some (.cells #[.int .i64 0, .int .i64 0] 41 (0, 0)) := (heap_setCell_other _ ⟨g, 3, none⟩ w.heap.size _ (by show w.heap.size ≠ g; omega)).trans (heap_alloc_new w _)
  have H2 := hide h2
  have HVF := hide hvf'
  have HOB := hide hob
  have t1 : (0 : Int) < (fr.length : Int) + 1 := by omega
  have t2 : (fr.length : Int) + 1 > 0 := by omega
  have t3 : (1 : Int) ≤ (fr.length : Int) + 1 := by omega
  have t4 : (1 : Int) ≤ (c : Int) := by omega
  clear h h1 h2 hba hob
  go_enter Try.func19, Try.ntmps19
  go_upto_region 4 with fail
  have hcomm : (w.setCell ⟨g, 3, none⟩ vf').alloc (.cells #[.int .i64 0, .int .i64 0] 41) = (w.alloc (.cells #[.int .i64 0, .int .i64 0] 41)).setCell ⟨g, 3, none⟩ vf' := (World.setCell_alloc_past (w := w) _ g 3 vf' hg).symm
  (try rw [← hvf'])
  rw [hcomm]
  clear hcomm hvf' c1 c2 c3 z3 ef
  obtain ⟨w2, hw2⟩ : ∃ X, X = (w.alloc (.cells #[.int .i64 0, .int .i64 0] 41)).setCell ⟨g, 3, none⟩ vf' := ⟨_, rfl⟩
  rw [← hw2] at H2 HM2 bx2 ⊢
  clear hw2
  obtain ⟨-, c1, c2, c3⟩ := H2.out.cell
  have e1 := own_int H2.out.2.1 i hi
  rw [hy] at e1
  have f1 := H2.out.2.1.frozenAt i
  have u1 : (i : Int) < (hs.length : Int) := by omega
  have u2 : (i : Int) < (os.length : Int) := by omega
  have tw : IntKind.i64.wrap ((y : Int) + 1) = (y : Int) + 1 := by rw [IntKind.wrap_i64]; omega
  have h3 := H2.out.set_gen i (y + 1)
  have HM3 := hide (HM2.out.set (g := gg) (.inr (.inl rfl)) i (.int .i64 ((y + 1 : Nat) : Int)))
  have bx3 : (w2.setCell ⟨gg, i, none⟩ (.int .i64 ((y + 1 : Nat) : Int))).heap[w.heap.size]? = some (.cells #[.int .i64 0, .int .i64 0] 41 (0, 0)) := (heap_setCell_other _ ⟨gg, i, none⟩ w.heap.size _ (by show w.heap.size ≠ gg; omega)).trans bx2
  have e3 := own_int (own_int_set H2.out.2.1 i (y + 1)) i (by simpa using hi)
  rw [List.getElem_set_self] at e3
  have ei : ((y + 1 : Nat) : Int) = (y : Int) + 1 := by omega
  rw [ei] at h3 HM3 bx3 e3
  have H3 := hide h3
  clear h3 hy ei
  go_upto_region 5 with fail
  obtain ⟨w3, hw3⟩ : ∃ X, X = w2.setCell ⟨gg, i, none⟩ (.int .i64 ((y : Int) + 1)) := ⟨_, rfl⟩
  rw [← hw3] at H3 HM3 bx3 e3 ⊢
  clear hw3 c1 c2 c3 e1 f1 H2 HM2 bx2
  obtain ⟨-, c1, c2, c3⟩ := H3.out.cell
  have e2 := own_bool H3.out.2.2.1 i hio
  have f2 := H3.out.2.2.1.frozenAt i
  have h4 := H3.out.set_on i true
  have HM4 := hide (HM3.out.set (g := go) (.inr (.inr rfl)) i (.bool true))
  have bx4 : (w3.setCell ⟨go, i, none⟩ (.bool true)).heap[w.heap.size]? = some (.cells #[.int .i64 0, .int .i64 0] 41 (0, 0)) := (heap_setCell_other _ ⟨go, i, none⟩ w.heap.size _ (by show w.heap.size ≠ go; omega)).trans bx3
  have hgne : go ≠ gg := fun e => H3.out.2.2.2.2.2.1 gg rfl (by rw [← e]; rfl)
  have e4 : (w3.setCell ⟨go, i, none⟩ (.bool true)).cell? ⟨gg, i, none⟩ = some (.int .i64 ((y : Int) + 1)) := by
    rw [World.cell?_setCell_far _ ⟨go, i, none⟩ _ _ hgne]
    exact e3
  have H4 := hide h4
  clear h4
  go_upto_region 6 with fail
  obtain ⟨w4, hw4⟩ : ∃ X, X = w3.setCell ⟨go, i, none⟩ (.bool true) := ⟨_, rfl⟩
  rw [← hw4] at H4 HM4 bx4 e4 ⊢
  clear hw4 c1 c2 c3 e2 f2 e3 H3 HM3 bx3
  obtain ⟨-, c1, c2, c3⟩ := H4.out.cell
  have b0 : w4.cell? ⟨w.heap.size, 0, none⟩ = some (.int .i64 0) := by rw [cell_of_row w4 w.heap.size _ _ 41 (0, 0) bx4]; rfl
  have b1 : w4.cell? ⟨w.heap.size, 1, none⟩ = some (.int .i64 0) := by rw [cell_of_row w4 w.heap.size _ _ 41 (0, 0) bx4]; rfl
  have bf : ∀ q, w4.frozen? ⟨w.heap.size, q, none⟩ = false := fun q => frozen_of_row w4 w.heap.size q _ 41 bx4
  go_wp2_with fail
  (try simp only [Exit.inBlock, Exit.then])
  refine bodyPost_ret (v := .tuple #[ev (i, y + 1), .int .i64 0]) ?_ rfl ⟨rfl, vf', ?_, HOB.out, ?_⟩
  · rw [results_cell_tmp rfl]
    go_simp
    rfl
  · refine H4.out.frame (T := fun k => k = w.heap.size) (((Mv.refl w4 (fun k => k = w.heap.size)).set rfl _ _).set rfl _ _) (by omega) (fun k e e' => ?_) (fun k e e' => ?_) (fun k e e' => ?_)
    · simp only [Value.ownBlock, Option.some.injEq] at e
      omega
    · simp only [Value.ownBlock, Option.some.injEq] at e
      omega
    · rw [HOB.out] at e
      have := Option.some.inj e
      omega
  · exact HM4.out.trans (S' := fun k => k = w.heap.size) (((Mv.refl w4 (fun k => k = w.heap.size)).set rfl _ _).set rfl _ _) (fun k hk e => by omega)
theorem dtake_free {w : World} {S : Nat → Prop} {g n i : Nat} {gs fr : List Nat} (h : Dl w S g n gs (i :: fr)) :
    Calls Try.prog 19 #[.pointer (some ⟨g, 0, none⟩)] w fun e w' => e = .returned (.tuple #[ev (i, gs.getD i 0 + 1), .int .i64 0]) ∧ Dl w' (Nw w S) g n (gs.set i (gs.getD i 0 + 1)) fr ∧ Mv w w' S := by
  obtain ⟨⟨vg, vo, vf, hp, s0, s1, s2, s3⟩, ho⟩ := h
  have hi := ho.2.2.2.2.2 i (by simp)
  refine (dtake_walk g n i (gs.getD i 0) vg vo vf _ fr _ w hp (by rw [hsOf_len]; exact hi.1) (by rw [osOf_len]; exact hi.1) (by rw [hsOf_at gs i hi.1]; exact Nat.min_eq_left (by omega)) (by omega)).mono ?_
  rintro e w' ⟨rfl, vf', q1, q2, q3⟩
  rw [hs_take (by omega), os_take ho] at q1
  refine ⟨rfl, ⟨⟨vg, vo, vf', q1, .inl s0, s1.mono (fun _ e => .inl e), s2.mono (fun _ e => .inl e), fun k e => .inl (s3 k (q2 ▸ e))⟩, ok_take ho⟩, q3.mono (fun k _ e => ?_)⟩
  rcases e with rfl | e | e
  · exact s0
  · exact s1 k e
  · exact s2 k e
set_option maxHeartbeats 2000000 in
theorem dtake_full {w : World} {S : Nat → Prop} {g : Nat} {gs : List Nat} (h : Dl w S g gs.length gs []) :
    Calls Try.prog 19 #[.pointer (some ⟨g, 0, none⟩)] w fun e w' => e = .returned (.tuple #[ev (0, 0), .int .i64 40]) ∧ Below w.heap.size w w' := by
  obtain ⟨⟨vg, vo, vf, hp, s0, s1, s2, s3⟩, ho⟩ := h
  have hba := below_alloc w (.cells #[.int .i64 0, .int .i64 0] 41)
  obtain ⟨aof, cf, rfl, -, -⟩ := hp.2.2.2.1.len
  obtain ⟨aog, cg, rfl⟩ := own_len hp.2.1
  obtain ⟨c0, c1, c2, c3⟩ := (hp.later hba).cell
  rw [hsOf_len] at c1
  clear hp s0 s1 s2 s3 ho hba
  go_enter Try.func19, Try.ntmps19
  go_wp2_with fail
  go_quiet (fail)
  go_wp2_with fail
  (try simp only [Exit.inBlock, Exit.then])
  refine bodyPost_ret (v := .tuple #[ev (0, 0), .int .i64 40]) ?_ rfl ⟨rfl, (((Mv.of_below (below_on (below_alloc w _) (below_drawn _ nq)) (fun k => k = w.heap.size)).set rfl _ _).set rfl _ _).below (Nat.le_refl _) (fun k e => by omega)⟩
  rw [results_cell_tmp rfl]
  go_simp
  rfl
theorem hs_new (gs : List Nat) : hsOf gs ++ [1] = hsOf (gs ++ [1]) := by simp [hsOf]
theorem os_new (gs : List Nat) : osOf gs [] ++ [true] = osOf (gs ++ [1]) [] := by
  apply List.ext_getElem
  · simp [osOf_len]
  · intro j h1 h2
    have hj : j < gs.length + 1 := by simpa [osOf_len] using h1
    rw [osOf_at _ _ j (by simpa using hj)]
    by_cases hij : gs.length = j
    · subst hij
      rw [List.getElem_append_right (by simp [osOf_len])]
      simp [on]
    · have hj' : j < gs.length := by omega
      rw [List.getElem_append_left (by simpa [osOf_len] using hj'), osOf_at _ _ j hj']
      simp [on, List.getD_eq_getElem?_getD, List.getElem?_append_left hj']
/-- A row of a pool's own grows: where it lies then. -/
theorem grow_ne {W : World} {g g9 : Nat} {v : Value} (hne : v.ownBlock ≠ some g) (hg : g < W.heap.size) (ha : v.ownBlock = some g9 ∨ g9 = W.heap.size) : g9 ≠ g := fun e => by
  rcases ha with h | h
  · exact hne (by rw [h, e])
  · omega
theorem grow_ap {W : World} {g9 n c : Nat} {v u : Value} (h : Ap v u) (hu : ∀ k, u.ownBlock = some k → k < W.heap.size) (ha : v.ownBlock = some g9 ∨ g9 = W.heap.size) : Ap (.slice (some ⟨g9, 0, none⟩) n c) u := fun k e1 e2 => by
  simp only [Value.ownBlock, Option.some.injEq] at e1
  subst e1
  rcases ha with h' | h'
  · exact h _ h' e2
  · have := hu _ e2
    omega
/-- The generations grow. -/
theorem Dm.grow_gens {w W W' : World} {g n g9 c9 x : Nat} {vg vo vf : Value} {hs fr : List Nat} {os : List Bool} (h : Dm w g n vg vo vf hs os fr) (hb : Below w.heap.size w W) (ho : W'.ownsRow 0 3 1 (.slice (some ⟨g9, 0, none⟩) (hs.length + 1) c9) (hs.length + 1) (ic hs ++ [.int .i64 (x : Int)])) (hg : W.grownBy W' vg.ownBlock) (ha : vg.ownBlock = some g9 ∨ g9 = W.heap.size) :
    W'.heap[g]? = some (.cells #[.int .i64 (n : Int), vg, vo, vf] 62 (0, 0)) ∧ Dm (W'.setCell ⟨g, 1, none⟩ (.slice (some ⟨g9, 0, none⟩) (hs.length + 1) c9)) g n (.slice (some ⟨g9, 0, none⟩) (hs.length + 1) c9) vo vf (hs ++ [x]) os fr ∧ (∀ k, (Value.slice (some ⟨g9, 0, none⟩) (hs.length + 1) c9).ownBlock = some k → vg.ownBlock = some k ∨ w.heap.size ≤ k) ∧ Mv w (W'.setCell ⟨g, 1, none⟩ (.slice (some ⟨g9, 0, none⟩) (hs.length + 1) c9)) (fun k => k = g ∨ vg.ownBlock = some k) := by
  have hW := h.later hb
  have hsz := hb.size
  have hlt := hW.lt
  obtain ⟨a1, a2, a3, a4, ⟨a5, a6, a7⟩, a8, a9, a10⟩ := hW
  have hg1 := (hg.block g hlt (fun e => a5 e.symm)).trans a1
  have ne := grow_ne a5 hlt ha
  have hsz2 := hg.size
  have k3 : W'.ownsRow 0 4 1 vo os.length (bc os) := own_kept a3 hg (fun k e1 e2 => a8 k e2 e1)
  have k4 : Fw W' vf fr := a4.same hsz2 (fun k e => hg.block k (a4.lt k e) (fun e' => a9 k e'.symm e))
  have ap1 : Ap (.slice (some ⟨g9, 0, none⟩) (hs.length + 1) c9) vo := grow_ap a8 (fun k e => (a3.lt k e).2) ha
  have ap2 : Ap (.slice (some ⟨g9, 0, none⟩) (hs.length + 1) c9) vf := grow_ap a9 (fun k e => a4.lt k e) ha
  have n1 : (Value.slice (some ⟨g9, 0, none⟩) (hs.length + 1) c9).ownBlock ≠ some g := fun e => ne (by simpa [Value.ownBlock] using e)
  refine ⟨hg1, ⟨?_, ?_, own_set k3 a6, k4.set a7, ⟨n1, a6, a7⟩, ap1, ap2, a10⟩, fun k e => ?_, ((Mv.of_below hb _).grown hg (fun k _ e => .inr e)).set (.inl rfl) _ _⟩
  · rw [heap_setCell_same W' g 1 _ 62 _ hg1]
    rfl
  · rw [List.length_append, ic_append]
    exact own_set ho n1
  · simp only [Value.ownBlock, Option.some.injEq] at e
    subst e
    rcases ha with h | h
    · exact .inl h
    · exact .inr (by omega)
theorem Dm.grow_ons {w W W' : World} {g n g9 c9 : Nat} {x : Bool} {vg vo vf : Value} {hs fr : List Nat} {os : List Bool} (h : Dm w g n vg vo vf hs os fr) (hb : Below w.heap.size w W) (ho : W'.ownsRow 0 4 1 (.slice (some ⟨g9, 0, none⟩) (os.length + 1) c9) (os.length + 1) (bc os ++ [.bool x])) (hg : W.grownBy W' vo.ownBlock) (ha : vo.ownBlock = some g9 ∨ g9 = W.heap.size) :
    W'.heap[g]? = some (.cells #[.int .i64 (n : Int), vg, vo, vf] 62 (0, 0)) ∧ Dm (W'.setCell ⟨g, 2, none⟩ (.slice (some ⟨g9, 0, none⟩) (os.length + 1) c9)) g n vg (.slice (some ⟨g9, 0, none⟩) (os.length + 1) c9) vf hs (os ++ [x]) fr ∧ (∀ k, (Value.slice (some ⟨g9, 0, none⟩) (os.length + 1) c9).ownBlock = some k → vo.ownBlock = some k ∨ w.heap.size ≤ k) ∧ Mv w (W'.setCell ⟨g, 2, none⟩ (.slice (some ⟨g9, 0, none⟩) (os.length + 1) c9)) (fun k => k = g ∨ vo.ownBlock = some k) := by
  have hW := h.later hb
  have hsz := hb.size
  have hlt := hW.lt
  obtain ⟨a1, a2, a3, a4, ⟨a5, a6, a7⟩, a8, a9, a10⟩ := hW
  have hg1 := (hg.block g hlt (fun e => a6 e.symm)).trans a1
  have ne := grow_ne a6 hlt ha
  have hsz2 := hg.size
  have k2 : W'.ownsRow 0 3 1 vg hs.length (ic hs) := own_kept a2 hg (fun k e1 e2 => a8 k e1 e2)
  have k4 : Fw W' vf fr := a4.same hsz2 (fun k e => hg.block k (a4.lt k e) (fun e' => a10 k e'.symm e))
  have ap1 : Ap (.slice (some ⟨g9, 0, none⟩) (os.length + 1) c9) vg := grow_ap a8.symm (fun k e => (a2.lt k e).2) ha
  have ap2 : Ap (.slice (some ⟨g9, 0, none⟩) (os.length + 1) c9) vf := grow_ap a10 (fun k e => a4.lt k e) ha
  have n1 : (Value.slice (some ⟨g9, 0, none⟩) (os.length + 1) c9).ownBlock ≠ some g := fun e => ne (by simpa [Value.ownBlock] using e)
  refine ⟨hg1, ⟨?_, own_set k2 a5, ?_, k4.set a7, ⟨a5, n1, a7⟩, ap1.symm, a9, ap2⟩, fun k e => ?_, ((Mv.of_below hb _).grown hg (fun k _ e => .inr e)).set (.inl rfl) _ _⟩
  · rw [heap_setCell_same W' g 2 _ 62 _ hg1]
    rfl
  · rw [List.length_append, bc_append]
    exact own_set ho n1
  · simp only [Value.ownBlock, Option.some.injEq] at e
    subst e
    rcases ha with h | h
    · exact .inl h
    · exact .inr (by omega)
end Go.Proofs.Ytejbdhbphbgckaa
