import Derived.Test.YtmfoehaeejhlpaaGreatDoorGaAC
import Derived.Test.YtmfoehaeejhlpaaGreatDoorGaAA
/-
  The reader: needName, name, node, nameNode.
-/
namespace Go.Proofs.YtmfoehaeejhlpaaGreatDoor
open Go.RowKit Yn
set_option maxRecDepth 100000
def isStr : ByteArray → Value → World → Prop := fun t v _ => v = .string t
/-- A tree in blocks that are new since W. -/
def isTree (W : World) : Tree → Value → World → Prop := fun t v W' => Nd (fun q => W.heap.size ≤ q) W' t v
section
variable {W W' W2 : World} {B k : Nat} {ws : List ByteArray} {s : S}
theorem isName_not_end (h : isName ws s = true) : (hd s).k ≠ 0 ∨ (hd s).t ≠ bs [] := by
  left
  unfold isName at h
  rw [Bool.and_eq_true, decide_eq_true_eq] at h
  rw [h.1]
  decide
theorem needName_any (h : Rd W B k ws s) : Calls Tryz.prog 159 #[.pointer (some ⟨k, 0, none⟩)] W (Out isNone W B k ws (needName ws s)) := by
  have J1 := hide (isName_any h)
  have H := hide h
  cases hb : isName ws s with
  | false =>
    have E : needName ws s = .no (hd s).a 100 := by unfold needName; rw [hb]; rfl
    rw [E]
    rw [hb] at J1
    clear h hb E
    go_enter Tryz.func159, Tryz.ntmps159
    go_wp2_with fail
    refine J1.out.mono ?_
    rintro e w1 ⟨rfl, hb1⟩
    have J2 := hide (fail_any (H.out.later hb1) 100)
    have HB1 := hide hb1
    clear hb1 J1
    go_wp2_with fail
    refine J2.out.mono ?_
    rintro e w2 hp
    have hp2 := hp.from (Mv.of_below HB1.out (fun j => j = k))
    obtain ⟨g, rfl, -⟩ := hp
    exact ⟨rfl, hp2⟩
  | true =>
    have E : needName ws s = .ok () s := by unfold needName; rw [hb]; rfl
    rw [E]
    rw [hb] at J1
    clear h hb E
    go_enter Tryz.func159, Tryz.ntmps159
    go_wp2_with fail
    refine J1.out.mono ?_
    rintro e w1 ⟨rfl, hb1⟩
    have HB1 := hide hb1
    clear hb1 J1
    go_wp2_with fail
    go_end0
    exact ⟨_, rfl, rfl, H.out.later HB1.out, Mv.of_below HB1.out _⟩
theorem name_any (h : Rd W B k ws s) : Calls Tryz.prog 136 #[.pointer (some ⟨k, 0, none⟩)] W (Out isStr W B k ws (name ws s)) := by
  have J1 := hide (needName_any h)
  cases hb : isName ws s with
  | false =>
    have E : needName ws s = .no (hd s).a 100 := by unfold needName; rw [hb]; rfl
    have E2 : name ws s = .no (hd s).a 100 := by unfold name; rw [hb]; rfl
    rw [E2]
    rw [E] at J1
    clear h hb E E2
    go_enter Tryz.func136, Tryz.ntmps136
    go_wp2_with fail
    refine J1.out.mono ?_
    rintro e w2 hp
    have hp2 := hp
    obtain ⟨g, rfl, -⟩ := hp
    exact ⟨rfl, hp2⟩
  | true =>
    have E : needName ws s = .ok () s := by unfold needName; rw [hb]; rfl
    have E2 : name ws s = .ok (hd s).t (nx s) := by unfold name; rw [hb]; rfl
    have hne := isName_not_end hb
    rw [E2]
    rw [E] at J1
    have f1 := fld1
    clear h hb E E2
    go_enter Tryz.func136, Tryz.ntmps136
    go_wp2_with fail
    refine J1.out.mono ?_
    rintro e w1 ⟨v, rfl, hv, hr1, hm1⟩
    obtain rfl := hv
    have J2 := hide (next_any hr1 hne)
    have HM1 := hide hm1
    clear hr1 hm1 J1
    unfold tokV at J2
    go_wp2_with fail
    refine J2.out.mono ?_
    rintro e w2 ⟨rfl, hr2, hm2⟩
    have HR2 := hide hr2
    have HM2 := hide (HM1.out.trans hm2 (fun _ _ e => e))
    clear hr2 hm2 J2
    go_wp2_with fail
    go_ret
    exact ⟨_, rfl, rfl, HR2.out, HM2.out⟩
/-- A node begins. -/
theorem node_any (h : Rd W B k ws s) (op : Nat) : Calls Tryz.prog 134 #[.pointer (some ⟨k, 0, none⟩), .int .i64 (op : Int)] W fun e W' => ∃ g, e = .returned (.pointer (some ⟨g, 0, none⟩)) ∧ W.heap.size ≤ g ∧ W'.heap[g]? = some (.cells #[.int .i64 (op : Int), .string (bs []), .int .i64 0, .slice none 0 0, .int .i64 ((hd s).a : Int)] 51 (0, 0)) ∧ Below W.heap.size W W' := by
  have J := hide (now_any h)
  clear h
  generalize hd s = t at *
  unfold tokV at J
  have f2 := fld2
  go_enter Tryz.func134, Tryz.ntmps134
  go_wp2_with fail
  refine J.out.mono ?_
  rintro e w1 ⟨rfl, hb⟩
  have HB := hide hb
  clear hb J
  go_wp2_with fail
  go_ret
  exact ⟨w1.heap.size, rfl, HB.out.size, heap_alloc_new w1 _, below_on HB.out (below_alloc w1 _)⟩
set_option maxHeartbeats 1000000 in
theorem nameNode_any (h : Rd W B k ws s) : Calls Tryz.prog 178 #[.pointer (some ⟨k, 0, none⟩)] W (Out (isTree W) W B k ws (nameNode ws s)) := by
  have J1 := hide (node_any h 31)
  have H := hide h
  have hk := h.lt
  cases hb : isName ws s with
  | false =>
    have E : name ws s = .no (hd s).a 100 := by unfold name; rw [hb]; rfl
    have E2 : nameNode ws s = .no (hd s).a 100 := by unfold nameNode; rw [hb]; rfl
    rw [E2]
    have HE := hide E
    clear h hb E E2
    go_enter Tryz.func178, Tryz.ntmps178
    go_wp2_with fail
    refine J1.out.mono ?_
    rintro e w1 ⟨g, rfl, hg, hg1, hb1⟩
    have J2 := hide (name_any (H.out.later hb1))
    rw [HE.out] at J2
    have HB1 := hide hb1
    clear hb1 J1 hg1
    go_wp2_with fail
    refine J2.out.mono ?_
    rintro e w2 hp
    have hp2 := Pn.from hp (Mv.of_below HB1.out (fun j => j = k))
    obtain ⟨g, rfl, -⟩ := hp
    exact ⟨rfl, hp2⟩
  | true =>
    have E : name ws s = .ok (hd s).t (nx s) := by unfold name; rw [hb]; rfl
    have E2 : nameNode ws s = .ok (.mk 31 (hd s).t 0 [] (hd s).a) (nx s) := by unfold nameNode; rw [hb]; rfl
    rw [E2]
    have HE := hide E
    clear h hb E E2
    go_enter Tryz.func178, Tryz.ntmps178
    go_wp2_with fail
    refine J1.out.mono ?_
    rintro e w1 ⟨g, rfl, hg, hg1, hb1⟩
    have J2 := hide (name_any (H.out.later hb1))
    rw [HE.out] at J2
    have HB1 := hide hb1
    have HG1 := hide hg1
    clear hb1 J1 hg1
    go_wp2_with fail
    refine J2.out.mono ?_
    rintro e w2 ⟨v, rfl, hv, hr2, hm2⟩
    obtain rfl := hv
    have hgk : g ≠ k := by omega
    have h2 := hm2.at HG1.out hgk
    have c1 : w2.cell? ⟨g, 1, none⟩ = some (.string (bs [])) := by rw [cell_of_row w2 g _ _ 51 (0, 0) h2]; rfl
    have f1 : w2.frozen? ⟨g, 1, none⟩ = false := frozen_of_row w2 g 1 _ 51 h2
    have hm3 : Mv w2 (w2.setCell ⟨g, 1, none⟩ (.string (hd s).t)) (fun j => j = g) := (Mv.refl w2 (fun j => j = g)).set (g := g) rfl _ _
    have h3 := heap_setCell_same w2 g 1 _ 51 (.string (hd s).t) h2
    have H3 := hide h3
    have HR3 := hide (hr2.mv hm3 (fun j e => by
      have := hr2.1
      omega))
    have HM3 := hide (((Mv.of_below HB1.out (fun j => j = k)).trans hm2 (fun _ _ e => e)).trans hm3 (fun j hj e => by omega))
    clear h2 h3 hm2 hr2 hm3 J2
    go_wp2_with fail
    go_ret
    refine ⟨_, rfl, ?_, HR3.out, HM3.out⟩
    unfold isTree
    rw [Nd]
    exact ⟨g, .slice none 0 0, [], rfl, hg, H3.out, World.ownsRow_nil _ _ _ _, fun q e => by simp [Value.ownBlock] at e, Nds.none⟩
end
end Go.Proofs.YtmfoehaeejhlpaaGreatDoor

/-
  A region that draws its order: a load may be taken first where only operations that wait for it write its cell.
  (As the library's own law on held regions, but the condition need not be shown behind those that wait for all that lean on it.)
-/
namespace Go.Proofs.YtmfoehaeejhlpaaGreatDoor
section
variable {P : Program} {ops : Array Oper} {Q : Exit → Act → World → Prop} {md : Region.Mode} {J : Nat → Bool} {S : World → Prop}
/-- Whatever order is picked, and S, where it holds, holds behind every operation that is carried out, but for the late ones (not J). -/
def wpAnyJ (P : Program) (md : Region.Mode) (ops : Array Oper) (Q : Exit → Act → World → Prop) (J : Nat → Bool) (S : World → Prop) : Nat → Array Bool → Act → World → Prop
  | 0, listed, a, w => Region.ready md ops listed = [] ∧ Q .normal a w
  | fuel + 1, listed, a, w =>
    (Region.ready md ops listed = [] → Q .normal a w) ∧
    ∀ i ∈ Region.ready md ops listed, wpOp P ops Q i (fun a' w' => (J i = true → S w → S w') ∧ wpAnyJ P md ops Q J S fuel (listed.setIfInBounds i true) a' w') a w
theorem wpAny_of_late : ∀ (fuel : Nat) (listed : Array Bool) (a : Act) (w : World), wpAnyJ P md ops Q J S fuel listed a w → wpAny P md ops Q fuel listed a w
  | 0, _, _, _, h => h
  | fuel + 1, _, _, _, h => ⟨h.1, fun i hi => wpOp_mono (fun a' w' h' => wpAny_of_late fuel _ a' w' h'.2) (h.2 i hi)⟩
theorem wpAnyJ_first {i : Nat} {oi : Oper} {v : Value} (hi : ops[i]? = some oi) (hsel : ∀ (j : Nat) (o : Oper) cs b, ops[j]? = some o → o.op ≠ .select cs b)
    (hQ : ∀ c a w, Q (.panic c) (a.put oi.dst v) w → Q (.panic c) a w)
    (hJ : ∀ j oj, ops[j]? = some oj → (∀ e ∈ oj.after, Region.binds md e = true → e.on ≠ i) → J j = true) :
    ∀ (fuel : Nat) (listed : Array Bool) (a : Act) (w : World),
      (∀ j oj, ops[j]? = some oj → j ≠ i → listed.getD j true = false → (∀ e ∈ oj.after, Region.binds md e = true → e.on ≠ i) → oi.apart ops oj = true) →
      i ∈ Region.ready md ops listed → YieldsIf P ops S oi v a → S w →
      wpAnyJ P md ops Q J S fuel (listed.setIfInBounds i true) (a.put oi.dst v) w → wpAnyJ P md ops Q J S (fuel + 1) listed a w := by
  intro fuel
  induction fuel with
  | zero =>
    intro listed a w _ hr hy hS H
    refine ⟨fun h => (by rw [h] at hr; cases hr), fun j hj => ?_⟩
    by_cases hji : j = i
    · subst hji; exact hy.wpOp hi hS ⟨fun _ h => h, H⟩
    · have := ready_mono hj hji
      rw [H.1] at this
      cases this
  | succ fuel ih =>
    intro listed a w hfree hr hy hS H
    refine ⟨fun h => (by rw [h] at hr; cases hr), fun j hj => ?_⟩
    by_cases hji : j = i
    · subst hji; exact hy.wpOp hi hS ⟨fun _ h => h, H⟩
    · have h1 := H.2 j (ready_mono hj hji)
      obtain ⟨hjun, oj, hoj, hall⟩ := mem_ready.1 hj
      have hnot : ∀ e ∈ oj.after, Region.binds md e = true → e.on ≠ i := fun e he hb heq => by
        have h1 := hall e he hb
        have h0 := (mem_ready.1 hr).1
        rw [heq] at h1
        rcases Nat.lt_or_ge i listed.size with h' | h'
        · simp [h'] at h0 h1; rw [h0] at h1; cases h1
        · simp [Array.getElem?_eq_none h'] at h1
      have hjj := hJ j oj hoj hnot
      have h2 := wpOp_putIf hoj (hfree j oj hoj hji hjun hnot) (fun cs b => hsel i oi cs b hi) (fun cs b => hsel j oj cs b hoj) hQ hy h1
      have hfree' : ∀ k ok, ops[k]? = some ok → k ≠ i → (listed.setIfInBounds j true).getD k true = false →
          (∀ e ∈ ok.after, Region.binds md e = true → e.on ≠ i) → oi.apart ops ok = true := fun k ok hk hki hun hno => by
        refine hfree k ok hk hki ?_ hno
        by_cases hjk : j = k
        · subst hjk; exact hjun
        · rw [getD_set_ne true hjk] at hun; exact hun
      refine wpOp_mono (fun a' w' h3 => ⟨h3.2.1, ih (listed.setIfInBounds j true) a' w' hfree' (ready_mono hr (Ne.symm hji)) h3.1 (h3.2.1 hjj hS) ?_⟩) h2
      rw [Array.setIfInBounds_comm _ _ hji]
      exact h3.2.2
theorem wpAnyJ_firstW {i : Nat} {oi : Oper} {v : Value} (hi : ops[i]? = some oi) (hsel : ∀ (j : Nat) (o : Oper) cs b, ops[j]? = some o → o.op ≠ .select cs b)
    (hQ : ∀ c a w, Q (.panic c) (a.put oi.dst v) w → Q (.panic c) a w) :
    ∀ (fuel : Nat) (listed : Array Bool) (a : Act) (w : World),
      (∀ j oj, ops[j]? = some oj → j ≠ i → listed.getD j true = false → (∀ e ∈ oj.after, Region.binds md e = true → e.on ≠ i) → oi.apart ops oj = true) →
      i ∈ Region.ready md ops listed → YieldsIf P ops (fun _ => True) oi v a →
      wpAnyJ P md ops Q J S fuel (listed.setIfInBounds i true) (a.put oi.dst v) w → wpAnyJ P md ops Q J S (fuel + 1) listed a w := by
  intro fuel
  induction fuel with
  | zero =>
    intro listed a w _ hr hy H
    refine ⟨fun h => (by rw [h] at hr; cases hr), fun j hj => ?_⟩
    by_cases hji : j = i
    · subst hji; exact hy.wpOp hi trivial ⟨fun _ h => h, H⟩
    · have := ready_mono hj hji
      rw [H.1] at this
      cases this
  | succ fuel ih =>
    intro listed a w hfree hr hy H
    refine ⟨fun h => (by rw [h] at hr; cases hr), fun j hj => ?_⟩
    by_cases hji : j = i
    · subst hji; exact hy.wpOp hi trivial ⟨fun _ h => h, H⟩
    · have h1 := H.2 j (ready_mono hj hji)
      obtain ⟨hjun, oj, hoj, hall⟩ := mem_ready.1 hj
      have hnot : ∀ e ∈ oj.after, Region.binds md e = true → e.on ≠ i := fun e he hb heq => by
        have h1 := hall e he hb
        have h0 := (mem_ready.1 hr).1
        rw [heq] at h1
        rcases Nat.lt_or_ge i listed.size with h' | h'
        · simp [h'] at h0 h1; rw [h0] at h1; cases h1
        · simp [Array.getElem?_eq_none h'] at h1
      have h2 := wpOp_putIf hoj (hfree j oj hoj hji hjun hnot) (fun cs b => hsel i oi cs b hi) (fun cs b => hsel j oj cs b hoj) hQ hy h1
      have hfree' : ∀ k ok, ops[k]? = some ok → k ≠ i → (listed.setIfInBounds j true).getD k true = false →
          (∀ e ∈ ok.after, Region.binds md e = true → e.on ≠ i) → oi.apart ops ok = true := fun k ok hk hki hun hno => by
        refine hfree k ok hk hki ?_ hno
        by_cases hjk : j = k
        · subst hjk; exact hjun
        · rw [getD_set_ne true hjk] at hun; exact hun
      refine wpOp_mono (fun a' w' h3 => ⟨h3.2.1, ih (listed.setIfInBounds j true) a' w' hfree' (ready_mono hr (Ne.symm hji)) h3.1 ?_⟩) h2
      rw [Array.setIfInBounds_comm _ _ hji]
      exact h3.2.2
/-- Everybody who is late waits for i. -/
def lateB (md : Region.Mode) (ops : Array Oper) (J : Nat → Bool) (i : Nat) : Bool := (List.range ops.size).all fun j => J j || match ops[j]? with | some o => o.after.any fun e => Region.binds md e && e.on == i | none => true
theorem lateB_spec {i : Nat} (h : lateB md ops J i = true) : ∀ j oj, ops[j]? = some oj → (∀ e ∈ oj.after, Region.binds md e = true → e.on ≠ i) → J j = true := fun j oj hj hn => by
  unfold lateB at h
  have hlt : j < ops.size := (Array.getElem?_eq_some_iff.1 hj).1
  have := List.all_eq_true.1 h j (by simpa using hlt)
  rw [hj] at this
  simp only [Bool.or_eq_true] at this
  rcases this with h | h
  · exact h
  · obtain ⟨e, he, hb⟩ := Array.any_eq_true'.1 h
    simp only [Bool.and_eq_true, beq_iff_eq] at hb
    exact absurd hb.2 (hn e he hb.1)
theorem wpAnyJ_take {i : Nat} {oi : Oper} {v : Value} {fuel : Nat} {listed : Array Bool} {a : Act} {w : World} (hi : ops[i]? = some oi)
    (hs : Region.noSelect ops = true) (hf : Region.free md ops listed i = true) (hr : (Region.ready md ops listed).contains i = true) (hl : lateB md ops J i = true)
    (hQ : ∀ c a w, Q (.panic c) (a.put oi.dst v) w → Q (.panic c) a w) (hy : YieldsIf P ops S oi v a) (hS : S w)
    (h : wpAnyJ P md ops Q J S fuel (listed.setIfInBounds i true) (a.put oi.dst v) w) : wpAnyJ P md ops Q J S (fuel + 1) listed a w :=
  wpAnyJ_first hi (Region.noSelect_spec hs) hQ (lateB_spec hl) fuel listed a w (Region.free_spec hi hf) (by simpa using hr) hy hS h
theorem wpAnyJ_takeW {i : Nat} {oi : Oper} {v : Value} {fuel : Nat} {listed : Array Bool} {a : Act} {w : World} (hi : ops[i]? = some oi)
    (hs : Region.noSelect ops = true) (hf : Region.free md ops listed i = true) (hr : (Region.ready md ops listed).contains i = true)
    (hQ : ∀ c a w, Q (.panic c) (a.put oi.dst v) w → Q (.panic c) a w) (hy : YieldsIf P ops (fun _ => True) oi v a)
    (h : wpAnyJ P md ops Q J S fuel (listed.setIfInBounds i true) (a.put oi.dst v) w) : wpAnyJ P md ops Q J S (fuel + 1) listed a w :=
  wpAnyJ_firstW hi (Region.noSelect_spec hs) hQ fuel listed a w (Region.free_spec hi hf) (by simpa using hr) hy h
def AllReadyJ (P : Program) (md : Region.Mode) (ops : Array Oper) (Q : Exit → Act → World → Prop) (J : Nat → Bool) (S : World → Prop) (fuel : Nat) (listed : Array Bool) (a : Act) (w : World) (rs : List Nat) : Prop :=
  ∀ i ∈ rs, wpOp P ops Q i (fun a' w' => (J i = true → S w → S w') ∧ wpAnyJ P md ops Q J S fuel (listed.setIfInBounds i true) a' w') a w
theorem AllReadyJ.nil {fuel : Nat} {listed : Array Bool} {a : Act} {w : World} : AllReadyJ P md ops Q J S fuel listed a w [] := fun _ h => by cases h
theorem AllReadyJ.cons {fuel : Nat} {listed : Array Bool} {a : Act} {w : World} {i : Nat} {o : Oper} {rs : List Nat} (ho : ops[i]? = some o)
    (h : ∀ K' : Act → World → Prop, Shut (∀ a w', (J i = true → S w → S w') → wpAnyJ P md ops Q J S fuel (listed.setIfInBounds i true) a w' → K' a w') → if Region.wanted o (yielded ops a.tmps) = true then Oper.wp P o a w K' Q else K' (a.put o.dst undef) w)
    (hs : AllReadyJ P md ops Q J S fuel listed a w rs) : AllReadyJ P md ops Q J S fuel listed a w (i :: rs) := fun j hj => by
  rcases List.mem_cons.1 hj with rfl | hj
  · exact wpOp_step ho (fun K' hK => h K' (fun a w' hS hW => hK a w' ⟨hS, hW⟩))
  · exact hs j hj
theorem wpAnyJ_ready {rs : List Nat} {fuel : Nat} {listed : Array Bool} {a : Act} {w : World} (hr : Region.ready md ops listed = rs) (hne : rs ≠ [])
    (h : AllReadyJ P md ops Q J S fuel listed a w rs) : wpAnyJ P md ops Q J S (fuel + 1) listed a w :=
  ⟨fun h0 => absurd (hr ▸ h0) hne, hr ▸ h⟩
theorem wpAnyJ_done {listed : Array Bool} {a : Act} {w : World} (hr : Region.ready md ops listed = []) (h : Q .normal a w) :
    ∀ fuel, wpAnyJ P md ops Q J S fuel listed a w
  | 0 => ⟨hr, h⟩
  | _ + 1 => ⟨fun _ => h, by rw [hr]; simp⟩
theorem wp_region_late {id : Nat} {a : Act} {w : World} (hm : P.follows .mixedOrders = true) (hS : S w.drew)
    (h : S w.drew → wpAnyJ P .any ops Q J S ops.size (Array.replicate ops.size false) a w.drew) : (Code.region id ops true).wp P Q a w :=
  wp_region_any hm (wpAny_of_late _ _ _ _ (h hS))
end
end Go.Proofs.YtmfoehaeejhlpaaGreatDoor

/-
  The grammar: how deep it is behind what was read.
-/
namespace Go.Proofs.YtmfoehaeejhlpaaGreatDoor.Yn
set_option maxRecDepth 100000
theorem bind_ok {α β : Type} {r : R α} {f : α → S → R β} {y : β} {s' : S} (h : r.bind f = .ok y s') : ∃ x s1, r = .ok x s1 ∧ f x s1 = .ok y s' := by
  cases r with
  | ok x s1 => exact ⟨x, s1, rfl, h⟩
  | no a e => cases h
  | out => cases h
variable {ws : List ByteArray} {s s' : S}
theorem nx_de : (nx s).de = s.de := rfl
theorem take_de {x : ByteArray} {t : Tok} (h : take x s = .ok t s') : s'.de = s.de := by
  unfold take at h
  split at h
  · cases h; rfl
  · cases h
theorem open_de {x : ByteArray} {u : Unit} (h : openS x s = .ok u s') : s'.de = s.de + 1 := by
  unfold openS at h
  split at h
  · split at h
    · cases h
    · cases h; rfl
  · cases h
theorem name_de {t : ByteArray} (h : name ws s = .ok t s') : s'.de = s.de := by
  unfold name at h
  split at h
  · cases h; rfl
  · cases h
theorem nameNode_de {t : Tree} (h : nameNode ws s = .ok t s') : s'.de = s.de := by
  unfold nameNode at h
  split at h
  · cases h; rfl
  · cases h
theorem leave_de : (leave s).de = s.de - 1 := rfl
/-- All that reads expressions comes back to where it was. -/
theorem expr_de (ws : List ByteArray) : ∀ n : Nat, (∀ s t s', cond ws n s = .ok t s' → s'.de = s.de) ∧ (∀ m s t s', binary ws n m s = .ok t s' → s'.de = s.de) ∧ (∀ m l s t s', binL ws n m l s = .ok t s' → s'.de = s.de) ∧ (∀ s t s', unary ws n s = .ok t s' → s'.de = s.de) ∧ (∀ s t s', primary ws n s = .ok t s' → s'.de = s.de) ∧ (∀ s t s', args ws n s = .ok t s' → s'.de = s.de) ∧ (∀ l s t s', conds ws n l s = .ok t s' → s'.de = s.de)
  | 0 => by
    refine ⟨?_, ?_, ?_, ?_, ?_, ?_, ?_⟩
    · intro s t s' h; rw [cond] at h; cases h
    · intro m s t s' h; rw [binary] at h; cases h
    · intro m l s t s' h; rw [binL] at h; cases h
    · intro s t s' h; rw [unary] at h; cases h
    · intro s t s' h; rw [primary] at h; cases h
    · intro s t s' h; rw [args] at h; cases h
    · intro l s t s' h; rw [conds] at h; cases h
  | n + 1 => by
    obtain ⟨ic, ib, il, iu, ip, ia, id⟩ := expr_de ws n
    refine ⟨?_, ?_, ?_, ?_, ?_, ?_, ?_⟩
    · intro s t s' h
      rw [cond] at h
      obtain ⟨x, s1, h1, h⟩ := bind_ok h
      have e1 := ib _ _ _ _ h1
      split at h
      · obtain ⟨_, s2, h2, h⟩ := bind_ok h
        obtain ⟨y, s3, h3, h⟩ := bind_ok h
        obtain ⟨_, s4, h4, h⟩ := bind_ok h
        obtain ⟨z, s5, h5, h⟩ := bind_ok h
        cases h
        have := open_de h2
        have := ic _ _ _ h3
        have := take_de h4
        have := ic _ _ _ h5
        rw [leave_de]
        omega
      · cases h
        exact e1
    · intro m s t s' h
      rw [binary] at h
      obtain ⟨x, s1, h1, h⟩ := bind_ok h
      exact (il _ _ _ _ _ h).trans (iu _ _ _ h1)
    · intro m l s t s' h
      rw [binL] at h
      split at h
      · cases h; rfl
      · obtain ⟨x, s1, h1, h⟩ := bind_ok h
        exact (il _ _ _ _ _ h).trans ((ib _ _ _ _ h1).trans nx_de)
    · intro s t s' h
      rw [unary] at h
      split at h
      · obtain ⟨_, s2, h2, h⟩ := bind_ok h
        obtain ⟨y, s3, h3, h⟩ := bind_ok h
        cases h
        have := open_de h2
        have := iu _ _ _ h3
        rw [leave_de]
        omega
      · exact ip _ _ _ h
    · intro s t s' h
      rw [primary] at h
      split at h
      · obtain ⟨_, s2, h2, h⟩ := bind_ok h
        obtain ⟨y, s3, h3, h⟩ := bind_ok h
        obtain ⟨_, s4, h4, h⟩ := bind_ok h
        cases h
        have := open_de h2
        have := ic _ _ _ h3
        have := take_de h4
        rw [leave_de]
        omega
      · split at h
        · cases h; rfl
        · split at h
          · cases h; rfl
          · split at h
            · obtain ⟨_, s2, h2, h⟩ := bind_ok h
              obtain ⟨_, s3, h3, h⟩ := bind_ok h
              obtain ⟨y, s4, h4, h⟩ := bind_ok h
              obtain ⟨_, s5, h5, h⟩ := bind_ok h
              cases h
              have := take_de h2
              have := take_de h3
              have := name_de h4
              have := take_de h5
              omega
            · split at h
              · obtain ⟨y, s2, h2, h⟩ := bind_ok h
                cases h
                exact (ia _ _ _ h2).trans nx_de
              · obtain ⟨y, s2, h2, h⟩ := bind_ok h
                have e2 := nameNode_de h2
                split at h
                · obtain ⟨z, s3, h3, h⟩ := bind_ok h
                  cases h
                  exact (ia _ _ _ h3).trans e2
                · split at h
                  · obtain ⟨z, s3, h3, h⟩ := bind_ok h
                    cases h
                    have := nameNode_de h3
                    rw [nx_de] at this
                    omega
                  · cases h
                    exact e2
    · intro s t s' h
      rw [args] at h
      obtain ⟨_, s1, h1, h⟩ := bind_ok h
      obtain ⟨l, s2, h2, h⟩ := bind_ok h
      obtain ⟨_, s3, h3, h⟩ := bind_ok h
      cases h
      have := open_de h1
      have := take_de h3
      have e2 : s2.de = s1.de := by
        split at h2
        · cases h2; rfl
        · obtain ⟨x, s4, h4, h2⟩ := bind_ok h2
          exact (id _ _ _ _ h2).trans (ic _ _ _ h4)
      rw [leave_de]
      omega
    · intro l s t s' h
      rw [conds] at h
      split at h
      · obtain ⟨x, s1, h1, h⟩ := bind_ok h
        exact (id _ _ _ _ h).trans ((ic _ _ _ h1).trans nx_de)
      · cases h; rfl
end Go.Proofs.YtmfoehaeejhlpaaGreatDoor.Yn

/-
  Trees in memory: how a node gets its children.
-/
namespace Go.Proofs.YtmfoehaeejhlpaaGreatDoor
open Go.RowKit Yn
set_option maxRecDepth 100000
theorem infoN : (Tryz.prog.info? 23).map (fun i => (i.zero, i.size, i.bytes)) = some (some (.pointer none), 1, 8) := by kernel_rfl
theorem und49 : Tryz.prog.underlying 49 = some (.slice 23) := by kernel_rfl
section
variable {W W' : World} {X Y Z : Nat → Prop}
mutual
theorem Nd.tight : ∀ (t : Tree) (v : Value), Nd X W t v → Nd (fun q => X q ∧ q < W.heap.size) W t v
  | .mk op t n l a, v, h => by
    rw [Nd] at h ⊢
    obtain ⟨g, vl, ps, h1, h2, h3, h4, h5, h6⟩ := h
    exact ⟨g, vl, ps, h1, ⟨h2, lt_of_block h3⟩, h3, h4, fun q e => ⟨h5 q e, (h4.lt q e).2⟩, Nds.tight l ps h6⟩
theorem Nds.tight : ∀ (l : List Tree) (ps : List Value), Nds X W l ps → Nds (fun q => X q ∧ q < W.heap.size) W l ps
  | [], ps, h => by
    rw [Nds] at h ⊢
    exact h
  | t :: ts, ps, h => by
    rw [Nds] at h ⊢
    obtain ⟨p, ps', h1, h2, h3⟩ := h
    exact ⟨p, ps', h1, Nd.tight t p h2, Nds.tight ts ps' h3⟩
end
/-- A node whose list has just been appended to, from nothing. -/
theorem nd_made {w5 w6 : World} {g op a : Nat} {t : ByteArray} {n : Int} {l : List Tree} {ps : List Value} {v' : Value} {lo : Nat}
    (hg : w5.heap[g]? = some (.cells #[.int .i64 (op : Int), .string t, .int .i64 n, .slice none 0 0, .int .i64 (a : Int)] 51 (0, 0))) (hlo : lo ≤ g)
    (hl : Nds (fun q => lo ≤ q ∧ q < w5.heap.size ∧ q ≠ g) w5 l ps) (ho : w6.ownsRow 0 23 1 v' l.length ps) (hb : Below w5.heap.size w5 w6) (hv : ∀ q, v'.ownBlock = some q → w5.heap.size ≤ q) (hw : lo ≤ w5.heap.size) :
    Nd (fun q => lo ≤ q) (w6.setCell ⟨g, 3, none⟩ v') (.mk op t n l a) (.pointer (some ⟨g, 0, none⟩)) ∧ Mv w5 (w6.setCell ⟨g, 3, none⟩ v') (fun q => q = g) := by
  have hgl := lt_of_block hg
  have hm : Mv w5 (w6.setCell ⟨g, 3, none⟩ v') (fun q => q = g) := (Mv.of_below hb (fun q => q = g)).set (g := g) rfl _ _
  have h6 := (hb.block g hgl).trans hg
  refine ⟨?_, hm⟩
  rw [Nd]
  refine ⟨g, v', ps, rfl, hlo, ?_, own_set ho (fun e => ?_), fun q e => Nat.le_trans hw (hv q e), Nds.mono (fun q hq => hq.1) l ps (Nds.mv hm (fun q hq e => hq.2.2 e) l ps hl)⟩
  · rw [heap_setCell_same w6 g 3 _ 51 v' h6]
    rfl
  · have := hv g e
    omega
end
end Go.Proofs.YtmfoehaeejhlpaaGreatDoor
