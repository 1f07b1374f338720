import Derived.Test.YtkohlhnkaklnpaaRdX
import Derived.OrdersIn
import Derived.OwnWalkIn
import Derived.Deep.AppendLies
/-
  A region that draws, in a round of a range over a function: as everywhere. No program in this text.
-/
namespace Go.Proofs.Ytkohlhnkaklnpaa
open Go.RowKit Go.Shelf
section
variable {P : Program} {md : Region.Mode} {ops : Array Oper} {Q : Exit → Act → World → Prop} {F : Fence} {n : Nat}
theorem upon_in (hd : F.depth = none) (hc : ∀ n, @CallsIn F n = @CallsIn Fence.wide n) (hr : ∀ n, @RowsIn F n = @RowsIn Fence.wide n) {o : Oper} {a : Act} {K : Act → World → Prop} {r : Result Next} (h : o.upon P a K Q r) : o.uponIn F n P a K Q r := by
  unfold Oper.upon at h
  unfold Oper.uponIn
  split at h
  · exact h
  · exact h
  · exact h
  · refine ⟨fun h' => (by rw [hd] at h'; cases h'), ?_⟩
    rw [hc]
    exact callsIn_wide.2 h
  · refine ⟨fun h' => (by rw [hd] at h'; cases h'), ?_⟩
    rw [hr]
    intro c cs _
    obtain ⟨v, w', h1, h2⟩ := h c cs
    exact ⟨v, w', h1, stepsIn_wide.2 h2⟩
  · exact h
  · exact h.elim
theorem any_in (hf : ∀ f, F.fn f) (hd : F.depth = none) (hc : ∀ n, @CallsIn F n = @CallsIn Fence.wide n) (hr : ∀ n, @RowsIn F n = @RowsIn Fence.wide n) (hL : ¬ LetsOut Q) (hdf : ∀ (i : Nat) (o : Oper), ops[i]? = some o → ∀ c, o.op ≠ .defer c) :
    ∀ (fuel : Nat) (listed : Array Bool) (a : Act) (w : World), wpAny P md ops Q fuel listed a w → wpAnyIn F n P md ops Q fuel listed a w := by
  intro fuel
  induction fuel with
  | zero => exact fun listed a w h => h
  | succ fuel ih =>
    intro listed a w h
    refine ⟨h.1, fun i hi => ?_⟩
    have hw := h.2 i hi
    unfold wpOp at hw
    unfold wpOpIn
    split at hw
    · rename_i e
      rw [e]
      exact ih _ _ _ hw
    · rename_i o e
      rw [e]
      dsimp only
      split at hw
      · rename_i hwant
        rw [if_pos hwant]
        rcases hw with hw | hw
        · refine ⟨fun f _ => hf f, ?_⟩
          rw [Oper.semAt_plain F _ _ (hdf i o e)]
          exact upon_in hd hc hr (Oper.wp_mono (fun a w h => ih _ _ _ h) hw)
        · exact absurd hw.2 hL
      · rename_i hwant
        rw [if_neg hwant]
        exact ⟨fun f _ => hf f, ih _ _ _ hw⟩
end
theorem no_defer (ops : Array Oper) (h : (ops.all fun o => match o.op with | .defer _ => false | _ => true) = true) : ∀ (i : Nat) (o : Oper), ops[i]? = some o → ∀ c, o.op ≠ .defer c := by
  intro i o hi c e
  rw [Array.all_eq_true_iff_forall_mem] at h
  have := h o (Array.mem_of_getElem? hi)
  rw [e] at this
  cases this
/-- The beginning, in a round. -/
theorem round_region {P : Program} {ops : Array Oper} {Q : Exit → Act → World → Prop} {n l id : Nat} {a : Act} {w : World} {S : World → Prop} (hm : P.follows .mixedOrders = true) (hdf : (ops.all fun o => match o.op with | .defer _ => false | _ => true) = true) (hL : ¬ LetsOut Q) (hS : S w.drew)
    (h : S w.drew → wpAnyH P .any ops Q S ops.size (Array.replicate ops.size false) a w.drew) : (Code.region id ops true).wpIn (Fence.wide.inRound l) n P Q a w :=
  wpIn_region_any hm (any_in (F := Fence.wide.inRound l) (fun _ => trivial) rfl (fun _ => rfl) (fun _ => rfl) hL (no_defer ops hdf) _ _ _ _ (wpAny_of_held _ _ _ _ (h hS)))
namespace Rc
/-- What was told up to a place at which there is one more is a beginning of all. -/
theorem told_prefix : ∀ (ds' : List (List UInt8)) (b : List UInt8) (ds : List (List UInt8)) (K k : Nat), Told b ds K → (get (b.drop K)).2 = 0 → Told b ds' k → (get (b.drop k)).2 ≠ 0 → ∃ r, ds = ds' ++ (get (b.drop k)).1 :: r
  | [], b, ds, K, k, h1, h2, h3, h4 => by
    obtain rfl : k = 0 := h3
    rw [List.drop_zero] at h4 ⊢
    cases ds with
    | nil =>
      obtain rfl : K = 0 := h1
      rw [List.drop_zero] at h2
      exact absurd h2 h4
    | cons d r => exact ⟨r, by rw [h1.2.1]; rfl⟩
  | d :: ds', b, ds, K, k, h1, h2, h3, h4 => by
    obtain ⟨a1, a2, a3, a4⟩ := h3
    cases ds with
    | nil =>
      obtain rfl : K = 0 := h1
      rw [List.drop_zero] at h2
      exact absurd h2 a1
    | cons e r =>
      obtain ⟨b1, b2, b3, b4⟩ := h1
      have e1 : b.drop k = (b.drop (get b).2).drop (k - (get b).2) := by rw [List.drop_drop]; congr 1; omega
      have e2 : b.drop K = (b.drop (get b).2).drop (K - (get b).2) := by rw [List.drop_drop]; congr 1; omega
      rw [e1] at h4 ⊢
      rw [e2] at h2
      obtain ⟨r', hr⟩ := told_prefix ds' (b.drop (get b).2) r _ _ b4 h2 a4 h4
      exact ⟨r', by rw [hr, a2, b2]; rfl⟩
theorem made_len {b : List UInt8} (h : (get b).2 ≠ 0) : (made (get b).1).length = (get b).2 := by
  obtain ⟨h1, h2, h3⟩ := get_whole h
  have := (made_whole h1).2 h2
  rw [h3]
  show (made (data b)).length = 1 + siz b + 4 + num b
  rw [this, List.length_take]
  have := h1.2.2.2
  omega
end Rc
end Go.Proofs.Ytkohlhnkaklnpaa

/-
  RecordReads: a round of Walk: what it keeps. No walk in this text.
-/
namespace Go.Proofs.Ytkohlhnkaklnpaa
open Go.RowKit Go.Shelf
def firstOf : Code → Code
  | .seq a _ => a
  | c => c
def secondOf : Code → Code
  | .seq _ b => b
  | c => c
def unblock : Code → Code
  | .block _ c => c
  | c => c
def unloop : Code → Code
  | .loop c => c
  | c => c
def rangeBody : Code → Code
  | .rangeFunc _ _ _ b => b
  | c => c
/-- A turn. -/
noncomputable def turnC : Code := unloop (unblock (secondOf (firstOf (tailN 37 body16))))
noncomputable def xC : Code := unblock (firstOf (secondOf turnC))
/-- A round of Walk. -/
noncomputable def wBody : Code := rangeBody (unblock (secondOf (firstOf (secondOf (secondOf xC)))))
/-- What stays as it is while it is walked. -/
def Sf (t stop : Int) (b : List UInt8) (w0 : World) (qB aB bW bx : Nat) (va vo : Value) (ds : List (List UInt8)) (V : World) : Prop :=
  V.heap[qB]? = some (.cells #[.int .i64 t] 3 (0, 0)) ∧ V.heap[w0.heap.size]? = some (.cells #[.int .i64 stop] 3 (0, 0)) ∧ Al aB va ds V ∧
  V.heap[bW]? = some (.cells #[.func (.func 32) #[] #[.pointer (some ⟨bx, 0, none⟩)]] 45 (0, 0)) ∧ V.heap[bx]? = some (.cells #[vo] 22 (0, 0)) ∧ V.ownsRow 0 5 1 vo b.length (Lib.byteCells b)
/-- Three boxes that are written. -/
def Bx (iB pB tB : Nat) : Nat → Prop := fun k => k = iB ∨ k = pB ∨ k = tB
/-- What was told so far. f: how the box of both lists holds this one. -/
def Ti (b : List UInt8) (iB pB tB : Nat) (f : Value → Array Value) (wS : World) (ds' : List (List UInt8)) (W : World) : Prop :=
  ∃ kk lt us, Rc.Told b ds' kk ∧ W.heap[iB]? = some (.cells #[.int .i64 (ds'.length : Nat)] 3 (0, 0)) ∧ W.heap[pB]? = some (.cells #[.int .i64 (kk : Nat)] 3 (0, 0)) ∧ W.heap[tB]? = some (.cells (f lt) 56 (0, 0)) ∧
    W.ownsRow wS.heap.size 22 1 lt ds'.length us ∧ Pieces W wS.heap.size us ds' ∧ Mv wS W (Bx iB pB tB)
theorem pieces_kept {W W' : World} {B : Nat} {vs : List Value} {ds : List (List UInt8)} {row : Option Nat} (h : Pieces W B vs ds) (hg : W.grownBy W' row) (hr : ∀ r, row = some r → ∃ o : Obj, W.heap[r]? = some o ∧ o.isCells = false) : Pieces W' B vs ds :=
  ⟨h.1, fun i i1 i2 => ⟨(h.2.1 i i1 i2).1.kept hg hr, (h.2.1 i i1 i2).2⟩, h.2.2⟩
theorem Ti.own {b : List UInt8} {iB pB tB : Nat} {f : Value → Array Value} {wS : World} : OwnFrom wS.heap.size (Ti b iB pB tB f wS) := by
  intro ds' W W' row ⟨kk, lt, us, h1, h2, h3, h4, h5, h6, h7⟩ hg hr
  have hr' := fun r e => (hr r e).2
  exact ⟨kk, lt, us, h1, heap_kept h2 rfl hg hr', heap_kept h3 rfl hg hr', heap_kept h4 rfl hg hr', own_kept h5 hg hr', pieces_kept h6 hg hr', h7.trans (S' := fun k => row = some k) ⟨hg.1, hg.2, hg.3, hg.size, fun k hk hs => hg.block k hk (fun e => hs e.symm)⟩ (fun k hk e => absurd (hr k e).1 (by omega))⟩
theorem piece_ap {w : World} {B B' n : Nat} {u v : Value} {l : List UInt8} {ys : List Value} (h : Piece w B u l) (h2 : w.ownsRow B' 22 1 v n ys) : Ap u v := by
  intro g hu hv
  rcases h with ⟨rfl, _⟩ | ⟨g1, o, cur1, rfl, _, _, _, e1, _⟩
  · simp [Value.ownBlock] at hu
  · rcases h2.2 with ⟨rfl, _⟩ | ⟨g2, c2, cur2, rfl, _, e2, _⟩
    · simp [Value.ownBlock] at hv
    · simp only [Value.ownBlock, Option.some.injEq] at hu hv
      subst hu
      subst hv
      rw [e1] at e2
      simp at e2
end Go.Proofs.Ytkohlhnkaklnpaa

/-
  A region that draws its order: a load may be taken first where only operations that wait for it write its cell.
  (As the library's own law on held regions, but the condition need not be shown behind those that wait for all that lean on it.)
-/
namespace Go.Proofs.Ytkohlhnkaklnpaa
section
variable {P : Program} {ops : Array Oper} {Q : Exit → Act → World → Prop} {md : Region.Mode} {J : Nat → Bool} {S : World → Prop}
/-- Whatever order is picked, and S, where it holds, holds behind every operation that is carried out, but for the late ones (not J). -/
def wpAnyJ (P : Program) (md : Region.Mode) (ops : Array Oper) (Q : Exit → Act → World → Prop) (J : Nat → Bool) (S : World → Prop) : Nat → Array Bool → Act → World → Prop
  | 0, listed, a, w => Region.ready md ops listed = [] ∧ Q .normal a w
  | fuel + 1, listed, a, w =>
    (Region.ready md ops listed = [] → Q .normal a w) ∧
    ∀ i ∈ Region.ready md ops listed, wpOp P ops Q i (fun a' w' => (J i = true → S w → S w') ∧ wpAnyJ P md ops Q J S fuel (listed.setIfInBounds i true) a' w') a w
theorem wpAny_of_late : ∀ (fuel : Nat) (listed : Array Bool) (a : Act) (w : World), wpAnyJ P md ops Q J S fuel listed a w → wpAny P md ops Q fuel listed a w
  | 0, _, _, _, h => h
  | fuel + 1, _, _, _, h => ⟨h.1, fun i hi => wpOp_mono (fun a' w' h' => wpAny_of_late fuel _ a' w' h'.2) (h.2 i hi)⟩
theorem wpAnyJ_first {i : Nat} {oi : Oper} {v : Value} (hi : ops[i]? = some oi) (hsel : ∀ (j : Nat) (o : Oper) cs b, ops[j]? = some o → o.op ≠ .select cs b)
    (hQ : ∀ c a w, Q (.panic c) (a.put oi.dst v) w → Q (.panic c) a w)
    (hJ : ∀ j oj, ops[j]? = some oj → (∀ e ∈ oj.after, Region.binds md e = true → e.on ≠ i) → J j = true) :
    ∀ (fuel : Nat) (listed : Array Bool) (a : Act) (w : World),
      (∀ j oj, ops[j]? = some oj → j ≠ i → listed.getD j true = false → (∀ e ∈ oj.after, Region.binds md e = true → e.on ≠ i) → oi.apart ops oj = true) →
      i ∈ Region.ready md ops listed → YieldsIf P ops S oi v a → S w →
      wpAnyJ P md ops Q J S fuel (listed.setIfInBounds i true) (a.put oi.dst v) w → wpAnyJ P md ops Q J S (fuel + 1) listed a w := by
  intro fuel
  induction fuel with
  | zero =>
    intro listed a w _ hr hy hS H
    refine ⟨fun h => (by rw [h] at hr; cases hr), fun j hj => ?_⟩
    by_cases hji : j = i
    · subst hji; exact hy.wpOp hi hS ⟨fun _ h => h, H⟩
    · have := ready_mono hj hji
      rw [H.1] at this
      cases this
  | succ fuel ih =>
    intro listed a w hfree hr hy hS H
    refine ⟨fun h => (by rw [h] at hr; cases hr), fun j hj => ?_⟩
    by_cases hji : j = i
    · subst hji; exact hy.wpOp hi hS ⟨fun _ h => h, H⟩
    · have h1 := H.2 j (ready_mono hj hji)
      obtain ⟨hjun, oj, hoj, hall⟩ := mem_ready.1 hj
      have hnot : ∀ e ∈ oj.after, Region.binds md e = true → e.on ≠ i := fun e he hb heq => by
        have h1 := hall e he hb
        have h0 := (mem_ready.1 hr).1
        rw [heq] at h1
        rcases Nat.lt_or_ge i listed.size with h' | h'
        · simp [h'] at h0 h1; rw [h0] at h1; cases h1
        · simp [Array.getElem?_eq_none h'] at h1
      have hjj := hJ j oj hoj hnot
      have h2 := wpOp_putIf hoj (hfree j oj hoj hji hjun hnot) (fun cs b => hsel i oi cs b hi) (fun cs b => hsel j oj cs b hoj) hQ hy h1
      have hfree' : ∀ k ok, ops[k]? = some ok → k ≠ i → (listed.setIfInBounds j true).getD k true = false →
          (∀ e ∈ ok.after, Region.binds md e = true → e.on ≠ i) → oi.apart ops ok = true := fun k ok hk hki hun hno => by
        refine hfree k ok hk hki ?_ hno
        by_cases hjk : j = k
        · subst hjk; exact hjun
        · rw [getD_set_ne true hjk] at hun; exact hun
      refine wpOp_mono (fun a' w' h3 => ⟨h3.2.1, ih (listed.setIfInBounds j true) a' w' hfree' (ready_mono hr (Ne.symm hji)) h3.1 (h3.2.1 hjj hS) ?_⟩) h2
      rw [Array.setIfInBounds_comm _ _ hji]
      exact h3.2.2
theorem wpAnyJ_firstW {i : Nat} {oi : Oper} {v : Value} (hi : ops[i]? = some oi) (hsel : ∀ (j : Nat) (o : Oper) cs b, ops[j]? = some o → o.op ≠ .select cs b)
    (hQ : ∀ c a w, Q (.panic c) (a.put oi.dst v) w → Q (.panic c) a w) :
    ∀ (fuel : Nat) (listed : Array Bool) (a : Act) (w : World),
      (∀ j oj, ops[j]? = some oj → j ≠ i → listed.getD j true = false → (∀ e ∈ oj.after, Region.binds md e = true → e.on ≠ i) → oi.apart ops oj = true) →
      i ∈ Region.ready md ops listed → YieldsIf P ops (fun _ => True) oi v a →
      wpAnyJ P md ops Q J S fuel (listed.setIfInBounds i true) (a.put oi.dst v) w → wpAnyJ P md ops Q J S (fuel + 1) listed a w := by
  intro fuel
  induction fuel with
  | zero =>
    intro listed a w _ hr hy H
    refine ⟨fun h => (by rw [h] at hr; cases hr), fun j hj => ?_⟩
    by_cases hji : j = i
    · subst hji; exact hy.wpOp hi trivial ⟨fun _ h => h, H⟩
    · have := ready_mono hj hji
      rw [H.1] at this
      cases this
  | succ fuel ih =>
    intro listed a w hfree hr hy H
    refine ⟨fun h => (by rw [h] at hr; cases hr), fun j hj => ?_⟩
    by_cases hji : j = i
    · subst hji; exact hy.wpOp hi trivial ⟨fun _ h => h, H⟩
    · have h1 := H.2 j (ready_mono hj hji)
      obtain ⟨hjun, oj, hoj, hall⟩ := mem_ready.1 hj
      have hnot : ∀ e ∈ oj.after, Region.binds md e = true → e.on ≠ i := fun e he hb heq => by
        have h1 := hall e he hb
        have h0 := (mem_ready.1 hr).1
        rw [heq] at h1
        rcases Nat.lt_or_ge i listed.size with h' | h'
        · simp [h'] at h0 h1; rw [h0] at h1; cases h1
        · simp [Array.getElem?_eq_none h'] at h1
      have h2 := wpOp_putIf hoj (hfree j oj hoj hji hjun hnot) (fun cs b => hsel i oi cs b hi) (fun cs b => hsel j oj cs b hoj) hQ hy h1
      have hfree' : ∀ k ok, ops[k]? = some ok → k ≠ i → (listed.setIfInBounds j true).getD k true = false →
          (∀ e ∈ ok.after, Region.binds md e = true → e.on ≠ i) → oi.apart ops ok = true := fun k ok hk hki hun hno => by
        refine hfree k ok hk hki ?_ hno
        by_cases hjk : j = k
        · subst hjk; exact hjun
        · rw [getD_set_ne true hjk] at hun; exact hun
      refine wpOp_mono (fun a' w' h3 => ⟨h3.2.1, ih (listed.setIfInBounds j true) a' w' hfree' (ready_mono hr (Ne.symm hji)) h3.1 ?_⟩) h2
      rw [Array.setIfInBounds_comm _ _ hji]
      exact h3.2.2
/-- Everybody who is late waits for i. -/
def lateB (md : Region.Mode) (ops : Array Oper) (J : Nat → Bool) (i : Nat) : Bool := (List.range ops.size).all fun j => J j || match ops[j]? with | some o => o.after.any fun e => Region.binds md e && e.on == i | none => true
theorem lateB_spec {i : Nat} (h : lateB md ops J i = true) : ∀ j oj, ops[j]? = some oj → (∀ e ∈ oj.after, Region.binds md e = true → e.on ≠ i) → J j = true := fun j oj hj hn => by
  unfold lateB at h
  have hlt : j < ops.size := (Array.getElem?_eq_some_iff.1 hj).1
  have := List.all_eq_true.1 h j (by simpa using hlt)
  rw [hj] at this
  simp only [Bool.or_eq_true] at this
  rcases this with h | h
  · exact h
  · obtain ⟨e, he, hb⟩ := Array.any_eq_true'.1 h
    simp only [Bool.and_eq_true, beq_iff_eq] at hb
    exact absurd hb.2 (hn e he hb.1)
theorem wpAnyJ_take {i : Nat} {oi : Oper} {v : Value} {fuel : Nat} {listed : Array Bool} {a : Act} {w : World} (hi : ops[i]? = some oi)
    (hs : Region.noSelect ops = true) (hf : Region.free md ops listed i = true) (hr : (Region.ready md ops listed).contains i = true) (hl : lateB md ops J i = true)
    (hQ : ∀ c a w, Q (.panic c) (a.put oi.dst v) w → Q (.panic c) a w) (hy : YieldsIf P ops S oi v a) (hS : S w)
    (h : wpAnyJ P md ops Q J S fuel (listed.setIfInBounds i true) (a.put oi.dst v) w) : wpAnyJ P md ops Q J S (fuel + 1) listed a w :=
  wpAnyJ_first hi (Region.noSelect_spec hs) hQ (lateB_spec hl) fuel listed a w (Region.free_spec hi hf) (by simpa using hr) hy hS h
theorem wpAnyJ_takeW {i : Nat} {oi : Oper} {v : Value} {fuel : Nat} {listed : Array Bool} {a : Act} {w : World} (hi : ops[i]? = some oi)
    (hs : Region.noSelect ops = true) (hf : Region.free md ops listed i = true) (hr : (Region.ready md ops listed).contains i = true)
    (hQ : ∀ c a w, Q (.panic c) (a.put oi.dst v) w → Q (.panic c) a w) (hy : YieldsIf P ops (fun _ => True) oi v a)
    (h : wpAnyJ P md ops Q J S fuel (listed.setIfInBounds i true) (a.put oi.dst v) w) : wpAnyJ P md ops Q J S (fuel + 1) listed a w :=
  wpAnyJ_firstW hi (Region.noSelect_spec hs) hQ fuel listed a w (Region.free_spec hi hf) (by simpa using hr) hy h
def AllReadyJ (P : Program) (md : Region.Mode) (ops : Array Oper) (Q : Exit → Act → World → Prop) (J : Nat → Bool) (S : World → Prop) (fuel : Nat) (listed : Array Bool) (a : Act) (w : World) (rs : List Nat) : Prop :=
  ∀ i ∈ rs, wpOp P ops Q i (fun a' w' => (J i = true → S w → S w') ∧ wpAnyJ P md ops Q J S fuel (listed.setIfInBounds i true) a' w') a w
theorem AllReadyJ.nil {fuel : Nat} {listed : Array Bool} {a : Act} {w : World} : AllReadyJ P md ops Q J S fuel listed a w [] := fun _ h => by cases h
theorem AllReadyJ.cons {fuel : Nat} {listed : Array Bool} {a : Act} {w : World} {i : Nat} {o : Oper} {rs : List Nat} (ho : ops[i]? = some o)
    (h : ∀ K' : Act → World → Prop, Shut (∀ a w', (J i = true → S w → S w') → wpAnyJ P md ops Q J S fuel (listed.setIfInBounds i true) a w' → K' a w') → if Region.wanted o (yielded ops a.tmps) = true then Oper.wp P o a w K' Q else K' (a.put o.dst undef) w)
    (hs : AllReadyJ P md ops Q J S fuel listed a w rs) : AllReadyJ P md ops Q J S fuel listed a w (i :: rs) := fun j hj => by
  rcases List.mem_cons.1 hj with rfl | hj
  · exact wpOp_step ho (fun K' hK => h K' (fun a w' hS hW => hK a w' ⟨hS, hW⟩))
  · exact hs j hj
theorem wpAnyJ_ready {rs : List Nat} {fuel : Nat} {listed : Array Bool} {a : Act} {w : World} (hr : Region.ready md ops listed = rs) (hne : rs ≠ [])
    (h : AllReadyJ P md ops Q J S fuel listed a w rs) : wpAnyJ P md ops Q J S (fuel + 1) listed a w :=
  ⟨fun h0 => absurd (hr ▸ h0) hne, hr ▸ h⟩
theorem wpAnyJ_done {listed : Array Bool} {a : Act} {w : World} (hr : Region.ready md ops listed = []) (h : Q .normal a w) :
    ∀ fuel, wpAnyJ P md ops Q J S fuel listed a w
  | 0 => ⟨hr, h⟩
  | _ + 1 => ⟨fun _ => h, by rw [hr]; simp⟩
theorem wp_region_late {id : Nat} {a : Act} {w : World} (hm : P.follows .mixedOrders = true) (hS : S w.drew)
    (h : S w.drew → wpAnyJ P .any ops Q J S ops.size (Array.replicate ops.size false) a w.drew) : (Code.region id ops true).wp P Q a w :=
  wp_region_any hm (wpAny_of_late _ _ _ _ (h hS))
end
/-- The beginning, in a round. -/
theorem round_late {P : Program} {ops : Array Oper} {Q : Exit → Act → World → Prop} {J : Nat → Bool} {n l id : Nat} {a : Act} {w : World} {S : World → Prop} (hm : P.follows .mixedOrders = true) (hdf : (ops.all fun o => match o.op with | .defer _ => false | _ => true) = true) (hL : ¬ LetsOut Q) (hS : S w.drew)
    (h : S w.drew → wpAnyJ P .any ops Q J S ops.size (Array.replicate ops.size false) a w.drew) : (Code.region id ops true).wpIn (Fence.wide.inRound l) n P Q a w :=
  wpIn_region_any hm (any_in (F := Fence.wide.inRound l) (fun _ => trivial) rfl (fun _ => rfl) (fun _ => rfl) hL (no_defer ops hdf) _ _ _ _ (wpAny_of_late _ _ _ _ (h hS)))
namespace Rc
theorem told_uniq : ∀ (ds : List (List UInt8)) (b : List UInt8) (k k' : Nat), Told b ds k → Told b ds k' → k = k'
  | [], _, _, _, h, h' => by
    have e : _ = 0 := h
    have e' : _ = 0 := h'
    omega
  | d :: ds, b, k, k', h, h' => by
    have := told_uniq ds _ _ _ h.2.2.2 h'.2.2.2
    have := h.2.2.1
    have := h'.2.2.1
    omega
end Rc
end Go.Proofs.Ytkohlhnkaklnpaa

/-
  RecordReads: a round of Walk, the first time.
-/
namespace Go.Proofs.Ytkohlhnkaklnpaa
open Go.RowKit Go.Shelf
attribute [local go_sem] Oper.semAt_some
set_option maxRecDepth 100000
/-- It was left at the place that was asked for. -/
def Ix0 (b : List UInt8) (iB pB tB : Nat) (f : Value → Array Value) (wS : World) (stop : Int) (c : Code) (_ : List (List UInt8)) (W : World) : Prop := c = .exit 12 ∧ ∃ ds', Ti b iB pB tB f wS ds' W ∧ (ds'.length : Int) = stop
/-- Likewise, and all of it lies below M. -/
def Tm (b : List UInt8) (iB pB tB : Nat) (f : Value → Array Value) (wS : World) (M : Nat) (ds' : List (List UInt8)) (W : World) : Prop :=
  ∃ kk lt us, Rc.Told b ds' kk ∧ W.heap[iB]? = some (.cells #[.int .i64 (ds'.length : Nat)] 3 (0, 0)) ∧ W.heap[pB]? = some (.cells #[.int .i64 (kk : Nat)] 3 (0, 0)) ∧ W.heap[tB]? = some (.cells (f lt) 56 (0, 0)) ∧
    W.ownsRow wS.heap.size 22 1 lt ds'.length us ∧ Pieces W wS.heap.size us ds' ∧ Mv wS W (Bx iB pB tB) ∧ ∀ u ∈ us, ∀ g, u.ownBlock = some g → g < M
theorem Tm.ti {b : List UInt8} {iB pB tB M : Nat} {f : Value → Array Value} {wS W : World} {ds' : List (List UInt8)} (h : Tm b iB pB tB f wS M ds' W) : Ti b iB pB tB f wS ds' W := by
  obtain ⟨kk, lt, us, t1, t2, t3, t4, t5, t6, t7, _⟩ := h
  exact ⟨kk, lt, us, t1, t2, t3, t4, t5, t6, t7⟩
theorem Ti.tm {b : List UInt8} {iB pB tB : Nat} {f : Value → Array Value} {wS W1 W : World} {ds' : List (List UInt8)} {row : Option Nat} (h : Ti b iB pB tB f wS ds' W1) (hg : W1.grownBy W row) (hr : ∀ r, row = some r → wS.heap.size ≤ r ∧ ∃ o : Obj, W1.heap[r]? = some o ∧ o.isCells = false) : Tm b iB pB tB f wS W1.heap.size ds' W := by
  obtain ⟨kk, lt, us, t1, t2, t3, t4, t5, t6, t7⟩ := h
  have hr' := fun r e => (hr r e).2
  exact ⟨kk, lt, us, t1, heap_kept t2 rfl hg hr', heap_kept t3 rfl hg hr', heap_kept t4 rfl hg hr', own_kept t5 hg hr', pieces_kept t6 hg hr', t7.trans (S' := fun k => row = some k) ⟨hg.1, hg.2, hg.3, hg.size, fun k hk hs => hg.block k hk (fun e => hs e.symm)⟩ (fun k hk e => absurd (hr k e).1 (by omega)), fun u hu g e => (t6.lt u hu g e).2⟩
theorem Tm.on {b : List UInt8} {iB pB tB M : Nat} {f : Value → Array Value} {wS W W' : World} {ds' : List (List UInt8)} (h : Tm b iB pB tB f wS M ds' W) (hb : Below W.heap.size W W') : Tm b iB pB tB f wS M ds' W' := by
  obtain ⟨kk, lt, us, t1, t2, t3, t4, t5, t6, t7, t8⟩ := h
  have hg := grown_later hb
  have hr : ∀ r, (none : Option Nat) = some r → ∃ o : Obj, W.heap[r]? = some o ∧ o.isCells = false := fun r e => by cases e
  exact ⟨kk, lt, us, t1, heap_kept t2 rfl hg hr, heap_kept t3 rfl hg hr, heap_kept t4 rfl hg hr, own_kept t5 hg hr, pieces_kept t6 hg hr, t7.later hb, t8⟩
theorem listed_nil {w : World} {B : Nat} {v : Value} {ds : List (List UInt8)} (h : Listed w B v ds) (i : Nat) (hi : i < ds.length) {g : Nat} {c : Nat} (hv : v = .slice (some ⟨g, 0, none⟩) ds.length c) {u : Value} (hc : w.cell? ⟨g, i, none⟩ = some u) : NilOr u := by
  obtain ⟨us, h1, h2, h3⟩ := h
  rw [hv] at h1
  have := h1.cellAt i (by omega)
  rw [hc, List.getElem?_eq_getElem (by omega)] at this
  obtain rfl := (Option.some.inj this).symm
  exact own_nilOr (h3 i (by omega) hi)
theorem keeps_below {W W' : World} (h : Below W.heap.size W W') : KeepsOthers W W' := ⟨h.size, fun k _ hk _ => (h.block k (lt_of_block hk)).trans hk⟩
/-- One more was told. -/
theorem Ti.next {b d : List UInt8} {iB pB tB M kk : Nat} {f : Value → Array Value} {wS W wf : World} {ds' : List (List UInt8)} {lt lt' v : Value} {us : List Value} (t1 : Rc.Told b ds' kk) (t5 : W.ownsRow wS.heap.size 22 1 lt ds'.length us) (t6 : Pieces W wS.heap.size us ds') (t7 : Mv wS W (Bx iB pB tB))
    (hg : (Rc.get (b.drop kk)).2 ≠ 0) (hd : d = (Rc.get (b.drop kk)).1) (hp : Piece W M v d) (hM : wS.heap.size ≤ M) (hMu : ∀ u ∈ us, ∀ g, u.ownBlock = some g → g < M) (hx : iB < wS.heap.size ∧ pB < wS.heap.size ∧ tB < wS.heap.size)
    (e1 : wf.heap[iB]? = some (.cells #[.int .i64 ((ds'.length : Int) + 1)] 3 (0, 0))) (e2 : wf.heap[pB]? = some (.cells #[.int .i64 ((kk : Int) + ((Rc.made d).length : Nat))] 3 (0, 0))) (e3 : wf.heap[tB]? = some (.cells (f lt') 56 (0, 0)))
    (e4 : wf.ownsRow wS.heap.size 22 1 lt' (ds'.length + 1) (us ++ [v])) (hm : Mv W wf (fun k => Bx iB pB tB k ∨ lt.ownBlock = some k)) : Ti b iB pB tB f wS (ds' ++ [d]) wf := by
  have hml : (Rc.made d).length = (Rc.get (b.drop kk)).2 := by rw [hd]; exact Rc.made_len hg
  have hpp : Pieces W wS.heap.size (us ++ [v]) (ds' ++ [d]) := t6.push hp (by rw [hd]; exact Rc.get_ne hg) hM hMu
  refine ⟨kk + (Rc.get (b.drop kk)).2, lt', us ++ [v], by rw [hd]; exact t1.more hg, ?_, ?_, e3, ?_, ?_, ?_⟩
  · rw [e1, List.length_append]
    rfl
  · rw [e2, hml]
    rfl
  · rw [List.length_append]
    exact e4
  · refine ((pieces_keep hpp).mv hm (fun k ⟨u, hu, e⟩ e' => ?_)).here
    have hk := (hpp.lt u hu k e).1
    rcases e' with e' | e'
    · unfold Bx at e'
      omega
    · obtain ⟨j, hj, rfl⟩ := List.getElem_of_mem hu
      exact piece_ap (hpp.2.1 j hj (by rw [← hpp.1]; exact hj)).1 t5 k e e'
  · refine t7.trans hm (fun k hk e => ?_)
    rcases e with e | e
    · exact e
    · have := (t5.lt k e).1
      omega
set_option maxHeartbeats 16000000 in
theorem body0 {w0 wS W : World} {stop : Int} {A : Act} {b d : List UInt8} {ds ds' : List (List UInt8)} {iB pB tB qB aB bW bx l n k KK M : Nat} {va vo v : Value} {Zs : Nat → Prop} (hTT : Rc.Told b ds KK) (hT0 : (Rc.get (b.drop KK)).2 = 0)
    (hsf : Keeps Zs wS (Sf 0 stop b w0 qB aB bW bx va vo ds)) (hz : ∀ k, Zs k → ¬ Bx iB pB tB k) (hne : iB ≠ pB ∧ iB ≠ tB ∧ pB ≠ tB ∧ iB < wS.heap.size ∧ pB < wS.heap.size ∧ tB < wS.heap.size)
    (hqz : Zs qB ∧ True) (hI : Tm b iB pB tB (fun x => #[x, .slice none 0 0]) wS M ds' W) (ht : Rc.Told b ds' k) (hg : (Rc.get (b.drop k)).2 ≠ 0) (hd : d = (Rc.get (b.drop k)).1) (hp : Piece W M v d) (hM : wS.heap.size ≤ M)
    (hdl : d.length ≤ 100000000) (hbl : b.length ≤ 1048576)
    (hs : A.tmps.size = 464) (hdf : A.defers = []) (h3 : A.tmps.getD 3 undef = .pointer (some ⟨w0.heap.size, 0, none⟩)) (h4 : A.tmps.getD 4 undef = .pointer (some ⟨w0.heap.size + 1, 0, none⟩)) (h24 : A.tmps.getD 24 undef = .pointer (some ⟨aB, 0, none⟩)) (h41 : A.tmps.getD 41 undef = .pointer (some ⟨tB, 0, none⟩))
    (h42 : A.tmps.getD 42 undef = .pointer (some ⟨qB, 0, none⟩)) (h43 : A.tmps.getD 43 undef = .pointer (some ⟨iB, 0, none⟩)) (h44 : A.tmps.getD 44 undef = .pointer (some ⟨pB, 0, none⟩)) (h45 : A.tmps.getD 45 undef = .int .i64 (k : Nat)) (h46 : A.tmps.getD 46 undef = v) :
    wBody.wpIn (Fence.wide.inRound l) n Try.prog (ownPostK (fun _ _ => True) (Ti b iB pB tB (fun x => #[x, .slice none 0 0]) wS) (Ix0 b iB pB tB (fun x => #[x, .slice none 0 0]) wS stop) (ds' ++ [d]) W) A W := by
  obtain ⟨s, eA, hsk⟩ := act_open A _ hs hdf
  rw [hsk] at h3 h4 h24 h41 h42 h43 h44 h45 h46
  rw [eA, h3, h4, h24, h41, h42, h43, h44, h45, h46]
  clear eA hsk h3 h4 h24 h41 h42 h43 h44 h45 h46 hs hdf
  obtain ⟨r, hr⟩ := Rc.told_prefix ds' b ds KK k hTT hT0 ht hg
  rw [← hd] at hr
  have HI := hide hI.ti
  obtain ⟨kk, lt, us, t1, t2, t3, t4, t5, t6, t7, hMu⟩ := hI
  obtain rfl := Rc.told_uniq _ _ _ _ t1 ht
  have sf := (hsf.mv t7 hz).here
  obtain ⟨aa, ca, rfl, hca1, hca2⟩ := sf.2.2.1.form
  have hlen : ds'.length < ds.length := by rw [hr]; simp
  obtain ⟨ga, x1, x2, x3, rfl, cta, bta⟩ := sf.2.2.1.at ds'.length hlen
  have hdi : ds[ds'.length] = d := by simp [hr]
  rw [hdi] at bta
  have cbox := sf.2.2.1.box
  have hnx := listed_nil sf.2.2.1.2 ds'.length hlen rfl cta
  have cq : W.cell? ⟨qB, 0, none⟩ = some (.int .i64 0) := (cell_of_row _ _ 0 _ 3 (0, 0) sf.1).trans rfl
  have cs : W.cell? ⟨w0.heap.size, 0, none⟩ = some (.int .i64 stop) := (cell_of_row _ _ 0 _ 3 (0, 0) sf.2.1).trans rfl
  have ci : W.cell? ⟨iB, 0, none⟩ = some (.int .i64 (ds'.length : Nat)) := (cell_of_row _ _ 0 _ 3 (0, 0) t2).trans rfl
  have cp : W.cell? ⟨pB, 0, none⟩ = some (.int .i64 (kk : Nat)) := (cell_of_row _ _ 0 _ 3 (0, 0) t3).trans rfl
  have ct : W.cell? ⟨tB, 0, none⟩ = some lt := (cell_of_row _ _ 0 _ 56 (0, 0) t4).trans rfl
  have hcnt := hTT.count
  have hle := hTT.le
  obtain ⟨m, hm⟩ : ∃ m, m = ds'.length := ⟨_, rfl⟩
  obtain ⟨n1, hn1⟩ : ∃ n1, n1 = ds.length := ⟨_, rfl⟩
  rw [← hm] at ci cta hlen
  rw [← hn1] at cbox hlen hca1 hcnt
  have HM := hide (And.intro hm hn1)
  obtain ⟨y1, y2, y3, rfl⟩ := hp.shape
  have HALL := hide (And.intro t1 (And.intro t2 (And.intro t3 (And.intro t4 (And.intro t5 (And.intro t6 t7))))))
  have HSF := hide (And.intro hsf (And.intro hz (And.intro hne (And.intro sf (And.intro hg (And.intro hd (And.intro hMu (And.intro hM (And.intro hp bta)))))))))
  have cva := conv_bs bta
  have cvp := conv_bs hp.bs
  clear t1 t2 t3 t4 t5 t6 t7 hsf hz hne sf hr hdi hm hn1 bta hp hMu hd hg ht hTT hT0 hM
  have HQZ := hide hqz
  have hLO : ¬ LetsOut (ownPostK (fun _ _ => True) (Ti b iB pB tB (fun x => #[x, .slice none 0 0]) wS) (Ix0 b iB pB tB (fun x => #[x, .slice none 0 0]) wS stop) (ds' ++ [d]) W) := fun ⟨_, _, h⟩ => h
  conv => arg 4; whnf
  by_cases hstop : (m : Int) = stop
  · have e0 : ((m : Int) == stop) = true := by rw [beq_iff_eq]; exact hstop
    have HST := hide hstop
    clear hstop
    gi_wp2_with fail
    exact ⟨KeepsOthers.refl _, rfl, ds', HI.out, by rw [← HM.out.1]; exact HST.out⟩
  · have e0 : ((m : Int) == stop) = false := by rw [beq_eq_false_iff_ne]; exact hstop
    clear hstop
    have lt1 : decide ((n1 : Int) ≤ (m : Int)) = false := decide_eq_false (by omega)
    have lt2 : ¬ ((n1 : Int) ≤ (m : Int)) := by omega
    have z1 : ((ByteArray.mk (List.toArray d)).toList == (ByteArray.mk (List.toArray d)).toList) = true := by simp
    have CV : Hid ((convert 22 9 (.slice x1 x2 x3)).run Try.prog W.drew = .ok (.string ⟨d.toArray⟩) W.drew ∧ (convert 22 9 (.slice y1 y2 y3)).run Try.prog W.drew = .ok (.string ⟨d.toArray⟩) W.drew) := ⟨conv_bs (on_bs HSF.out.2.2.2.2.2.2.2.2.2 ((Below.refl _ W).drew)), conv_bs (on_bs HSF.out.2.2.2.2.2.2.2.2.1.bs ((Below.refl _ W).drew))⟩
    gi_wp2_with fail
    refine round_late (J := fun _ => true) (S := fun V => (V.cell? ⟨iB, 0, none⟩ = some (.int .i64 (m : Nat)) ∧ V.cell? ⟨pB, 0, none⟩ = some (.int .i64 (kk : Nat)) ∧ V.cell? ⟨aB, 0, none⟩ = some (.slice (some ⟨ga, 0, none⟩) n1 ca) ∧ V.cell? ⟨ga, m, none⟩ = some (.slice x1 x2 x3)) ∧ (convert 22 9 (.slice x1 x2 x3)).run Try.prog V = .ok (.string ⟨d.toArray⟩) V ∧ (convert 22 9 (.slice y1 y2 y3)).run Try.prog V = .ok (.string ⟨d.toArray⟩) V) (by kernel_rfl) (by kernel_rfl) (fun ⟨_, _, h⟩ => h) ⟨⟨ci, cp, cbox, cta⟩, CV.out.1, CV.out.2⟩ (fun hHeld => ?_)
    refine' wpAnyJ_take (i := 0) (oi := { dst := some 344, op := Op.load 3 (Operand.tmp 43), type := 3, pos := "law.go:224", after := #[], guard := none }) (v := _) rfl (by kernel_rfl) (by kernel_rfl) (by kernel_rfl) (by kernel_rfl) (fun _ _ _ h => h) (Or.inl ⟨by rfl, ?hyP1⟩) (by assumption) ?reP1
    case hyP1 => (intro W hSw; (try dsimp only at hSw); go_simp; try with_reducible rfl)
    try simp only [Act.put, List.setIfInBounds_toArray, List.set_cons_zero, List.set_cons_succ]
    refine' wpAnyJ_take (i := 1) (oi := { dst := some 345, op := Op.load 34 (Operand.tmp 24), type := 34, pos := "law.go:224", after := #[], guard := none }) (v := _) rfl (by kernel_rfl) (by kernel_rfl) (by kernel_rfl) (by kernel_rfl) (fun _ _ _ h => h) (Or.inl ⟨by rfl, ?hyP2⟩) (by assumption) ?reP2
    case hyP2 => (intro W hSw; (try dsimp only at hSw); go_simp; try with_reducible rfl)
    try simp only [Act.put, List.setIfInBounds_toArray, List.set_cons_zero, List.set_cons_succ]
    refine' wpAnyJ_takeW (i := 2) (oi := { dst := some 346, op := Op.call { callee := Callee.builtin Builtin.len, args := #[Operand.tmp 345], argTypes := #[34] }, type := 3, pos := "law.go:224", after := #[{ on := 1, ground := Ground.data }], guard := none }) (v := _) rfl (by kernel_rfl) (by kernel_rfl) (by kernel_rfl) (fun _ _ _ h => h) (Or.inl ⟨by rfl, ?hyP3⟩) ?reP3
    case hyP3 => (intro W hSw; (try dsimp only at hSw); go_simp; try with_reducible rfl)
    try simp only [Act.put, List.setIfInBounds_toArray, List.set_cons_zero, List.set_cons_succ]
    refine' wpAnyJ_takeW (i := 3) (oi := { dst := some 347, op := Op.binOp BinOp.geq 3 (Operand.tmp 344) (Operand.tmp 346) 3, type := 4, pos := "law.go:224", after := #[{ on := 0, ground := Ground.data }, { on := 2, ground := Ground.data }], guard := none }) (v := .bool false) rfl (by kernel_rfl) (by kernel_rfl) (by kernel_rfl) (fun _ _ _ h => h) (Or.inl ⟨by rfl, ?hyP4⟩) ?reP4
    case hyP4 => (intro W hSw; (try dsimp only at hSw); go_simp; try with_reducible rfl)
    try simp only [Act.put, List.setIfInBounds_toArray, List.set_cons_zero, List.set_cons_succ]
    refine' wpAnyJ_takeW (i := 4) (oi := { dst := some 348, op := Op.move (Operand.tmp 347), type := 4, pos := "law.go:224", after := #[{ on := 3, ground := Ground.data }], guard := none }) (v := .bool false) rfl (by kernel_rfl) (by kernel_rfl) (by kernel_rfl) (fun _ _ _ h => h) (Or.inl ⟨by rfl, ?hyP5⟩) ?reP5
    case hyP5 => (intro W hSw; (try dsimp only at hSw); go_simp; try with_reducible rfl)
    try simp only [Act.put, List.setIfInBounds_toArray, List.set_cons_zero, List.set_cons_succ]
    refine' wpAnyJ_takeW (i := 5) (oi := { dst := some 349, op := Op.move (Operand.tmp 45), type := 3, pos := "law.go:224", after := #[{ on := 4, ground := Ground.guard }], guard := some (4, false) }) (v := _) rfl (by kernel_rfl) (by kernel_rfl) (by kernel_rfl) (fun _ _ _ h => h) (Or.inl ⟨by rfl, ?hyP6⟩) ?reP6
    case hyP6 => (intro W hSw; (try dsimp only at hSw); go_simp; try with_reducible rfl)
    try simp only [Act.put, List.setIfInBounds_toArray, List.set_cons_zero, List.set_cons_succ]
    refine' wpAnyJ_take (i := 6) (oi := { dst := some 350, op := Op.load 3 (Operand.tmp 44), type := 3, pos := "law.go:224", after := #[{ on := 4, ground := Ground.guard }], guard := some (4, false) }) (v := _) rfl (by kernel_rfl) (by kernel_rfl) (by kernel_rfl) (by kernel_rfl) (fun _ _ _ h => h) (Or.inl ⟨by rfl, ?hyP7⟩) (by assumption) ?reP7
    case hyP7 => (intro W hSw; (try dsimp only at hSw); go_simp; try with_reducible rfl)
    try simp only [Act.put, List.setIfInBounds_toArray, List.set_cons_zero, List.set_cons_succ]
    refine' wpAnyJ_takeW (i := 7) (oi := { dst := some 351, op := Op.binOp BinOp.neq 3 (Operand.tmp 349) (Operand.tmp 350) 3, type := 4, pos := "law.go:224", after := #[{ on := 5, ground := Ground.data }, { on := 6, ground := Ground.data }, { on := 4, ground := Ground.guard }], guard := some (4, false) }) (v := .bool false) rfl (by kernel_rfl) (by kernel_rfl) (by kernel_rfl) (fun _ _ _ h => h) (Or.inl ⟨by rfl, ?hyP8⟩) ?reP8
    case hyP8 => (intro W hSw; (try dsimp only at hSw); go_simp; try with_reducible rfl)
    try simp only [Act.put, List.setIfInBounds_toArray, List.set_cons_zero, List.set_cons_succ]
    refine' wpAnyJ_takeW (i := 8) (oi := { dst := some 352, op := Op.pick (Operand.tmp 348) (Operand.const (Value.bool true)) (Operand.tmp 351), type := 4, pos := "law.go:224", after := #[{ on := 4, ground := Ground.data }, { on := 7, ground := Ground.data }], guard := none }) (v := .bool false) rfl (by kernel_rfl) (by kernel_rfl) (by kernel_rfl) (fun _ _ _ h => h) (Or.inl ⟨by rfl, ?hyP9⟩) ?reP9
    case hyP9 => (intro W hSw; (try dsimp only at hSw); go_simp; try with_reducible rfl)
    try simp only [Act.put, List.setIfInBounds_toArray, List.set_cons_zero, List.set_cons_succ]
    refine' wpAnyJ_takeW (i := 9) (oi := { dst := some 353, op := Op.move (Operand.tmp 352), type := 4, pos := "law.go:224", after := #[{ on := 8, ground := Ground.data }, { on := 4, ground := Ground.chain }], guard := none }) (v := .bool false) rfl (by kernel_rfl) (by kernel_rfl) (by kernel_rfl) (fun _ _ _ h => h) (Or.inl ⟨by rfl, ?hyP10⟩) ?reP10
    case hyP10 => (intro W hSw; (try dsimp only at hSw); go_simp; try with_reducible rfl)
    try simp only [Act.put, List.setIfInBounds_toArray, List.set_cons_zero, List.set_cons_succ]
    refine' wpAnyJ_takeW (i := 10) (oi := { dst := some 354, op := Op.move (Operand.tmp 46), type := 22, pos := "law.go:224", after := #[{ on := 9, ground := Ground.guard }], guard := some (9, false) }) (v := _) rfl (by kernel_rfl) (by kernel_rfl) (by kernel_rfl) (fun _ _ _ h => h) (Or.inl ⟨by rfl, ?hyP11⟩) ?reP11
    case hyP11 => (intro W hSw; (try dsimp only at hSw); go_simp; try with_reducible rfl)
    try simp only [Act.put, List.setIfInBounds_toArray, List.set_cons_zero, List.set_cons_succ]
    refine' wpAnyJ_take (i := 11) (oi := { dst := some 355, op := Op.convert 22 9 (Operand.tmp 354), type := 9, pos := "law.go:224", after := #[{ on := 10, ground := Ground.data }, { on := 9, ground := Ground.guard }], guard := some (9, false) }) (v := _) rfl (by kernel_rfl) (by kernel_rfl) (by kernel_rfl) (by kernel_rfl) (fun _ _ _ h => h) (Or.inl ⟨by rfl, ?hyP12⟩) (by assumption) ?reP12
    case hyP12 => (intro W hSw; (try dsimp only at hSw); go_simp; try with_reducible rfl)
    try simp only [Act.put, List.setIfInBounds_toArray, List.set_cons_zero, List.set_cons_succ]
    refine' wpAnyJ_take (i := 12) (oi := { dst := some 356, op := Op.load 34 (Operand.tmp 24), type := 34, pos := "law.go:224", after := #[{ on := 9, ground := Ground.guard }], guard := some (9, false) }) (v := _) rfl (by kernel_rfl) (by kernel_rfl) (by kernel_rfl) (by kernel_rfl) (fun _ _ _ h => h) (Or.inl ⟨by rfl, ?hyP13⟩) (by assumption) ?reP13
    case hyP13 => (intro W hSw; (try dsimp only at hSw); go_simp; try with_reducible rfl)
    try simp only [Act.put, List.setIfInBounds_toArray, List.set_cons_zero, List.set_cons_succ]
    refine' wpAnyJ_take (i := 13) (oi := { dst := some 357, op := Op.load 3 (Operand.tmp 43), type := 3, pos := "law.go:224", after := #[{ on := 9, ground := Ground.guard }], guard := some (9, false) }) (v := _) rfl (by kernel_rfl) (by kernel_rfl) (by kernel_rfl) (by kernel_rfl) (fun _ _ _ h => h) (Or.inl ⟨by rfl, ?hyP14⟩) (by assumption) ?reP14
    case hyP14 => (intro W hSw; (try dsimp only at hSw); go_simp; try with_reducible rfl)
    try simp only [Act.put, List.setIfInBounds_toArray, List.set_cons_zero, List.set_cons_succ]
    refine' wpAnyJ_takeW (i := 14) (oi := { dst := some 358, op := Op.indexAddr 34 (Operand.tmp 356) (Operand.tmp 357), type := 0, pos := "law.go:224", after := #[{ on := 12, ground := Ground.data }, { on := 13, ground := Ground.data }, { on := 9, ground := Ground.guard }], guard := some (9, false) }) (v := _) rfl (by kernel_rfl) (by kernel_rfl) (by kernel_rfl) (fun _ _ _ h => h) (Or.inl ⟨by rfl, ?hyP15⟩) ?reP15
    case hyP15 => (intro W hSw; (try dsimp only at hSw); go_simp; try with_reducible rfl)
    try simp only [Act.put, List.setIfInBounds_toArray, List.set_cons_zero, List.set_cons_succ]
    refine' wpAnyJ_take (i := 15) (oi := { dst := some 359, op := Op.load 22 (Operand.tmp 358), type := 22, pos := "law.go:224", after := #[{ on := 14, ground := Ground.data }, { on := 9, ground := Ground.guard }], guard := some (9, false) }) (v := _) rfl (by kernel_rfl) (by kernel_rfl) (by kernel_rfl) (by kernel_rfl) (fun _ _ _ h => h) (Or.inl ⟨by rfl, ?hyP16⟩) (by assumption) ?reP16
    case hyP16 => (intro W hSw; (try dsimp only at hSw); go_simp; try with_reducible rfl)
    try simp only [Act.put, List.setIfInBounds_toArray, List.set_cons_zero, List.set_cons_succ]
    refine' wpAnyJ_take (i := 16) (oi := { dst := some 360, op := Op.convert 22 9 (Operand.tmp 359), type := 9, pos := "law.go:224", after := #[{ on := 15, ground := Ground.data }, { on := 9, ground := Ground.guard }], guard := some (9, false) }) (v := _) rfl (by kernel_rfl) (by kernel_rfl) (by kernel_rfl) (by kernel_rfl) (fun _ _ _ h => h) (Or.inl ⟨by rfl, ?hyP17⟩) (by assumption) ?reP17
    case hyP17 => (intro W hSw; (try dsimp only at hSw); go_simp; try with_reducible rfl)
    try simp only [Act.put, List.setIfInBounds_toArray, List.set_cons_zero, List.set_cons_succ]
    refine' wpAnyJ_takeW (i := 17) (oi := { dst := some 361, op := Op.binOp BinOp.neq 9 (Operand.tmp 355) (Operand.tmp 360) 9, type := 4, pos := "law.go:224", after := #[{ on := 11, ground := Ground.data }, { on := 16, ground := Ground.data }, { on := 9, ground := Ground.guard }], guard := some (9, false) }) (v := .bool false) rfl (by kernel_rfl) (by kernel_rfl) (by kernel_rfl) (fun _ _ _ h => h) (Or.inl ⟨by rfl, ?hyP18⟩) ?reP18
    case hyP18 => (intro W hSw; (try dsimp only at hSw); go_simp; try with_reducible rfl)
    try simp only [Act.put, List.setIfInBounds_toArray, List.set_cons_zero, List.set_cons_succ]
    refine' wpAnyJ_takeW (i := 18) (oi := { dst := some 362, op := Op.pick (Operand.tmp 353) (Operand.const (Value.bool true)) (Operand.tmp 361), type := 4, pos := "law.go:224", after := #[{ on := 9, ground := Ground.data }, { on := 17, ground := Ground.data }], guard := none }) (v := .bool false) rfl (by kernel_rfl) (by kernel_rfl) (by kernel_rfl) (fun _ _ _ h => h) (Or.inl ⟨by rfl, ?hyP19⟩) ?reP19
    case hyP19 => (intro W hSw; (try dsimp only at hSw); go_simp; try with_reducible rfl)
    try simp only [Act.put, List.setIfInBounds_toArray, List.set_cons_zero, List.set_cons_succ]
    refine wpAnyJ_done (by kernel_rfl) ?_ _
    have hmade := rmade_any (.slice x1 x2 x3) d W.drew (on_bs HSF.out.2.2.2.2.2.2.2.2.2 ((Below.refl _ W).drew)) hnx (by omega)
    have HMADE := hide hmade
    clear hmade CV cva cvp hHeld
    gi_wp2_with fail
    refine ⟨trivial, (fun h => by cases h), CallsIn.mono (F := Fence.wide.inRound l) (callsIn_wide.2 HMADE.out) ?_⟩
    rintro e w2 ⟨vm, rfl, hvm, hb2'⟩
    have hb2 : Below W.heap.size W w2 := ⟨hb2'.os, hb2'.tape, hb2'.output, hb2'.size, hb2'.block⟩
    obtain ⟨am, cm, rfl⟩ := own_len hvm
    have hml : (Rc.made d).length ≤ 2000000000 := by
      have h1 : (Rc.made d).length = (Rc.get (b.drop kk)).2 := by rw [HSF.out.2.2.2.2.2.1]; exact Rc.made_len HSF.out.2.2.2.2.1
      have h2 := Rc.get_le (b.drop kk)
      rw [List.length_drop] at h2
      omega
    have hkk : kk ≤ 1048576 := by have := HALL.out.1.le; omega
    have hs2 := hb2.size
    have e2t := (hb2.block pB (lt_of_block HALL.out.2.2.1)).trans HALL.out.2.2.1
    have cp2 : w2.cell? ⟨pB, 0, none⟩ = some (.int .i64 (kk : Nat)) := (cell_of_row _ _ 0 _ 3 (0, 0) e2t).trans rfl
    have fp2 : w2.frozen? ⟨pB, 0, none⟩ = false := frozen_of_row _ _ 0 _ 3 e2t
    have HB2 := hide hb2
    have HE2 := hide e2t
    obtain ⟨L, hL⟩ : ∃ L, L = (Rc.made d).length := ⟨_, rfl⟩
    rw [← hL] at hml ⊢
    have HLL := hide hL
    clear hL hb2 hb2' hvm e2t HMADE
    gi_wp2_with fail
    obtain ⟨al, cl, hlt⟩ := own_len HALL.out.2.2.2.2.1
    rw [← HM.out.1] at hlt
    subst hlt
    obtain ⟨i22, hi22, hz0, hz1, hz2⟩ := info_parts info22
    have hw3 : ∀ k, k < W.heap.size → k ≠ pB → (w2.setCell ⟨pB, 0, none⟩ (.int .i64 ((kk : Int) + (L : Int)))).heap[k]? = W.heap[k]? := fun k hk hn => (heap_setCell_other w2 ⟨pB, 0, none⟩ k _ (by simpa using hn)).trans (HB2.out.block k hk)
    have hp3 : (w2.setCell ⟨pB, 0, none⟩ (.int .i64 ((kk : Int) + (L : Int)))).heap[pB]? = some (.cells #[.int .i64 ((kk : Int) + (L : Int))] 3 (0, 0)) := by
      have := heap_setCell_same w2 pB 0 _ 3 (.int .i64 ((kk : Int) + (L : Int))) HE2.out
      simpa using this
    have hK3 : KeepsOthers W (w2.setCell ⟨pB, 0, none⟩ (.int .i64 ((kk : Int) + (L : Int)))) := (keeps_below HB2.out).trans (KeepsOthers.setCell _ _ _)
    have hM3 : Mv W (w2.setCell ⟨pB, 0, none⟩ (.int .i64 ((kk : Int) + (L : Int)))) (fun k => k = pB) := ⟨HB2.out.os, HB2.out.tape, HB2.out.output, by simpa using hs2, hw3⟩
    clear hw3 cp2 fp2 cp
    generalize w2.setCell ⟨pB, 0, none⟩ (.int .i64 ((kk : Int) + (L : Int))) = w3 at *
    have hne := HSF.out.2.2.1
    have hsS := HALL.out.2.2.2.2.2.2.2.2.2.1
    have hs3 := hM3.2.2.2.1
    have q3 : ∀ k, k < W.heap.size → k ≠ pB → w3.heap[k]? = W.heap[k]? := fun k hk hn => hM3.2.2.2.2 k hk hn
    have bq : w3.heap[qB]? = some (.cells #[.int .i64 0] 3 (0, 0)) := (q3 qB (lt_of_block HSF.out.2.2.2.1.1) (fun e => (by have h1 := HSF.out.1.1; exact HSF.out.2.1 qB (HQZ.out.1) (.inr (.inl e))))).trans HSF.out.2.2.2.1.1
    have bt : w3.heap[tB]? = some (.cells #[.slice al m cl, .slice none 0 0] 56 (0, 0)) := (q3 tB (lt_of_block HALL.out.2.2.2.1) (fun e => hne.2.2.1 e.symm)).trans HALL.out.2.2.2.1
    have bi : w3.heap[iB]? = some (.cells #[.int .i64 (m : Nat)] 3 (0, 0)) := by
      have := (q3 iB (lt_of_block HALL.out.2.1) (fun e => hne.1 e)).trans HALL.out.2.1
      rw [← HM.out.1] at this
      exact this
    have ol : w3.ownsRow wS.heap.size 22 1 (.slice al m cl) m us := by
      have := own_on HALL.out.2.2.2.2.1 (fun k e => q3 k (HALL.out.2.2.2.2.1.lt k e).2 (fun e' => by have := (HALL.out.2.2.2.2.1.lt k e).1; have := hne.2.2.2.2.1; omega))
      rw [← HM.out.1] at this
      exact this
    have SZ : Hid (wS.heap.size ≤ w3.heap.size) := by simp only [Hid]; omega
    have LT3 : Hid (w3.drew.ownsRow wS.heap.size 22 1 (.slice al m cl) m us) := ol
    have cq3 : w3.cell? ⟨qB, 0, none⟩ = some (.int .i64 0) := (cell_of_row _ _ 0 _ 3 (0, 0) bq).trans rfl
    have ct3 : w3.cell? ⟨tB, 0, none⟩ = some (.slice al m cl) := (cell_of_row _ _ 0 _ 56 (0, 0) bt).trans rfl
    have GB : Hid (∀ (w9 : World) (k : Nat), (w3.drew.alloc (.cells #[.slice y1 y2 y3] 22)).grownBy w9 (Value.slice al m cl).ownBlock → k < wS.heap.size → w9.heap[k]? = w3.heap[k]?) := fun w9 k hg hk => (hg.block k (by have := SZ.out; simp; omega) (fun e => by have := (ol.lt k e.symm).1; omega)).trans (Below.heap_alloc w3.drew _ k (by have := SZ.out; show k < w3.heap.size; omega))
    have hqS : qB < wS.heap.size := HSF.out.1.1 qB HQZ.out.1
    have SA : Hid ((w3.drew.alloc (.cells #[.slice y1 y2 y3] 22)).cell? ⟨qB, 0, none⟩ = some (.int .i64 0) ∧ (w3.drew.alloc (.cells #[.slice y1 y2 y3] 22)).cell? ⟨tB, 0, none⟩ = some (.slice al m cl)) :=
      ⟨(World.cell?_of_block (Below.heap_alloc w3.drew _ qB (lt_of_block bq))).trans cq3, (World.cell?_of_block (Below.heap_alloc w3.drew _ tB (lt_of_block bt))).trans ct3⟩
    have SB : Hid (∀ w9, (w3.drew.alloc (.cells #[.slice y1 y2 y3] 22)).grownBy w9 (Value.slice al m cl).ownBlock → w9.cell? ⟨qB, 0, none⟩ = some (.int .i64 0) ∧ w9.cell? ⟨tB, 0, none⟩ = some (.slice al m cl)) := fun w9 hg =>
      ⟨(World.cell?_of_block (GB.out w9 qB hg hqS)).trans cq3, (World.cell?_of_block (GB.out w9 tB hg hne.2.2.2.2.2)).trans ct3⟩
    have SF : Hid (∀ w9, (w3.drew.alloc (.cells #[.slice y1 y2 y3] 22)).grownBy w9 (Value.slice al m cl).ownBlock → w9.frozen? ⟨tB, 0, none⟩ = false) := fun w9 hg =>
      frozen_of_row _ _ 0 _ 56 ((GB.out w9 tB hg hne.2.2.2.2.2).trans bt)
    have BB := hide (And.intro bt (And.intro bi (And.intro hp3 (And.intro hK3 (And.intro hM3 hne)))))
    have hm6 : m ≤ 1000000 := by omega
    clear bq bt bi ol hp3 hK3 hM3 q3 hs3 hne hqS HB2 HE2 cs ci cta cbox ct cq lt1 lt2 z1 hsS e0
    refine round_late (J := fun j => j != 8) (S := fun V => V.cell? ⟨qB, 0, none⟩ = some (.int .i64 0) ∧ V.cell? ⟨tB, 0, none⟩ = some (.slice al m cl)) (by kernel_rfl) (by kernel_rfl) (fun ⟨_, _, h⟩ => h) ⟨cq3, ct3⟩ (fun hHeld => ?_)
    refine' wpAnyJ_take (i := 0) (oi := { dst := some 388, op := Op.load 3 (Operand.tmp 42), type := 3, pos := "law.go:238", after := #[], guard := none }) (v := _) rfl (by kernel_rfl) (by kernel_rfl) (by kernel_rfl) (by kernel_rfl) (fun _ _ _ h => h) (Or.inl ⟨by rfl, ?hyR1⟩) (by assumption) ?reR1
    case hyR1 => (intro W hSw; (try dsimp only at hSw); go_simp; try with_reducible rfl)
    try simp only [Act.put, List.setIfInBounds_toArray, List.set_cons_zero, List.set_cons_succ]
    refine' wpAnyJ_take (i := 1) (oi := { dst := some 389, op := Op.load 3 (Operand.tmp 42), type := 3, pos := "law.go:238", after := #[], guard := none }) (v := _) rfl (by kernel_rfl) (by kernel_rfl) (by kernel_rfl) (by kernel_rfl) (fun _ _ _ h => h) (Or.inl ⟨by rfl, ?hyR2⟩) (by assumption) ?reR2
    case hyR2 => (intro W hSw; (try dsimp only at hSw); go_simp; try with_reducible rfl)
    try simp only [Act.put, List.setIfInBounds_toArray, List.set_cons_zero, List.set_cons_succ]
    refine' wpAnyJ_takeW (i := 2) (oi := { dst := some 390, op := Op.indexAddr 56 (Operand.tmp 41) (Operand.tmp 389), type := 0, pos := "law.go:238", after := #[{ on := 1, ground := Ground.data }], guard := none }) (v := _) rfl (by kernel_rfl) (by kernel_rfl) (by kernel_rfl) (fun _ _ _ h => h) (Or.inl ⟨by rfl, ?hyR3⟩) ?reR3
    case hyR3 => (intro W hSw; (try dsimp only at hSw); go_simp; try with_reducible rfl)
    try simp only [Act.put, List.setIfInBounds_toArray, List.set_cons_zero, List.set_cons_succ]
    refine' wpAnyJ_take (i := 3) (oi := { dst := some 391, op := Op.load 34 (Operand.tmp 390), type := 34, pos := "law.go:238", after := #[{ on := 2, ground := Ground.data }], guard := none }) (v := _) rfl (by kernel_rfl) (by kernel_rfl) (by kernel_rfl) (by kernel_rfl) (fun _ _ _ h => h) (Or.inl ⟨by rfl, ?hyR4⟩) (by assumption) ?reR4
    case hyR4 => (intro W hSw; (try dsimp only at hSw); go_simp; try with_reducible rfl)
    try simp only [Act.put, List.setIfInBounds_toArray, List.set_cons_zero, List.set_cons_succ]
    refine' wpAnyJ_takeW (i := 4) (oi := { dst := some 392, op := Op.move (Operand.tmp 46), type := 22, pos := "law.go:238", after := #[], guard := none }) (v := _) rfl (by kernel_rfl) (by kernel_rfl) (by kernel_rfl) (fun _ _ _ h => h) (Or.inl ⟨by rfl, ?hyR5⟩) ?reR5
    case hyR5 => (intro W hSw; (try dsimp only at hSw); go_simp; try with_reducible rfl)
    try simp only [Act.put, List.setIfInBounds_toArray, List.set_cons_zero, List.set_cons_succ]
    refine wpAnyJ_ready (rs := [5]) (by kernel_rfl) (by simp) ?_
    refine AllReadyJ.cons (o := { dst := some 393, op := Op.buildSlice 34 1 #[(0, Operand.tmp 392)], type := 34, pos := "law.go:238", after := #[{ on := 4, ground := Ground.data }], guard := none }) rfl (fun K hK => ?_) AllReadyJ.nil
    go_simp
    refine hK.out _ _ (fun _ _ => SA.out) ?_
    clear hK K
    try simp only [Act.put, List.setIfInBounds_toArray, List.set_cons_zero, List.set_cons_succ]
    refine wpAnyJ_ready (rs := [6]) (by kernel_rfl) (by simp) ?_
    refine AllReadyJ.cons (o := { dst := some 394, op := Op.call { callee := Callee.builtin Builtin.append, args := #[Operand.tmp 391, Operand.tmp 393], argTypes := #[34, 34] }, type := 34, pos := "law.go:238", after := #[{ on := 3, ground := Ground.data }, { on := 5, ground := Ground.data }], guard := none }) rfl (fun K hK => ?_) AllReadyJ.nil
    refine step_append_lies _ rfl (.tmp 391) (.tmp 393) 34 rfl wS.heap.size 22 i22 (.slice none 0 0) 1 24 Try.underlying34 hi22 hz0 hz1 hz2 rfl (by decide) (.slice al m cl) m us (by simp [Act.eval]) (LT3.out.alloc _) ⟨w3.heap.size, 0, none⟩ 1 1 [.slice y1 y2 y3] (by simp [Act.eval]) rfl (by intro j u hj; match j, hj with | 0, hj => simp at hj; subst hj; simp [Addr.add]) (by intro u hu; simp at hu; subst hu; rfl) (by omega) (by unfold maxLen; omega) (by omega) ?hbb _ rfl ?_
    case hbb => (have := SZ.out; simp; omega)
    intro g9 c9 w9 ho9 hg9 ha9 _
    have G9 := hide (And.intro ho9 (And.intro hg9 ha9))
    have S9 := hide (SB.out w9 hg9)
    clear ho9 hg9 ha9
    refine hK.out _ _ (fun _ _ => S9.out) ?_
    clear hK K
    obtain ⟨d1, d2⟩ := S9.out
    have fz := SF.out w9 G9.out.2.1
    try simp only [Act.put, List.setIfInBounds_toArray, List.set_cons_zero, List.set_cons_succ]
    refine' wpAnyJ_takeW (i := 7) (oi := { dst := some 395, op := Op.indexAddr 56 (Operand.tmp 41) (Operand.tmp 388), type := 0, pos := "law.go:238", after := #[{ on := 0, ground := Ground.data }, { on := 0, ground := Ground.phase }, { on := 1, ground := Ground.phase }, { on := 2, ground := Ground.phase }, { on := 3, ground := Ground.phase }, { on := 4, ground := Ground.phase }, { on := 5, ground := Ground.phase }, { on := 6, ground := Ground.phase }], guard := none }) (v := _) rfl (by kernel_rfl) (by kernel_rfl) (by kernel_rfl) (fun _ _ _ h => h) (Or.inl ⟨by rfl, ?hyR6⟩) ?reR6
    case hyR6 => (intro W hSw; (try dsimp only at hSw); go_simp; try with_reducible rfl)
    try simp only [Act.put, List.setIfInBounds_toArray, List.set_cons_zero, List.set_cons_succ]
    refine wpAnyJ_ready (rs := [8]) (by kernel_rfl) (by simp) ?_
    refine AllReadyJ.cons (o := { dst := none, op := Op.store 34 (Operand.tmp 395) (Operand.tmp 394), type := 0, pos := "law.go:238", after := #[{ on := 7, ground := Ground.data }, { on := 6, ground := Ground.data }, { on := 6, ground := Ground.chain }, { on := 0, ground := Ground.phase }, { on := 1, ground := Ground.phase }, { on := 2, ground := Ground.phase }, { on := 3, ground := Ground.phase }, { on := 4, ground := Ground.phase }, { on := 5, ground := Ground.phase }, { on := 6, ground := Ground.phase }], guard := none }) rfl (fun K hK => ?_) AllReadyJ.nil
    go_simp
    refine hK.out _ _ (fun h => absurd h (by decide)) ?_
    clear hK K
    try simp only [Act.put, List.setIfInBounds_toArray, List.set_cons_zero, List.set_cons_succ]
    refine wpAnyJ_done (by kernel_rfl) ?_ _
    have hne := BB.out.2.2.2.2.2
    have b9i := (GB.out w9 iB G9.out.2.1 hne.2.2.2.1).trans BB.out.2.1
    have b9t := (GB.out w9 tB G9.out.2.1 hne.2.2.2.2.2).trans BB.out.1
    have b9p := (GB.out w9 pB G9.out.2.1 hne.2.2.2.2.1).trans BB.out.2.2.1
    have x9i : (w9.setCell ⟨tB, 0, none⟩ (.slice (some ⟨g9, 0, none⟩) (m + 1) c9)).heap[iB]? = some (.cells #[.int .i64 (m : Nat)] 3 (0, 0)) := (heap_setCell_other w9 ⟨tB, 0, none⟩ iB _ (by simp; exact hne.2.1)).trans b9i
    have ci9 : (w9.setCell ⟨tB, 0, none⟩ (.slice (some ⟨g9, 0, none⟩) (m + 1) c9)).cell? ⟨iB, 0, none⟩ = some (.int .i64 (m : Nat)) := (cell_of_row _ _ 0 _ 3 (0, 0) x9i).trans rfl
    have fi9 : (w9.setCell ⟨tB, 0, none⟩ (.slice (some ⟨g9, 0, none⟩) (m + 1) c9)).frozen? ⟨iB, 0, none⟩ = false := frozen_of_row _ _ 0 _ 3 x9i
    have X9 := hide (And.intro b9i (And.intro b9t (And.intro b9p x9i)))
    clear b9i b9t b9p x9i hne d1 d2 fz hHeld
    gi_wp2_with fail
    obtain ⟨t1, t2, t3, t4, t5, t6, t7⟩ := HALL.out
    obtain ⟨hsf, hz, hne, sf, hg, hd, hMu, hM, hp, bta⟩ := HSF.out
    obtain ⟨b9i, b9t, b9p, x9i⟩ := X9.out
    obtain ⟨ho9, hg9, ha9⟩ := G9.out
    have hmd := HM.out.1
    have f1 := heap_setCell_same (w9.setCell ⟨tB, 0, none⟩ (.slice (some ⟨g9, 0, none⟩) (m + 1) c9)) iB 0 _ 3 (.int .i64 ((m : Int) + 1)) x9i
    have f2 := heap_setCell_same w9 tB 0 _ 56 (.slice (some ⟨g9, 0, none⟩) (m + 1) c9) b9t
    have hK9 : KeepsOthers w3 w9 := ((KeepsOthers.drew w3).trans (KeepsOthers.alloc _ _)).trans (KeepsOthers.of_grownBy hg9 (fun j o e hj => by
      rcases LT3.out.2 with ⟨e', _⟩ | ⟨g', cap', cur', e', _, hh, _⟩
      · rw [e'] at e; cases e
      · rw [e'] at e
        obtain rfl : g' = j := by simpa [Value.ownBlock] using e
        have := (Below.heap_alloc w3.drew (.cells #[.slice y1 y2 y3] 22) g' (lt_of_block hh)).trans hh
        rw [this] at hj
        obtain rfl := (Option.some.inj hj).symm
        rfl))
    have hm9 : Mv w3 w9 (fun k => (Value.slice al m cl).ownBlock = some k) := ⟨hg9.os, hg9.tape, hg9.output, by have := hg9.size; simp at this; omega, fun k hk hs => (hg9.block k (by simp; omega) (fun e => hs e.symm)).trans (Below.heap_alloc w3.drew _ k hk)⟩
    have hmS : Mv w9 ((w9.setCell ⟨tB, 0, none⟩ (.slice (some ⟨g9, 0, none⟩) (m + 1) c9)).setCell ⟨iB, 0, none⟩ (.int .i64 ((m : Int) + 1))) (Bx iB pB tB) := ⟨rfl, rfl, rfl, by simp [World.setCell], fun k _ hs => (heap_setCell_other _ ⟨iB, 0, none⟩ k _ (fun e => hs (.inl e))).trans (heap_setCell_other _ ⟨tB, 0, none⟩ k _ (fun e => hs (.inr (.inr e))))⟩
    have hmv : Mv W ((w9.setCell ⟨tB, 0, none⟩ (.slice (some ⟨g9, 0, none⟩) (m + 1) c9)).setCell ⟨iB, 0, none⟩ (.int .i64 ((m : Int) + 1))) (fun k => Bx iB pB tB k ∨ (Value.slice al m cl).ownBlock = some k) :=
      (((BB.out.2.2.2.2.1).mono (S' := fun k => Bx iB pB tB k ∨ (Value.slice al m cl).ownBlock = some k) (fun k _ e => .inl (.inr (.inl e)))).trans hm9 (fun k _ e => .inr e)).trans hmS (fun k _ e => .inl e)
    refine ⟨(BB.out.2.2.2.1.trans hK9).trans ((KeepsOthers.setCell _ _ _).trans (KeepsOthers.setCell _ _ _)), trivial, ?_⟩
    refine Ti.next (lt := .slice al m cl) (lt' := .slice (some ⟨g9, 0, none⟩) (m + 1) c9) (M := M) (v := .slice y1 y2 y3) (us := us) t1 t5 t6 t7 hg hd hp hM hMu ⟨hne.2.2.2.1, hne.2.2.2.2.1, hne.2.2.2.2.2⟩ ?_ ?_ ?_ ?_ hmv
    · rw [← hmd]
      simpa using f1
    · rw [← HLL.out]
      exact (heap_setCell_other _ ⟨iB, 0, none⟩ pB _ (fun e => hne.1 e.symm)).trans ((heap_setCell_other _ ⟨tB, 0, none⟩ pB _ (fun e => hne.2.2.1 e)).trans b9p)
    · refine (heap_setCell_other _ ⟨iB, 0, none⟩ tB _ (fun e => hne.2.1 e.symm)).trans ?_
      simpa using f2
    · rw [← hmd]
      have hng : ∀ B : Nat, B < wS.heap.size → (Value.slice (some ⟨g9, 0, none⟩) (m + 1) c9).ownBlock ≠ some B := fun B hB e => by
        have := (ho9.lt B e).1
        omega
      exact ownsRow_setCell_other (ownsRow_setCell_other ho9 (hng tB hne.2.2.2.2.2) _) (hng iB hne.2.2.2.1) _


end Go.Proofs.Ytkohlhnkaklnpaa

/-
  RecordReads: a round of Walk, the second time.
-/
namespace Go.Proofs.Ytkohlhnkaklnpaa
open Go.RowKit Go.Shelf
attribute [local go_sem] Oper.semAt_some
set_option maxRecDepth 100000
set_option maxHeartbeats 16000000 in
theorem tail1 {w0 wS W W0 : World} {stop : Int} {A : Act} {b d : List UInt8} {ds ds' : List (List UInt8)} {iB pB tB qB aB bW bx l n k KK M : Nat} {va vo v l0 : Value} {Zs : Nat → Prop} (hTT : Rc.Told b ds KK) (hT0 : (Rc.get (b.drop KK)).2 = 0)
    (hsf : Keeps Zs wS (Sf 1 stop b w0 qB aB bW bx va vo ds)) (hz : ∀ k, Zs k → ¬ Bx iB pB tB k) (hne : iB ≠ pB ∧ iB ≠ tB ∧ pB ≠ tB ∧ iB < wS.heap.size ∧ pB < wS.heap.size ∧ tB < wS.heap.size)
    (hqz : Zs qB ∧ True) (hI : Tm b iB pB tB (fun x => #[l0, x]) wS M ds' W) (ht : Rc.Told b ds' k) (hg : (Rc.get (b.drop k)).2 ≠ 0) (hd : d = (Rc.get (b.drop k)).1) (hp : Piece W M v d) (hM : wS.heap.size ≤ M)
    (hdl : d.length ≤ 100000000) (hbl : b.length ≤ 1048576)
    (hKW : KeepsOthers W0 W)
    (hs : A.tmps.size = 464) (hdf : A.defers = []) (h3 : A.tmps.getD 3 undef = .pointer (some ⟨w0.heap.size, 0, none⟩)) (h4 : A.tmps.getD 4 undef = .pointer (some ⟨w0.heap.size + 1, 0, none⟩)) (h24 : A.tmps.getD 24 undef = .pointer (some ⟨aB, 0, none⟩)) (h41 : A.tmps.getD 41 undef = .pointer (some ⟨tB, 0, none⟩))
    (h42 : A.tmps.getD 42 undef = .pointer (some ⟨qB, 0, none⟩)) (h43 : A.tmps.getD 43 undef = .pointer (some ⟨iB, 0, none⟩)) (h44 : A.tmps.getD 44 undef = .pointer (some ⟨pB, 0, none⟩)) (h45 : A.tmps.getD 45 undef = .int .i64 (k : Nat)) (h46 : A.tmps.getD 46 undef = v) :
    (tailN 3 (unblock wBody)).wpIn (Fence.wide.inRound l) n Try.prog (Exit.inBlock 13 (ownPostK (fun _ _ => True) (Ti b iB pB tB (fun x => #[l0, x]) wS) (fun _ _ _ => False) (ds' ++ [d]) W0)) A W := by
  obtain ⟨s, eA, hsk⟩ := act_open A _ hs hdf
  rw [hsk] at h3 h4 h24 h41 h42 h43 h44 h45 h46
  rw [eA, h3, h4, h24, h41, h42, h43, h44, h45, h46]
  clear eA hsk h3 h4 h24 h41 h42 h43 h44 h45 h46 hs hdf
  obtain ⟨r, hr⟩ := Rc.told_prefix ds' b ds KK k hTT hT0 ht hg
  rw [← hd] at hr
  have HI := hide hI.ti
  obtain ⟨kk, lt, us, t1, t2, t3, t4, t5, t6, t7, hMu⟩ := hI
  obtain rfl := Rc.told_uniq _ _ _ _ t1 ht
  have sf := (hsf.mv t7 hz).here
  obtain ⟨aa, ca, rfl, hca1, hca2⟩ := sf.2.2.1.form
  have hlen : ds'.length < ds.length := by rw [hr]; simp
  obtain ⟨ga, x1, x2, x3, rfl, cta, bta⟩ := sf.2.2.1.at ds'.length hlen
  have hdi : ds[ds'.length] = d := by simp [hr]
  rw [hdi] at bta
  have cbox := sf.2.2.1.box
  have hnx := listed_nil sf.2.2.1.2 ds'.length hlen rfl cta
  have cq : W.cell? ⟨qB, 0, none⟩ = some (.int .i64 1) := (cell_of_row _ _ 0 _ 3 (0, 0) sf.1).trans rfl
  have cs : W.cell? ⟨w0.heap.size, 0, none⟩ = some (.int .i64 stop) := (cell_of_row _ _ 0 _ 3 (0, 0) sf.2.1).trans rfl
  have ci : W.cell? ⟨iB, 0, none⟩ = some (.int .i64 (ds'.length : Nat)) := (cell_of_row _ _ 0 _ 3 (0, 0) t2).trans rfl
  have cp : W.cell? ⟨pB, 0, none⟩ = some (.int .i64 (kk : Nat)) := (cell_of_row _ _ 0 _ 3 (0, 0) t3).trans rfl
  have ct : W.cell? ⟨tB, 1, none⟩ = some lt := (cell_of_row _ _ 1 _ 56 (0, 0) t4).trans rfl
  have hcnt := hTT.count
  have hle := hTT.le
  obtain ⟨m, hm⟩ : ∃ m, m = ds'.length := ⟨_, rfl⟩
  obtain ⟨n1, hn1⟩ : ∃ n1, n1 = ds.length := ⟨_, rfl⟩
  rw [← hm] at ci cta hlen
  rw [← hn1] at cbox hlen hca1 hcnt
  have HM := hide (And.intro hm hn1)
  obtain ⟨y1, y2, y3, rfl⟩ := hp.shape
  have HALL := hide (And.intro t1 (And.intro t2 (And.intro t3 (And.intro t4 (And.intro t5 (And.intro t6 t7))))))
  have HSF := hide (And.intro hsf (And.intro hz (And.intro hne (And.intro sf (And.intro hg (And.intro hd (And.intro hMu (And.intro hM (And.intro hp bta)))))))))
  have cva := conv_bs bta
  have cvp := conv_bs hp.bs
  clear t1 t2 t3 t4 t5 t6 t7 hsf hz hne sf hr hdi hm hn1 bta hp hMu hd hg ht hTT hT0 hM
  have HQZ := hide hqz
  have HQZ := hide hqz
  have HKW := hide hKW
  clear hKW hqz
  conv => arg 4; whnf
  have hmade := rmade_any (.slice x1 x2 x3) d W HSF.out.2.2.2.2.2.2.2.2.2 hnx (by omega)
  have HMADE := hide hmade
  clear hmade cva cvp
  gi_wp2_with fail
  refine ⟨trivial, (fun h => by cases h), CallsIn.mono (F := Fence.wide.inRound l) (callsIn_wide.2 HMADE.out) ?_⟩
  rintro e w2 ⟨vm, rfl, hvm, hb2⟩
  obtain ⟨am, cm, rfl⟩ := own_len hvm
  have hml : (Rc.made d).length ≤ 2000000000 := by
    have h1 : (Rc.made d).length = (Rc.get (b.drop kk)).2 := by rw [HSF.out.2.2.2.2.2.1]; exact Rc.made_len HSF.out.2.2.2.2.1
    have h2 := Rc.get_le (b.drop kk)
    rw [List.length_drop] at h2
    omega
  have hkk : kk ≤ 1048576 := by have := HALL.out.1.le; omega
  have hs2 := hb2.size
  have e2t := (hb2.block pB (lt_of_block HALL.out.2.2.1)).trans HALL.out.2.2.1
  have cp2 : w2.cell? ⟨pB, 0, none⟩ = some (.int .i64 (kk : Nat)) := (cell_of_row _ _ 0 _ 3 (0, 0) e2t).trans rfl
  have fp2 : w2.frozen? ⟨pB, 0, none⟩ = false := frozen_of_row _ _ 0 _ 3 e2t
  have HB2 := hide hb2
  have HE2 := hide e2t
  obtain ⟨L, hL⟩ : ∃ L, L = (Rc.made d).length := ⟨_, rfl⟩
  rw [← hL] at hml ⊢
  have HLL := hide hL
  clear hL hb2 hvm e2t HMADE
  gi_wp2_with fail
  obtain ⟨al, cl, hlt⟩ := own_len HALL.out.2.2.2.2.1
  rw [← HM.out.1] at hlt
  subst hlt
  obtain ⟨i22, hi22, hz0, hz1, hz2⟩ := info_parts info22
  have hw3 : ∀ k, k < W.heap.size → k ≠ pB → (w2.setCell ⟨pB, 0, none⟩ (.int .i64 ((kk : Int) + (L : Int)))).heap[k]? = W.heap[k]? := fun k hk hn => (heap_setCell_other w2 ⟨pB, 0, none⟩ k _ (by simpa using hn)).trans (HB2.out.block k hk)
  have hp3 : (w2.setCell ⟨pB, 0, none⟩ (.int .i64 ((kk : Int) + (L : Int)))).heap[pB]? = some (.cells #[.int .i64 ((kk : Int) + (L : Int))] 3 (0, 0)) := by
    have := heap_setCell_same w2 pB 0 _ 3 (.int .i64 ((kk : Int) + (L : Int))) HE2.out
    simpa using this
  have hK3 : KeepsOthers W (w2.setCell ⟨pB, 0, none⟩ (.int .i64 ((kk : Int) + (L : Int)))) := (keeps_below HB2.out).trans (KeepsOthers.setCell _ _ _)
  have hM3 : Mv W (w2.setCell ⟨pB, 0, none⟩ (.int .i64 ((kk : Int) + (L : Int)))) (fun k => k = pB) := ⟨HB2.out.os, HB2.out.tape, HB2.out.output, by simpa using hs2, hw3⟩
  clear hw3 cp2 fp2 cp
  generalize w2.setCell ⟨pB, 0, none⟩ (.int .i64 ((kk : Int) + (L : Int))) = w3 at *
  have hne := HSF.out.2.2.1
  have hsS := HALL.out.2.2.2.2.2.2.2.2.2.1
  have hs3 := hM3.2.2.2.1
  have q3 : ∀ k, k < W.heap.size → k ≠ pB → w3.heap[k]? = W.heap[k]? := fun k hk hn => hM3.2.2.2.2 k hk hn
  have bq : w3.heap[qB]? = some (.cells #[.int .i64 1] 3 (0, 0)) := (q3 qB (lt_of_block HSF.out.2.2.2.1.1) (fun e => (by have h1 := HSF.out.1.1; exact HSF.out.2.1 qB (HQZ.out.1) (.inr (.inl e))))).trans HSF.out.2.2.2.1.1
  have bt : w3.heap[tB]? = some (.cells #[l0, .slice al m cl] 56 (0, 0)) := (q3 tB (lt_of_block HALL.out.2.2.2.1) (fun e => hne.2.2.1 e.symm)).trans HALL.out.2.2.2.1
  have bi : w3.heap[iB]? = some (.cells #[.int .i64 (m : Nat)] 3 (0, 0)) := by
    have := (q3 iB (lt_of_block HALL.out.2.1) (fun e => hne.1 e)).trans HALL.out.2.1
    rw [← HM.out.1] at this
    exact this
  have ol : w3.ownsRow wS.heap.size 22 1 (.slice al m cl) m us := by
    have := own_on HALL.out.2.2.2.2.1 (fun k e => q3 k (HALL.out.2.2.2.2.1.lt k e).2 (fun e' => by have := (HALL.out.2.2.2.2.1.lt k e).1; have := hne.2.2.2.2.1; omega))
    rw [← HM.out.1] at this
    exact this
  have SZ : Hid (wS.heap.size ≤ w3.heap.size) := by simp only [Hid]; omega
  have LT3 : Hid (w3.drew.ownsRow wS.heap.size 22 1 (.slice al m cl) m us) := ol
  have cq3 : w3.cell? ⟨qB, 0, none⟩ = some (.int .i64 1) := (cell_of_row _ _ 0 _ 3 (0, 0) bq).trans rfl
  have ct3 : w3.cell? ⟨tB, 1, none⟩ = some (.slice al m cl) := (cell_of_row _ _ 1 _ 56 (0, 0) bt).trans rfl
  have GB : Hid (∀ (w9 : World) (k : Nat), (w3.drew.alloc (.cells #[.slice y1 y2 y3] 22)).grownBy w9 (Value.slice al m cl).ownBlock → k < wS.heap.size → w9.heap[k]? = w3.heap[k]?) := fun w9 k hg hk => (hg.block k (by have := SZ.out; simp; omega) (fun e => by have := (ol.lt k e.symm).1; omega)).trans (Below.heap_alloc w3.drew _ k (by have := SZ.out; show k < w3.heap.size; omega))
  have hqS : qB < wS.heap.size := HSF.out.1.1 qB HQZ.out.1
  have SA : Hid ((w3.drew.alloc (.cells #[.slice y1 y2 y3] 22)).cell? ⟨qB, 0, none⟩ = some (.int .i64 1) ∧ (w3.drew.alloc (.cells #[.slice y1 y2 y3] 22)).cell? ⟨tB, 1, none⟩ = some (.slice al m cl)) :=
    ⟨(World.cell?_of_block (Below.heap_alloc w3.drew _ qB (lt_of_block bq))).trans cq3, (World.cell?_of_block (Below.heap_alloc w3.drew _ tB (lt_of_block bt))).trans ct3⟩
  have SB : Hid (∀ w9, (w3.drew.alloc (.cells #[.slice y1 y2 y3] 22)).grownBy w9 (Value.slice al m cl).ownBlock → w9.cell? ⟨qB, 0, none⟩ = some (.int .i64 1) ∧ w9.cell? ⟨tB, 1, none⟩ = some (.slice al m cl)) := fun w9 hg =>
    ⟨(World.cell?_of_block (GB.out w9 qB hg hqS)).trans cq3, (World.cell?_of_block (GB.out w9 tB hg hne.2.2.2.2.2)).trans ct3⟩
  have SF : Hid (∀ w9, (w3.drew.alloc (.cells #[.slice y1 y2 y3] 22)).grownBy w9 (Value.slice al m cl).ownBlock → w9.frozen? ⟨tB, 1, none⟩ = false) := fun w9 hg =>
    frozen_of_row _ _ 1 _ 56 ((GB.out w9 tB hg hne.2.2.2.2.2).trans bt)
  have BB := hide (And.intro bt (And.intro bi (And.intro hp3 (And.intro hK3 (And.intro hM3 hne)))))
  have hm6 : m ≤ 1000000 := by omega
  clear bq bt bi ol hp3 hK3 hM3 q3 hs3 hne hqS HB2 HE2 cs ci cta cbox ct cq hsS
  refine round_late (J := fun j => j != 8) (S := fun V => V.cell? ⟨qB, 0, none⟩ = some (.int .i64 1) ∧ V.cell? ⟨tB, 1, none⟩ = some (.slice al m cl)) (by kernel_rfl) (by kernel_rfl) (fun ⟨_, _, h⟩ => h) ⟨cq3, ct3⟩ (fun hHeld => ?_)
  refine' wpAnyJ_take (i := 0) (oi := { dst := some 388, op := Op.load 3 (Operand.tmp 42), type := 3, pos := "law.go:238", after := #[], guard := none }) (v := _) rfl (by kernel_rfl) (by kernel_rfl) (by kernel_rfl) (by kernel_rfl) (fun _ _ _ h => h) (Or.inl ⟨by rfl, ?hyR1⟩) (by assumption) ?reR1
  case hyR1 => (intro W hSw; (try dsimp only at hSw); go_simp; try with_reducible rfl)
  try simp only [Act.put, List.setIfInBounds_toArray, List.set_cons_zero, List.set_cons_succ]
  refine' wpAnyJ_take (i := 1) (oi := { dst := some 389, op := Op.load 3 (Operand.tmp 42), type := 3, pos := "law.go:238", after := #[], guard := none }) (v := _) rfl (by kernel_rfl) (by kernel_rfl) (by kernel_rfl) (by kernel_rfl) (fun _ _ _ h => h) (Or.inl ⟨by rfl, ?hyR2⟩) (by assumption) ?reR2
  case hyR2 => (intro W hSw; (try dsimp only at hSw); go_simp; try with_reducible rfl)
  try simp only [Act.put, List.setIfInBounds_toArray, List.set_cons_zero, List.set_cons_succ]
  refine' wpAnyJ_takeW (i := 2) (oi := { dst := some 390, op := Op.indexAddr 56 (Operand.tmp 41) (Operand.tmp 389), type := 0, pos := "law.go:238", after := #[{ on := 1, ground := Ground.data }], guard := none }) (v := _) rfl (by kernel_rfl) (by kernel_rfl) (by kernel_rfl) (fun _ _ _ h => h) (Or.inl ⟨by rfl, ?hyR3⟩) ?reR3
  case hyR3 => (intro W hSw; (try dsimp only at hSw); go_simp; try with_reducible rfl)
  try simp only [Act.put, List.setIfInBounds_toArray, List.set_cons_zero, List.set_cons_succ]
  refine' wpAnyJ_take (i := 3) (oi := { dst := some 391, op := Op.load 34 (Operand.tmp 390), type := 34, pos := "law.go:238", after := #[{ on := 2, ground := Ground.data }], guard := none }) (v := _) rfl (by kernel_rfl) (by kernel_rfl) (by kernel_rfl) (by kernel_rfl) (fun _ _ _ h => h) (Or.inl ⟨by rfl, ?hyR4⟩) (by assumption) ?reR4
  case hyR4 => (intro W hSw; (try dsimp only at hSw); go_simp; try with_reducible rfl)
  try simp only [Act.put, List.setIfInBounds_toArray, List.set_cons_zero, List.set_cons_succ]
  refine' wpAnyJ_takeW (i := 4) (oi := { dst := some 392, op := Op.move (Operand.tmp 46), type := 22, pos := "law.go:238", after := #[], guard := none }) (v := _) rfl (by kernel_rfl) (by kernel_rfl) (by kernel_rfl) (fun _ _ _ h => h) (Or.inl ⟨by rfl, ?hyR5⟩) ?reR5
  case hyR5 => (intro W hSw; (try dsimp only at hSw); go_simp; try with_reducible rfl)
  try simp only [Act.put, List.setIfInBounds_toArray, List.set_cons_zero, List.set_cons_succ]
  refine wpAnyJ_ready (rs := [5]) (by kernel_rfl) (by simp) ?_
  refine AllReadyJ.cons (o := { dst := some 393, op := Op.buildSlice 34 1 #[(0, Operand.tmp 392)], type := 34, pos := "law.go:238", after := #[{ on := 4, ground := Ground.data }], guard := none }) rfl (fun K hK => ?_) AllReadyJ.nil
  go_simp
  refine hK.out _ _ (fun _ _ => SA.out) ?_
  clear hK K
  try simp only [Act.put, List.setIfInBounds_toArray, List.set_cons_zero, List.set_cons_succ]
  refine wpAnyJ_ready (rs := [6]) (by kernel_rfl) (by simp) ?_
  refine AllReadyJ.cons (o := { dst := some 394, op := Op.call { callee := Callee.builtin Builtin.append, args := #[Operand.tmp 391, Operand.tmp 393], argTypes := #[34, 34] }, type := 34, pos := "law.go:238", after := #[{ on := 3, ground := Ground.data }, { on := 5, ground := Ground.data }], guard := none }) rfl (fun K hK => ?_) AllReadyJ.nil
  refine step_append_lies _ rfl (.tmp 391) (.tmp 393) 34 rfl wS.heap.size 22 i22 (.slice none 0 0) 1 24 Try.underlying34 hi22 hz0 hz1 hz2 rfl (by decide) (.slice al m cl) m us (by simp [Act.eval]) (LT3.out.alloc _) ⟨w3.heap.size, 0, none⟩ 1 1 [.slice y1 y2 y3] (by simp [Act.eval]) rfl (by intro j u hj; match j, hj with | 0, hj => simp at hj; subst hj; simp [Addr.add]) (by intro u hu; simp at hu; subst hu; rfl) (by omega) (by unfold maxLen; omega) (by omega) ?hbb _ rfl ?_
  case hbb => (have := SZ.out; simp; omega)
  intro g9 c9 w9 ho9 hg9 ha9 _
  have G9 := hide (And.intro ho9 (And.intro hg9 ha9))
  have S9 := hide (SB.out w9 hg9)
  clear ho9 hg9 ha9
  refine hK.out _ _ (fun _ _ => S9.out) ?_
  clear hK K
  obtain ⟨d1, d2⟩ := S9.out
  have fz := SF.out w9 G9.out.2.1
  try simp only [Act.put, List.setIfInBounds_toArray, List.set_cons_zero, List.set_cons_succ]
  refine' wpAnyJ_takeW (i := 7) (oi := { dst := some 395, op := Op.indexAddr 56 (Operand.tmp 41) (Operand.tmp 388), type := 0, pos := "law.go:238", after := #[{ on := 0, ground := Ground.data }, { on := 0, ground := Ground.phase }, { on := 1, ground := Ground.phase }, { on := 2, ground := Ground.phase }, { on := 3, ground := Ground.phase }, { on := 4, ground := Ground.phase }, { on := 5, ground := Ground.phase }, { on := 6, ground := Ground.phase }], guard := none }) (v := _) rfl (by kernel_rfl) (by kernel_rfl) (by kernel_rfl) (fun _ _ _ h => h) (Or.inl ⟨by rfl, ?hyR6⟩) ?reR6
  case hyR6 => (intro W hSw; (try dsimp only at hSw); go_simp; try with_reducible rfl)
  try simp only [Act.put, List.setIfInBounds_toArray, List.set_cons_zero, List.set_cons_succ]
  refine wpAnyJ_ready (rs := [8]) (by kernel_rfl) (by simp) ?_
  refine AllReadyJ.cons (o := { dst := none, op := Op.store 34 (Operand.tmp 395) (Operand.tmp 394), type := 0, pos := "law.go:238", after := #[{ on := 7, ground := Ground.data }, { on := 6, ground := Ground.data }, { on := 6, ground := Ground.chain }, { on := 0, ground := Ground.phase }, { on := 1, ground := Ground.phase }, { on := 2, ground := Ground.phase }, { on := 3, ground := Ground.phase }, { on := 4, ground := Ground.phase }, { on := 5, ground := Ground.phase }, { on := 6, ground := Ground.phase }], guard := none }) rfl (fun K hK => ?_) AllReadyJ.nil
  go_simp
  refine hK.out _ _ (fun h => absurd h (by decide)) ?_
  clear hK K
  try simp only [Act.put, List.setIfInBounds_toArray, List.set_cons_zero, List.set_cons_succ]
  refine wpAnyJ_done (by kernel_rfl) ?_ _
  have hne := BB.out.2.2.2.2.2
  have b9i := (GB.out w9 iB G9.out.2.1 hne.2.2.2.1).trans BB.out.2.1
  have b9t := (GB.out w9 tB G9.out.2.1 hne.2.2.2.2.2).trans BB.out.1
  have b9p := (GB.out w9 pB G9.out.2.1 hne.2.2.2.2.1).trans BB.out.2.2.1
  have x9i : (w9.setCell ⟨tB, 1, none⟩ (.slice (some ⟨g9, 0, none⟩) (m + 1) c9)).heap[iB]? = some (.cells #[.int .i64 (m : Nat)] 3 (0, 0)) := (heap_setCell_other w9 ⟨tB, 1, none⟩ iB _ (by simp; exact hne.2.1)).trans b9i
  have ci9 : (w9.setCell ⟨tB, 1, none⟩ (.slice (some ⟨g9, 0, none⟩) (m + 1) c9)).cell? ⟨iB, 0, none⟩ = some (.int .i64 (m : Nat)) := (cell_of_row _ _ 0 _ 3 (0, 0) x9i).trans rfl
  have fi9 : (w9.setCell ⟨tB, 1, none⟩ (.slice (some ⟨g9, 0, none⟩) (m + 1) c9)).frozen? ⟨iB, 0, none⟩ = false := frozen_of_row _ _ 0 _ 3 x9i
  have X9 := hide (And.intro b9i (And.intro b9t (And.intro b9p x9i)))
  clear b9i b9t b9p x9i hne d1 d2 fz hHeld
  gi_wp2_with fail
  obtain ⟨t1, t2, t3, t4, t5, t6, t7⟩ := HALL.out
  obtain ⟨hsf, hz, hne, sf, hg, hd, hMu, hM, hp, bta⟩ := HSF.out
  obtain ⟨b9i, b9t, b9p, x9i⟩ := X9.out
  obtain ⟨ho9, hg9, ha9⟩ := G9.out
  have hmd := HM.out.1
  have f1 := heap_setCell_same (w9.setCell ⟨tB, 1, none⟩ (.slice (some ⟨g9, 0, none⟩) (m + 1) c9)) iB 0 _ 3 (.int .i64 ((m : Int) + 1)) x9i
  have f2 := heap_setCell_same w9 tB 1 _ 56 (.slice (some ⟨g9, 0, none⟩) (m + 1) c9) b9t
  have hK9 : KeepsOthers w3 w9 := ((KeepsOthers.drew w3).trans (KeepsOthers.alloc _ _)).trans (KeepsOthers.of_grownBy hg9 (fun j o e hj => by
    rcases LT3.out.2 with ⟨e', _⟩ | ⟨g', cap', cur', e', _, hh, _⟩
    · rw [e'] at e; cases e
    · rw [e'] at e
      obtain rfl : g' = j := by simpa [Value.ownBlock] using e
      have := (Below.heap_alloc w3.drew (.cells #[.slice y1 y2 y3] 22) g' (lt_of_block hh)).trans hh
      rw [this] at hj
      obtain rfl := (Option.some.inj hj).symm
      rfl))
  have hm9 : Mv w3 w9 (fun k => (Value.slice al m cl).ownBlock = some k) := ⟨hg9.os, hg9.tape, hg9.output, by have := hg9.size; simp at this; omega, fun k hk hs => (hg9.block k (by simp; omega) (fun e => hs e.symm)).trans (Below.heap_alloc w3.drew _ k hk)⟩
  have hmS : Mv w9 ((w9.setCell ⟨tB, 1, none⟩ (.slice (some ⟨g9, 0, none⟩) (m + 1) c9)).setCell ⟨iB, 0, none⟩ (.int .i64 ((m : Int) + 1))) (Bx iB pB tB) := ⟨rfl, rfl, rfl, by simp [World.setCell], fun k _ hs => (heap_setCell_other _ ⟨iB, 0, none⟩ k _ (fun e => hs (.inl e))).trans (heap_setCell_other _ ⟨tB, 1, none⟩ k _ (fun e => hs (.inr (.inr e))))⟩
  have hmv : Mv W ((w9.setCell ⟨tB, 1, none⟩ (.slice (some ⟨g9, 0, none⟩) (m + 1) c9)).setCell ⟨iB, 0, none⟩ (.int .i64 ((m : Int) + 1))) (fun k => Bx iB pB tB k ∨ (Value.slice al m cl).ownBlock = some k) :=
    (((BB.out.2.2.2.2.1).mono (S' := fun k => Bx iB pB tB k ∨ (Value.slice al m cl).ownBlock = some k) (fun k _ e => .inl (.inr (.inl e)))).trans hm9 (fun k _ e => .inr e)).trans hmS (fun k _ e => .inl e)
  refine ⟨(HKW.out.trans (BB.out.2.2.2.1.trans hK9)).trans ((KeepsOthers.setCell _ _ _).trans (KeepsOthers.setCell _ _ _)), trivial, ?_⟩
  refine Ti.next (lt := .slice al m cl) (lt' := .slice (some ⟨g9, 0, none⟩) (m + 1) c9) (M := M) (v := .slice y1 y2 y3) (us := us) t1 t5 t6 t7 hg hd hp hM hMu ⟨hne.2.2.2.1, hne.2.2.2.2.1, hne.2.2.2.2.2⟩ ?_ ?_ ?_ ?_ hmv
  · rw [← hmd]
    simpa using f1
  · rw [← HLL.out]
    exact (heap_setCell_other _ ⟨iB, 0, none⟩ pB _ (fun e => hne.1 e.symm)).trans ((heap_setCell_other _ ⟨tB, 1, none⟩ pB _ (fun e => hne.2.2.1 e)).trans b9p)
  · refine (heap_setCell_other _ ⟨iB, 0, none⟩ tB _ (fun e => hne.2.1 e.symm)).trans ?_
    simpa using f2
  · rw [← hmd]
    have hng : ∀ B : Nat, B < wS.heap.size → (Value.slice (some ⟨g9, 0, none⟩) (m + 1) c9).ownBlock ≠ some B := fun B hB e => by
      have := (ho9.lt B e).1
      omega
    exact ownsRow_setCell_other (ownsRow_setCell_other ho9 (hng tB hne.2.2.2.2.2) _) (hng iB hne.2.2.2.1) _


end Go.Proofs.Ytkohlhnkaklnpaa
