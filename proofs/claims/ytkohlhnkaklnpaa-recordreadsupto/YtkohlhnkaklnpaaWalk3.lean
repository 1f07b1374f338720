/-
  Loops over what Walk gave: one whose body is told of its own record, and one within its round.
-/
import Derived.Test.YtkohlhnkaklnpaaWalk2
namespace Go.Proofs.Ytkohlhnkaklnpaa
open Go.RowKit Go.Shelf

/-- A loop over what Walk gave, whose body is told of its own record. -/
theorem range_toldH {g : Operand} {ps : Array Tmp} {assign body : Code} {Q : Exit → Act → World → Prop} {a : Act} {w : World} {n : Nat} (bx : Nat) (vo : Value) (b : List UInt8)
    (hg : a.eval g = .func (.func 32) #[] #[.pointer (some ⟨bx, 0, none⟩)]) (hps : ps.size = 2)
    (hnil : NilOr vo) (I : List (List UInt8) → World → Prop) (Ix : Code → List (List UInt8) → World → Prop) (hvo : ∀ ds W', I ds W' → Bs W' vo b ∧ W'.cell? ⟨bx, 0, none⟩ = some vo) (hI : OwnFrom w.heap.size I) (hIx : ∀ c, OwnFrom w.heap.size (Ix c)) (h0 : I [] w) (a₁ : Nat → Value → Act)
    (hassign : ∀ (l k : Nat) (v : Value) (W : World) (K : Act → World → Prop), K (a₁ k v) W →
      assign.wpIn (Fence.wide.inRound l) (n - 1 - 1) Try.prog (Exit.then K (fun _ _ _ => False)) { tmps := (ps.zip #[.int .i64 k, v]).foldl (fun t (p, v) => t.setIfInBounds p v) a.tmps, defers := [] } W)
    (hbody : ∀ (l : Nat) (ds : List (List UInt8)) (k : Nat) (v : Value) (W1 W : World), w.heap.size ≤ l → (∃ o : Obj, W1.heap[l]? = some o ∧ o.isCells = false) → (∃ r, W.heap[l]? = some (.loop r)) → I ds W1 → W1.grownBy W (some l) → Rc.Told b ds k → (Rc.get (b.drop k)).2 ≠ 0 →
      Piece W W1.heap.size v (Rc.get (b.drop k)).1 → body.wpIn (Fence.wide.inRound l) (n - 1 - 1) Try.prog (ownPostK (fun _ _ => True) I Ix (ds ++ [(Rc.get (b.drop k)).1]) W) (a₁ k v) W)
    (hdone : ∀ (D : Nat) (ds : List (List UInt8)) (k : Nat) (W : World), w.heap.size ≤ D → Rc.Told b ds k → (Rc.get (b.drop k)).2 = 0 → I ds W → W.heap[D]? = some (.deferred (some [])) → Q .normal { a with defers := { target := .collected D, args := #[] } :: a.defers } W)
    (hstop : ∀ (D : Nat) (c : Code) (ds : List (List UInt8)) (W : World), w.heap.size ≤ D → Ix c ds W → W.heap[D]? = some (.deferred (some [])) → c.wpIn Fence.wide n Try.prog Q { a with defers := { target := .collected D, args := #[] } :: a.defers } W) :
    (Code.rangeFunc g ps assign body).wpIn Fence.wide n Try.prog Q a w := by
  refine wpIn_rangeFunc ?_
  intro fn _
  obtain ⟨r, hr⟩ : ∃ r : LoopState → Option Code → Loop, r = fun st pe => { state := st, pending := pe, fn, tmps := a.tmps, params := ps, assign, body, defers := w.heap.size } := ⟨_, rfl⟩
  have hbk : Book w r .ready none ((w.alloc (.deferred (some []))).alloc (.loop (r .ready none))) := by
    refine ⟨?_, (Below.heap_alloc _ _ _ (by simp)).trans (World.alloc_heap_new w _)⟩
    have := World.alloc_heap_new (w.alloc (.deferred (some []))) (.loop (r .ready none))
    rwa [World.size_alloc] at this
  have hI0 : I [] ((w.alloc (.deferred (some []))).alloc (.loop (r .ready none))) := hI.alloc _ (hI.alloc _ h0)
  refine ⟨w.heap.size + 1, [{ target := .collected w.heap.size, args := #[] }], (w.alloc (.deferred (some []))).alloc (.loop (r .ready none)),
    { target := .fn (.func 32) #[.pointer (some ⟨bx, 0, none⟩)], args := #[.func (.yield (w.heap.size + 1)) #[] #[]] }, (w.alloc (.deferred (some []))).alloc (.loop (r .ready none)), 32, #[.func (.yield (w.heap.size + 1)) #[] #[], .pointer (some ⟨bx, 0, none⟩)], (w.alloc (.deferred (some []))).alloc (.loop (r .ready none)), ?_, ?_, fun _ _ => trivial, ?_, (fun h => by cases h), ?_⟩
  · rw [hr]
    exact run_enterLoop_outer _ _ _ _ _
  · simp only [resolve, hg]
    simp [go_sem]
  · simp [invoke, go_sem]
  generalize (w.alloc (.deferred (some []))).alloc (.loop (r .ready none)) = W0 at *
  refine (walk1_in (n - 1) (w.heap.size + 1) bx b vo (fun ds W => I ds W ∧ Book w r .ready none W) (fun ds W => ∃ c, Ix c ds W ∧ Book w r .done (some c) W) W0 (fun ds W' h => hvo ds W' h.1) hnil
    (fun ds W W' h hb => ⟨hI ds W W' none h.1 (grown_later hb) (fun r e => by cases e), h.2.later hb⟩) ?_ ⟨hI0, hbk⟩).mono ?_
  · rintro ds k v Wa W ⟨hi, hbook⟩ hlater ht hz hp
    obtain ⟨hl, hd⟩ := hbook.later hlater
    have hll : w.heap.size + 1 < W.heap.size := (Array.getElem?_eq_some_iff.1 hl).1
    have hy := run_yield (P := Try.prog) (args := #[.int .i64 k, v]) hl (by rw [hr, hps]; rfl)
    rw [hr] at hy
    refine ⟨fn, _, assign, body, hy, roundIn_of_wpIn trivial (hassign _ k v W _ ⟨_, run_beginRound hl (by rw [hr]), ?_⟩)⟩
    have hl2 : (W.putObj (w.heap.size + 1) (.loop { r .ready none with state := .busy })).heap[w.heap.size + 1]? = some (.loop { r .ready none with state := .busy }) := World.putObj_heap_same hll
    have hd2 : (W.putObj (w.heap.size + 1) (.loop { r .ready none with state := .busy })).heap[w.heap.size]? = some (.deferred (some [])) := (World.putObj_heap_other (by omega)).trans hd
    refine wpIn_mono (hbody _ ds k v Wa _ (by omega) ⟨_, hbook.1, rfl⟩ ⟨_, hl2⟩ hi (grown_put (grown_later hlater)) ht hz (hp.other hl rfl _)) ?_
    generalize W.putObj (w.heap.size + 1) (.loop { r .ready none with state := .busy }) = W2 at *
    have fin : ∀ (jump : Option Code) (W3 : World), KeepsOthers W2 W3 →
        (Instr.endRound (w.heap.size + 1) jump).run Try.prog W3 = .ok (.bool jump.isNone) (W3.putObj (w.heap.size + 1) (.loop (r (if jump.isNone then .ready else .done) jump))) ∧
        W3.heap[w.heap.size + 1]? = some (.loop { r .ready none with state := .busy }) ∧ Book w r (if jump.isNone then .ready else .done) jump (W3.putObj (w.heap.size + 1) (.loop (r (if jump.isNone then .ready else .done) jump))) := fun jump W3 hk => by
      have hl3 := hk.same _ _ hl2 rfl
      have he := run_endRound (P := Try.prog) jump hl3
      rw [hr] at he ⊢
      rw [hr] at hl3
      exact ⟨he, hl3, World.putObj_heap_same (Array.getElem?_eq_some_iff.1 hl3).1, (World.putObj_heap_other (by omega)).trans (hk.same _ _ hd2 rfl)⟩
    rintro e a3 W3 hpost
    cases e with
    | normal =>
      obtain ⟨hk, _, hi3⟩ := hpost
      obtain ⟨he, hl3, hbk3⟩ := fin none W3 hk
      exact ⟨_, _, he, .inl ⟨rfl, hI.putObj _ hi3 (by omega) hl3 rfl, hbk3⟩⟩
    | ret =>
      obtain ⟨hk, hi3⟩ := hpost
      obtain ⟨he, hl3, hbk3⟩ := fin (some .ret) W3 hk
      exact ⟨_, _, he, .inr ⟨rfl, .ret, (hIx _).putObj _ hi3 (by omega) hl3 rfl, hbk3⟩⟩
    | exit id =>
      obtain ⟨hk, hi3⟩ := hpost
      obtain ⟨he, hl3, hbk3⟩ := fin (some (.exit id)) W3 hk
      exact ⟨_, _, he, .inr ⟨rfl, .exit id, (hIx _).putObj _ hi3 (by omega) hl3 rfl, hbk3⟩⟩
    | goto t =>
      obtain ⟨hk, hi3⟩ := hpost
      obtain ⟨he, hl3, hbk3⟩ := fin (some (.goto t)) W3 hk
      exact ⟨_, _, he, .inr ⟨rfl, .goto t, (hIx _).putObj _ hi3 (by omega) hl3 rfl, hbk3⟩⟩
    | panic ch => exact hpost.elim
    | outgrown => exact hpost.elim
  · rintro e W2 ⟨⟨v, rfl⟩, (⟨ds, k, ht, hz, hi, hl, hd⟩ | ⟨ds, c, hi, hl, hd⟩)⟩
    · refine ⟨none, _, by have := run_endLoop (P := Try.prog) hl (by rw [hr]; simp); rw [hr] at this; exact this, hdone w.heap.size ds k _ (Nat.le_refl _) ht hz (hI.putObj _ hi (by omega) hl rfl) ((World.putObj_heap_other (by omega)).trans hd)⟩
    · refine ⟨some c, _, by have := run_endLoop (P := Try.prog) hl (by rw [hr]; simp); rw [hr] at this; exact this, hstop w.heap.size c ds _ (Nat.le_refl _) ((hIx c).putObj _ hi (by omega) hl rfl) ((World.putObj_heap_other (by omega)).trans hd)⟩
/-- A loop over what Walk gave, within a round of another loop. -/
theorem range_toldN {l₀ : Nat} {r₀ : Loop} {g : Operand} {ps : Array Tmp} {assign body : Code} {Q : Exit → Act → World → Prop} {a : Act} {w : World} {n : Nat} (hl₀ : w.heap[l₀]? = some (.loop r₀)) (bx : Nat) (vo : Value) (b : List UInt8)
    (hg : a.eval g = .func (.func 32) #[] #[.pointer (some ⟨bx, 0, none⟩)]) (hps : ps.size = 2)
    (hnil : NilOr vo) (I : List (List UInt8) → World → Prop) (Ix : Code → List (List UInt8) → World → Prop) (hvo : ∀ ds W', I ds W' → Bs W' vo b ∧ W'.cell? ⟨bx, 0, none⟩ = some vo) (hI : OwnFrom w.heap.size I) (hIx : ∀ c, OwnFrom w.heap.size (Ix c)) (h0 : I [] w) (a₁ : Nat → Value → Act)
    (hassign : ∀ (l k : Nat) (v : Value) (W : World) (K : Act → World → Prop), K (a₁ k v) W →
      assign.wpIn ((Fence.wide.inRound l₀).inRound l) (n - 1 - 1) Try.prog (Exit.then K (fun _ _ _ => False)) { tmps := (ps.zip #[.int .i64 k, v]).foldl (fun t (p, v) => t.setIfInBounds p v) a.tmps, defers := [] } W)
    (hbody : ∀ (l : Nat) (ds : List (List UInt8)) (k : Nat) (v : Value) (W1 W : World), w.heap.size ≤ l → (∃ o : Obj, W1.heap[l]? = some o ∧ o.isCells = false) → I ds W1 → W1.grownBy W (some l) → Rc.Told b ds k → (Rc.get (b.drop k)).2 ≠ 0 →
      Piece W W1.heap.size v (Rc.get (b.drop k)).1 → body.wpIn ((Fence.wide.inRound l₀).inRound l) (n - 1 - 1) Try.prog (ownPostK (fun _ _ => True) I Ix (ds ++ [(Rc.get (b.drop k)).1]) W) (a₁ k v) W)
    (hdone : ∀ (ds : List (List UInt8)) (k : Nat) (W : World), Rc.Told b ds k → (Rc.get (b.drop k)).2 = 0 → I ds W → Q .normal a W)
    (hstop : ∀ (c : Code) (ds : List (List UInt8)) (W : World), Ix c ds W → c.wpIn (Fence.wide.inRound l₀) n Try.prog Q a W) :
    (Code.rangeFunc g ps assign body).wpIn (Fence.wide.inRound l₀) n Try.prog Q a w := by
  refine wpIn_rangeFunc ?_
  intro fn hfn
  obtain ⟨r, hr⟩ : ∃ r : LoopState → Option Code → Loop, r = fun st pe => { state := st, pending := pe, fn, tmps := a.tmps, params := ps, assign, body, defers := r₀.defers } := ⟨_, rfl⟩
  obtain ⟨W0, hW0⟩ : ∃ W0, w.alloc (.loop (r .ready none)) = W0 := ⟨_, rfl⟩
  have hbk : W0.heap[w.heap.size]? = some (.loop (r .ready none)) := by rw [← hW0]; exact World.alloc_heap_new w _
  have hI0 : I [] W0 := by rw [← hW0]; exact hI.alloc _ h0
  refine ⟨w.heap.size, [], W0, { target := .fn (.func 32) #[.pointer (some ⟨bx, 0, none⟩)], args := #[.func (.yield w.heap.size) #[] #[]] }, W0, 32, #[.func (.yield w.heap.size) #[] #[], .pointer (some ⟨bx, 0, none⟩)], W0, ?_, ?_, fun _ _ => trivial, ?_, (fun h => by cases h), ?_⟩
  · rw [← hW0, hr]
    exact run_enterLoop_inner hl₀ _ _ _ _ _
  · simp only [resolve, hg]
    simp [go_sem]
  · simp [invoke, go_sem]
  have key := walk1_in (n - 1) w.heap.size bx b vo (fun ds W => I ds W ∧ W.heap[w.heap.size]? = some (.loop (r .ready none))) (fun ds W => ∃ c, Ix c ds W ∧ W.heap[w.heap.size]? = some (.loop (r .done (some c)))) W0 (fun ds W' h => hvo ds W' h.1) hnil
    (fun ds W W' h hb => ⟨hI ds W W' none h.1 (grown_later hb) (fun r e => by cases e), (hb.block _ (Array.getElem?_eq_some_iff.1 h.2).1).trans h.2⟩) ?_ ⟨hI0, hbk⟩
  · refine CallsIn.mono (F := Fence.wide.inRound l₀) key ?_
    rintro e W2 ⟨⟨v, rfl⟩, (⟨ds, k, ht, hz, hi, hl⟩ | ⟨ds, c, hi, hl⟩)⟩
    · refine ⟨none, _, by have := run_endLoop (P := Try.prog) hl (by rw [hr]; simp); rw [hr] at this; exact this, hdone ds k _ ht hz (hI.putObj _ hi (Nat.le_refl _) hl rfl)⟩
    · refine ⟨some c, _, by have := run_endLoop (P := Try.prog) hl (by rw [hr]; simp); rw [hr] at this; exact this, hstop c ds _ ((hIx c).putObj _ hi (Nat.le_refl _) hl rfl)⟩
  · rintro ds k v Wa W ⟨hi, hbook⟩ hlater ht hz hp
    have hl : W.heap[w.heap.size]? = some (.loop (r .ready none)) := (hlater.block _ (Array.getElem?_eq_some_iff.1 hbook).1).trans hbook
    have hll : w.heap.size < W.heap.size := (Array.getElem?_eq_some_iff.1 hl).1
    have hy := run_yield (P := Try.prog) (args := #[.int .i64 k, v]) hl (by rw [hr, hps]; rfl)
    rw [hr] at hy
    refine ⟨fn, _, assign, body, hy, roundIn_of_wpIn (F := Fence.wide.inRound l₀) hfn (hassign _ k v W _ ⟨_, run_beginRound hl (by rw [hr]), ?_⟩)⟩
    have hl2 : (W.putObj w.heap.size (.loop { r .ready none with state := .busy })).heap[w.heap.size]? = some (.loop { r .ready none with state := .busy }) := World.putObj_heap_same hll
    refine wpIn_mono (hbody _ ds k v Wa _ (Nat.le_refl _) ⟨_, hbook, rfl⟩ hi (grown_put (grown_later hlater)) ht hz (hp.other hl rfl _)) ?_
    generalize W.putObj w.heap.size (.loop { r .ready none with state := .busy }) = W2 at *
    have fin : ∀ (jump : Option Code) (W3 : World), KeepsOthers W2 W3 →
        (Instr.endRound w.heap.size jump).run Try.prog W3 = .ok (.bool jump.isNone) (W3.putObj w.heap.size (.loop (r (if jump.isNone then .ready else .done) jump))) ∧
        W3.heap[w.heap.size]? = some (.loop { r .ready none with state := .busy }) ∧ (W3.putObj w.heap.size (.loop (r (if jump.isNone then .ready else .done) jump))).heap[w.heap.size]? = some (.loop (r (if jump.isNone then .ready else .done) jump)) := fun jump W3 hk => by
      have hl3 := hk.same _ _ hl2 rfl
      have he := run_endRound (P := Try.prog) jump hl3
      rw [hr] at he ⊢
      rw [hr] at hl3
      exact ⟨he, hl3, World.putObj_heap_same (Array.getElem?_eq_some_iff.1 hl3).1⟩
    rintro e a3 W3 hpost
    cases e with
    | normal =>
      obtain ⟨hk, _, hi3⟩ := hpost
      obtain ⟨he, hl3, hbk3⟩ := fin none W3 hk
      exact ⟨_, _, he, .inl ⟨rfl, hI.putObj _ hi3 (Nat.le_refl _) hl3 rfl, hbk3⟩⟩
    | ret =>
      obtain ⟨hk, hi3⟩ := hpost
      obtain ⟨he, hl3, hbk3⟩ := fin (some .ret) W3 hk
      exact ⟨_, _, he, .inr ⟨rfl, .ret, (hIx _).putObj _ hi3 (Nat.le_refl _) hl3 rfl, hbk3⟩⟩
    | exit id =>
      obtain ⟨hk, hi3⟩ := hpost
      obtain ⟨he, hl3, hbk3⟩ := fin (some (.exit id)) W3 hk
      exact ⟨_, _, he, .inr ⟨rfl, .exit id, (hIx _).putObj _ hi3 (Nat.le_refl _) hl3 rfl, hbk3⟩⟩
    | goto t =>
      obtain ⟨hk, hi3⟩ := hpost
      obtain ⟨he, hl3, hbk3⟩ := fin (some (.goto t)) W3 hk
      exact ⟨_, _, he, .inr ⟨rfl, .goto t, (hIx _).putObj _ hi3 (Nat.le_refl _) hl3 rfl, hbk3⟩⟩
    | panic ch => exact hpost.elim
    | outgrown => exact hpost.elim
end Go.Proofs.Ytkohlhnkaklnpaa
