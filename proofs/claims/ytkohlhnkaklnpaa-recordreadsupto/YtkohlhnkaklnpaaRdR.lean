import Derived.Test.YtkohlhnkaklnpaaRdX
import Derived.OrdersIn
import Derived.OwnWalkIn
/-
  A region that draws, in a round of a range over a function: as everywhere. No program in this text.
-/
namespace Go.Proofs.Ytkohlhnkaklnpaa
open Go.RowKit Go.Shelf
section
variable {P : Program} {md : Region.Mode} {ops : Array Oper} {Q : Exit → Act → World → Prop} {F : Fence} {n : Nat}
theorem upon_in (hd : F.depth = none) (hc : ∀ n, @CallsIn F n = @CallsIn Fence.wide n) (hr : ∀ n, @RowsIn F n = @RowsIn Fence.wide n) {o : Oper} {a : Act} {K : Act → World → Prop} {r : Result Next} (h : o.upon P a K Q r) : o.uponIn F n P a K Q r := by
  unfold Oper.upon at h
  unfold Oper.uponIn
  split at h
  · exact h
  · exact h
  · exact h
  · refine ⟨fun h' => (by rw [hd] at h'; cases h'), ?_⟩
    rw [hc]
    exact callsIn_wide.2 h
  · refine ⟨fun h' => (by rw [hd] at h'; cases h'), ?_⟩
    rw [hr]
    intro c cs _
    obtain ⟨v, w', h1, h2⟩ := h c cs
    exact ⟨v, w', h1, stepsIn_wide.2 h2⟩
  · exact h
  · exact h.elim
theorem any_in (hf : ∀ f, F.fn f) (hd : F.depth = none) (hc : ∀ n, @CallsIn F n = @CallsIn Fence.wide n) (hr : ∀ n, @RowsIn F n = @RowsIn Fence.wide n) (hL : ¬ LetsOut Q) (hdf : ∀ (i : Nat) (o : Oper), ops[i]? = some o → ∀ c, o.op ≠ .defer c) :
    ∀ (fuel : Nat) (listed : Array Bool) (a : Act) (w : World), wpAny P md ops Q fuel listed a w → wpAnyIn F n P md ops Q fuel listed a w := by
  intro fuel
  induction fuel with
  | zero => exact fun listed a w h => h
  | succ fuel ih =>
    intro listed a w h
    refine ⟨h.1, fun i hi => ?_⟩
    have hw := h.2 i hi
    unfold wpOp at hw
    unfold wpOpIn
    split at hw
    · rename_i e
      rw [e]
      exact ih _ _ _ hw
    · rename_i o e
      rw [e]
      dsimp only
      split at hw
      · rename_i hwant
        rw [if_pos hwant]
        rcases hw with hw | hw
        · refine ⟨fun f _ => hf f, ?_⟩
          rw [Oper.semAt_plain F _ _ (hdf i o e)]
          exact upon_in hd hc hr (Oper.wp_mono (fun a w h => ih _ _ _ h) hw)
        · exact absurd hw.2 hL
      · rename_i hwant
        rw [if_neg hwant]
        exact ⟨fun f _ => hf f, ih _ _ _ hw⟩
end
theorem no_defer (ops : Array Oper) (h : (ops.all fun o => match o.op with | .defer _ => false | _ => true) = true) : ∀ (i : Nat) (o : Oper), ops[i]? = some o → ∀ c, o.op ≠ .defer c := by
  intro i o hi c e
  rw [Array.all_eq_true_iff_forall_mem] at h
  have := h o (Array.mem_of_getElem? hi)
  rw [e] at this
  cases this
/-- The beginning, in a round. -/
theorem round_region {P : Program} {ops : Array Oper} {Q : Exit → Act → World → Prop} {n l id : Nat} {a : Act} {w : World} {S : World → Prop} (hm : P.follows .mixedOrders = true) (hdf : (ops.all fun o => match o.op with | .defer _ => false | _ => true) = true) (hL : ¬ LetsOut Q) (hS : S w.drew)
    (h : S w.drew → wpAnyH P .any ops Q S ops.size (Array.replicate ops.size false) a w.drew) : (Code.region id ops true).wpIn (Fence.wide.inRound l) n P Q a w :=
  wpIn_region_any hm (any_in (F := Fence.wide.inRound l) (fun _ => trivial) rfl (fun _ => rfl) (fun _ => rfl) hL (no_defer ops hdf) _ _ _ _ (wpAny_of_held _ _ _ _ (h hS)))
namespace Rc
/-- What was told up to a place at which there is one more is a beginning of all. -/
theorem told_prefix : ∀ (ds' : List (List UInt8)) (b : List UInt8) (ds : List (List UInt8)) (K k : Nat), Told b ds K → (get (b.drop K)).2 = 0 → Told b ds' k → (get (b.drop k)).2 ≠ 0 → ∃ r, ds = ds' ++ (get (b.drop k)).1 :: r
  | [], b, ds, K, k, h1, h2, h3, h4 => by
    obtain rfl : k = 0 := h3
    rw [List.drop_zero] at h4 ⊢
    cases ds with
    | nil =>
      obtain rfl : K = 0 := h1
      rw [List.drop_zero] at h2
      exact absurd h2 h4
    | cons d r => exact ⟨r, by rw [h1.2.1]; rfl⟩
  | d :: ds', b, ds, K, k, h1, h2, h3, h4 => by
    obtain ⟨a1, a2, a3, a4⟩ := h3
    cases ds with
    | nil =>
      obtain rfl : K = 0 := h1
      rw [List.drop_zero] at h2
      exact absurd h2 a1
    | cons e r =>
      obtain ⟨b1, b2, b3, b4⟩ := h1
      have e1 : b.drop k = (b.drop (get b).2).drop (k - (get b).2) := by rw [List.drop_drop]; congr 1; omega
      have e2 : b.drop K = (b.drop (get b).2).drop (K - (get b).2) := by rw [List.drop_drop]; congr 1; omega
      rw [e1] at h4 ⊢
      rw [e2] at h2
      obtain ⟨r', hr⟩ := told_prefix ds' (b.drop (get b).2) r _ _ b4 h2 a4 h4
      exact ⟨r', by rw [hr, a2, b2]; rfl⟩
theorem made_len {b : List UInt8} (h : (get b).2 ≠ 0) : (made (get b).1).length = (get b).2 := by
  obtain ⟨h1, h2, h3⟩ := get_whole h
  have := (made_whole h1).2 h2
  rw [h3]
  show (made (data b)).length = 1 + siz b + 4 + num b
  rw [this, List.length_take]
  have := h1.2.2.2
  omega
end Rc
end Go.Proofs.Ytkohlhnkaklnpaa
