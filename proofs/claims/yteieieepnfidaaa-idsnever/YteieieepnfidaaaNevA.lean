/-
  What IdsNever's walk leans on.
-/
import Derived.Test.YteieieepnfidaaaShown
import Derived.Test.YteieieepnfidaaaMath
import Derived.Test.YteieieepnfidaaaEnts
namespace Go.Proofs.Yteieieepnfidaaa
open Go.RowKit
def N2 (u v : Value) : Nat → Prop := fun k => u.ownBlock = some k ∨ v.ownBlock = some k
/-- A pool, and the law's two rows beside it. -/
def Inv (B n t : Nat) (u v : Value) (g : Nat) (gs fr : List Nat) (alive all : List (Nat × Nat)) (W : World) : Prop :=
  Pf B (N2 u v) W g n gs fr ∧ Ew W u alive ∧ Ew W v all ∧ Ap u v ∧ (∀ k, N2 u v k → B ≤ k) ∧ Nv t gs fr alive all
theorem Inv.later {B n t g : Nat} {u v : Value} {gs fr : List Nat} {alive all : List (Nat × Nat)} {W W' : World} (h : Inv B n t u v g gs fr alive all W) (hb : Below W.heap.size W W') : Inv B n t u v g gs fr alive all W' :=
  ⟨h.1.later hb, h.2.1.later hb, h.2.2.1.later hb, h.2.2.2⟩
theorem tdiv2 {x : Int} (h : -9223372036854775808 ≤ x ∧ x ≤ 9223372036854775807) : -9223372036854775808 ≤ x.tdiv 2 ∧ x.tdiv 2 ≤ 9223372036854775807 := by
  by_cases hx : 0 ≤ x
  · rw [Int.tdiv_eq_ediv_of_nonneg hx]
    omega
  · have e : x.tdiv 2 = -((-x).tdiv 2) := by rw [Int.neg_tdiv, Int.neg_neg]
    rw [e, Int.tdiv_eq_ediv_of_nonneg (by omega)]
    omega
/-- The law's two rows stay where only the pool turns. -/
theorem rows_kept {u v : Value} {alive all : List (Nat × Nat)} {W W' : World} {N : Nat → Prop} (h1 : Ew W u alive) (h2 : Ew W v all) (hk : KeptN N W W') (hN : ∀ k, N2 u v k → N k) : Ew W' u alive ∧ Ew W' v all :=
  ⟨h1.same (fun k e => hk k (hN k (.inl e))), h2.same (fun k e => hk k (hN k (.inr e)))⟩
/-- One who lives is given back: the pool. -/
theorem inv_give {B n t g k : Nat} {u v : Value} {gs fr : List Nat} {alive all : List (Nat × Nat)} {W : World} (h : Inv B n t u v g gs fr alive all W) (ht : t ≤ 400) (hk : k < alive.length) :
    Calls Try.prog 12 #[.pointer (some ⟨g, 0, none⟩), ev alive[k]] (W.alloc (.cells #[.int .i64 (alive[k].1 : Int), .int .i64 (alive[k].2 : Int)] 41)) fun e W' => e = .returned (.int .i64 0) ∧ Hid (Pf B (N2 u v) W' g n gs (fr ++ [alive[k].1]) ∧ Ew W' u alive ∧ Ew W' v all ∧ Below B W W' ∧ livesOf gs (fr ++ [alive[k].1]) (alive[k].1 : Int) (alive[k].2 : Int) = false) ∧ W'.cell? ⟨W.heap.size, 0, none⟩ = some (.int .i64 (alive[k].1 : Int)) ∧ W'.cell? ⟨W.heap.size, 1, none⟩ = some (.int .i64 (alive[k].2 : Int)) := by
  obtain ⟨h1, h2, h3, h4, h5, h6⟩ := h
  have hok := h1.ok
  have hl := h6.lives hok (List.getElem_mem hk)
  have hg := (h6.give hok (by omega) k hk).2
  have hba := below_alloc W (.cells #[.int .i64 (alive[k].1 : Int), .int .i64 (alive[k].2 : Int)] 41)
  have hvx := Vx.mk W alive[k]
  generalize hp : alive[k] = p at *
  have hf := h1.fence (N' := fun k => N2 u v k ∨ k = W.heap.size) hba (fun k e => ⟨by
    rcases e with e | e
    · exact .inl e
    · exact .inr (by omega), by
    rcases e with e | e
    · have := h1.fenced k e
      simp
      omega
    · simp
      omega⟩)
  have hc := pf_give hf hl.1 hl.2.2.2.2 hl.2.2.2.1
  rw [if_neg (by omega), if_neg (by omega), hl.2.1] at hc
  refine hc.mono ?_
  rintro e W' ⟨rfl, q1, q2, q3⟩
  have hr := rows_kept (h2.later hba) (h3.later hba) q2 (fun k e => .inl e)
  have hx : Vx W' W.heap.size p := (q2 W.heap.size (.inr rfl)).trans hvx
  exact ⟨rfl, ⟨q1.fence (Below.refl _ _) (fun k e => ⟨.inl (.inl e), q1.fenced k (.inl e)⟩), hr.1, hr.2, (hba.mono h1.base).trans q3, hg⟩, hx.cell⟩
theorem ec_drop : ∀ (l : List (Nat × Nat)) (k : Nat), ec (l.drop k) = (ec l).drop (k * 2)
  | l, 0 => by simp
  | [], k + 1 => by simp [ec]
  | p :: t, k + 1 => by
    rw [show (k + 1) * 2 = k * 2 + 1 + 1 by omega]
    simpa [ec] using ec_drop t k
/-- The first of the law's rows is another one. -/
theorem turn_first {B n g : Nat} {u u' v : Value} {gs fr : List Nat} {all l : List (Nat × Nat)} {W W' : World} (hp : Pf B (N2 u v) W g n gs fr) (hv : Ew W v all) (hap : Ap u v) (hB : ∀ k, N2 u v k → B ≤ k) (hg : W.grownBy W' u.ownBlock) (hu : Ew W' u' l) (ha : u'.ownBlock = u.ownBlock ∨ u'.ownBlock = some W.heap.size) :
    Pf B (N2 u' v) W' g n gs fr ∧ Ew W' u' l ∧ Ew W' v all ∧ Ap u' v ∧ (∀ k, N2 u' v k → B ≤ k) := by
  have hv' : Ew W' v all := hv.same (fun k e => hg.block k (hv.lt k e) (fun e' => hap k e'.symm e))
  have hB0 := hp.base
  refine ⟨hp.write hg (fun k e => .inl e) (fun k e => ?_), hu, hv', fun k e1 e2 => ?_, fun k e => ?_⟩
  · rcases e with e | e
    · refine ⟨?_, hu.lt k e⟩
      rcases ha with h | h
      · exact .inl (.inl (h ▸ e))
      · rw [e] at h
        have := Option.some.inj h
        exact .inr (by omega)
    · exact ⟨.inl (.inr e), hv'.lt k e⟩
  · rcases ha with h | h
    · exact hap k (h ▸ e1) e2
    · rw [e1] at h
      have := Option.some.inj h
      have := hv.lt k e2
      omega
  · rcases e with e | e
    · rcases ha with h | h
      · exact hB k (.inl (h ▸ e))
      · rw [e] at h
        have := Option.some.inj h
        omega
    · exact hB k (.inr e)
theorem n2_swap {B n g : Nat} {u v : Value} {gs fr : List Nat} {W : World} (h : Pf B (N2 u v) W g n gs fr) : Pf B (N2 v u) W g n gs fr :=
  h.fence (Below.refl _ _) (fun k e => by
    have e' : N2 u v k := e.symm
    exact ⟨.inl e', h.fenced k e'⟩)
theorem turn_second {B n g : Nat} {u v v' : Value} {gs fr : List Nat} {alive l : List (Nat × Nat)} {W W' : World} (hp : Pf B (N2 u v) W g n gs fr) (hu : Ew W u alive) (hap : Ap u v) (hB : ∀ k, N2 u v k → B ≤ k) (hg : W.grownBy W' v.ownBlock) (hv : Ew W' v' l) (ha : v'.ownBlock = v.ownBlock ∨ v'.ownBlock = some W.heap.size) :
    Pf B (N2 u v') W' g n gs fr ∧ Ew W' u alive ∧ Ew W' v' l ∧ Ap u v' ∧ (∀ k, N2 u v' k → B ≤ k) := by
  obtain ⟨q1, q2, q3, q4, q5⟩ := turn_first (n2_swap hp) hu hap.symm (fun k e => hB k e.symm) hg hv ha
  exact ⟨n2_swap q1, q3, q2, q4.symm, fun k e => q5 k e.symm⟩
/-- One is taken. -/
theorem inv_take {B n t g : Nat} {u v : Value} {gs fr : List Nat} {alive all : List (Nat × Nat)} {W : World} (h : Inv B n t u v g gs fr alive all W) (ht : t ≤ 400) :
    Calls Try.prog 13 #[.pointer (some ⟨g, 0, none⟩)] W fun e W' => Hid (Below B W W') ∧ ((∃ p, e = .returned (.tuple #[ev p, .int .i64 0]) ∧ alive.length < n ∧ p ∉ all ∧ Hid (∃ gs' fr', Pf B (N2 u v) W' g n gs' fr' ∧ Ew W' u alive ∧ Ew W' v all ∧ Nv (t + 1) gs' fr' (alive ++ [p]) (all ++ [p]))) ∨ (e = .returned (.tuple #[ev (0, 0), .int .i64 40]) ∧ alive.length = n ∧ Hid (∃ gs fr alive all, Inv B n (t + 1) u v g gs fr alive all W'))) := by
  obtain ⟨h1, h2, h3, h4, h5, h6⟩ := h
  have hok := h1.ok
  cases fr with
  | cons i fr =>
    refine (pf_take_free h1).mono ?_
    rintro e W' ⟨rfl, q1, q2, q3⟩
    have hr := rows_kept h2 h3 q2 (fun k e => e)
    have hn := h6.take_free hok (by omega)
    exact ⟨q3, .inl ⟨_, rfl, h6.room_free hok, hn.2, _, _, q1, hr.1, hr.2, hn.1⟩⟩
  | nil =>
    by_cases hlt : gs.length < n
    · refine (pf_take_new h1 hlt).mono ?_
      rintro e W' ⟨rfl, q1, q2, q3⟩
      have hr := rows_kept h2 h3 q2 (fun k e => e)
      have hn := h6.take_new hok hlt (by omega)
      exact ⟨q3, .inl ⟨_, rfl, h6.room_new hlt, hn.2, _, _, q1, hr.1, hr.2, hn.1⟩⟩
    · obtain rfl : n = gs.length := by have := hok.2.2.1; omega
      refine (pf_take_full h1).mono ?_
      rintro e W' ⟨rfl, hb⟩
      exact ⟨hb.mono h1.base, .inr ⟨rfl, h6.full hok (by omega), _, _, _, _, Inv.later ⟨h1, h2, h3, h4, h5, h6.more⟩ hb⟩⟩
/-- What the law asks of all that live. -/
def lastOf (L : List (Nat × Nat)) (k : Nat) : Int := if k = 0 then -1 else ((L.getD (k - 1) (0, 0)).1 : Int)
theorem lx_all {n : Nat} {gs fr : List Nat} (h : Ok n gs fr) (k : Nat) (hk : k < (Lx gs fr).length) :
    isOn gs fr ((Lx gs fr)[k].1 : Int) = true ∧ atOf gs fr ((Lx gs fr)[k].1 : Int) = (Lx gs fr)[k] ∧ livesOf gs fr ((Lx gs fr)[k].1 : Int) ((Lx gs fr)[k].2 : Int) = true ∧ (Lx gs fr)[k].1 < n ∧ lastOf (Lx gs fr) k < ((Lx gs fr)[k].1 : Int) ∧ lastOf (Lx gs fr) (k + 1) = ((Lx gs fr)[k].1 : Int) := by
  obtain ⟨q1, q2, q3⟩ := (mem_lx h _).1 (List.getElem_mem hk)
  have hpw := lx_pair gs fr
  have hon : isOn gs fr ((Lx gs fr)[k].1 : Int) = true := by simp [isOn, q1, q2]
  have hlt := h.2.2.1
  refine ⟨hon, ?_, ?_, by omega, ?_, ?_⟩
  · rw [atOf, hon, if_pos rfl, Int.toNat_natCast]
    exact Prod.ext rfl q3.symm
  · rw [livesOf, hon, Int.toNat_natCast, ← q3]
    simp
  · unfold lastOf
    split
    · omega
    · have := List.pairwise_iff_getElem.1 hpw (k - 1) k (by omega) hk (by omega)
      rw [List.getD_eq_getElem?_getD, List.getElem?_eq_getElem (by omega)]
      simp only [Option.getD_some]
      omega
  · unfold lastOf
    rw [if_neg (by omega), Nat.add_sub_cancel, List.getD_eq_getElem?_getD, List.getElem?_eq_getElem hk]
    rfl
/-- The pool is another one that is made of its state. -/
theorem inv_from {B n t g g' : Nat} {u v : Value} {gs fr : List Nat} {alive all : List (Nat × Nat)} {W W' : World} (h : Inv B n t u v g gs fr alive all W) (hb : Below W.heap.size W W') (hp : Pl W' (fun k => W.heap.size ≤ k) g' n gs fr) : Inv B n t u v g' gs fr alive all W' := by
  obtain ⟨h1, h2, h3, h4⟩ := h
  have hf := h1.fenced
  have hB := h1.base
  have hs := hb.size
  exact ⟨⟨_, hp.tight, fun k e => ⟨by have := e.1; omega, e.2, fun e' => by have := hf k e'; have := e.1; omega⟩, fun k e => by have := hf k e; omega, by omega⟩, h2.later hb, h3.later hb, h4⟩
theorem nv_lives {n t : Nat} {gs fr : List Nat} {alive all : List (Nat × Nat)} (h : Nv t gs fr alive all) (ho : Ok n gs fr) (q : Nat × Nat) : livesOf gs fr (q.1 : Int) (q.2 : Int) = decide (q ∈ alive) := by
  have e : livesOf gs fr (q.1 : Int) (q.2 : Int) = true ↔ q ∈ alive := by
    rw [h.2.2.1 q, mem_lx ho]
    simp only [livesOf, isOn, Bool.and_eq_true, decide_eq_true_eq, Int.toNat_natCast]
    constructor
    · rintro ⟨⟨⟨-, h1⟩, h2⟩, h3⟩
      exact ⟨h1, h2, by omega⟩
    · rintro ⟨h1, h2, h3⟩
      exact ⟨⟨⟨by omega, h1⟩, h2⟩, by omega⟩
  by_cases hm : q ∈ alive
  · rw [e.2 hm]
    simp [hm]
  · have : ¬ livesOf gs fr (q.1 : Int) (q.2 : Int) = true := fun h => hm (e.1 h)
    simp only [Bool.not_eq_true] at this
    rw [this]
    simp [hm]
theorem mem_take_succ {l : List (Nat × Nat)} {i : Nat} (h : i < l.length) (q : Nat × Nat) : decide (q ∈ l.take (i + 1)) = (decide (q ∈ l.take i) || decide (q = l[i])) := by
  rw [List.take_add_one, List.getElem?_eq_getElem h]
  simp only [List.mem_append, Option.toList_some, List.mem_singleton, Bool.decide_or]
/-- The test of a slot, in a piece of code. -/
def condAt (n : Nat) : Code → Option Code
  | .cond (.tmp m) a b => if m = n then some (.cond (.tmp m) a b) else match condAt n a with
    | some c => some c
    | none => condAt n b
  | .cond _ a b => match condAt n a with
    | some c => some c
    | none => condAt n b
  | .seq a b => match condAt n a with
    | some c => some c
    | none => condAt n b
  | .block _ c => condAt n c
  | .loop c => condAt n c
  | .scope c => condAt n c
  | _ => none
def isCond (n : Nat) : Code → Bool
  | .cond (.tmp m) _ _ => m == n
  | .seq _ b => isCond n b
  | _ => false
/-- What stands behind it. -/
def afterCond (n : Nat) : Code → Option Code
  | .seq a b => if isCond n a then some b else match afterCond n a with
    | some c => some c
    | none => afterCond n b
  | .cond _ a b => match afterCond n a with
    | some c => some c
    | none => afterCond n b
  | .block _ c => afterCond n c
  | .loop c => afterCond n c
  | .scope c => afterCond n c
  | _ => none
noncomputable def ifCode : Code := ((Try.f4.body.bind (condAt 67)).getD .skip)
noncomputable def restCode : Code := ((Try.f4.body.bind (afterCond 67)).getD .skip)
end Go.Proofs.Yteieieepnfidaaa
