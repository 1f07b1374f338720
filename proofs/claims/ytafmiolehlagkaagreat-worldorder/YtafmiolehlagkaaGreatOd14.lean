import Derived.Test.YtafmiolehlagkaaGreatOd13
import Derived.Test.YtafmiolehlagkaaGreatOd11
import Derived.Maps.Ext
import Derived.Deep.RegionHeld3
/-
  World: WorldOrder's walk.
-/
namespace Go.Proofs.YtafmiolehlagkaaGreat
open Go.RowKit
set_option maxRecDepth 100000
def ent (p : Nat × Nat) : Int × Int := ((p.1 : Int), (p.2 : Int))
theorem ent_inj {p q : Nat × Nat} (h : ent p = ent q) : p = q := by
  simp only [ent, Prod.mk.injEq] at h
  exact Prod.ext (by omega) (by omega)
def bitS (S : List Int) (j k : Nat) : Bool := (pk (S.getD j 0) 16).testBit k
theorem bit_eq (s k : Nat) (hs : s < 8192) : (bits BinOp.and IntKind.i64 ((s : Int) / 2 ^ k) 1 == 1) = s.testBit k := by
  have h1 : ((s : Int) / 2 ^ k) = ((s / 2 ^ k : Nat) : Int) := by
    rw [Int.natCast_ediv]
    congr 1
  have hlt : s / 2 ^ k < 9223372036854775808 := Nat.lt_of_le_of_lt (Nat.div_le_self _ _) (by omega)
  have h2 := i64_and_nat (s / 2 ^ k) 1 hlt (by omega)
  rw [h1]
  rw [show ((1 : Nat) : Int) = 1 from rfl] at h2
  rw [h2, Nat.testBit, Nat.shiftRight_eq_div_pow, Nat.and_comm]
  rcases Nat.mod_two_eq_zero_or_one (s / 2 ^ k) with h | h
  · simp [Nat.one_and_eq_mod_two, h]
  · simp [Nat.one_and_eq_mod_two, h]
/-- Behind i spawns. -/
def P1 (S : List Int) (i : Nat) (gs : List Nat) (A : List (Nat × Nat)) (Ca Cb : Co) : Prop :=
  gs.length = i ∧ A.length = i ∧ A.Nodup ∧ (∀ x, (Ca x).isSome = true ↔ ∃ p ∈ A, x = ent p) ∧ (∀ x, (Cb x).isSome = true ↔ ∃ p ∈ A, x = ent p) ∧ ∀ j (hj : j < A.length), Gv (Ca (ent A[j])) (bitS S j) (j : Int)
theorem P1.start (S : List Int) : P1 S 0 [] [] (fun _ => none) (fun _ => none) :=
  ⟨rfl, rfl, List.nodup_nil, fun x => ⟨fun h => (by cases h), fun ⟨p, hp, _⟩ => (by cases hp)⟩, fun x => ⟨fun h => (by cases h), fun ⟨p, hp, _⟩ => (by cases hp)⟩, fun j hj => absurd hj (by simp)⟩
theorem dom_push {A : List (Nat × Nat)} {C : Co} {p : Nat × Nat} {o : Nat × List Int} (h : ∀ x, (C x).isSome = true ↔ ∃ q ∈ A, x = ent q) (x : Int × Int) : ((if x = ent p then some o else C x) : Option (Nat × List Int)).isSome = true ↔ ∃ q ∈ A ++ [p], x = ent q := by
  by_cases c : x = ent p
  · rw [if_pos c]
    exact ⟨fun _ => ⟨p, List.mem_append_right _ List.mem_cons_self, c⟩, fun _ => rfl⟩
  · rw [if_neg c, h]
    constructor
    · rintro ⟨q, hq, e⟩
      exact ⟨q, List.mem_append_left _ hq, e⟩
    · rintro ⟨q, hq, e⟩
      rcases List.mem_append.1 hq with hq | hq
      · exact ⟨q, hq, e⟩
      · rw [List.mem_singleton.1 hq] at e
        exact absurd e c
theorem P1.step {S : List Int} {i : Nat} {gs : List Nat} {A : List (Nat × Nat)} {Ca Cb : Co} (h : P1 S i gs A Ca Cb) (hlv : Lv gs [] Ca) (hok : Ok 200 gs []) {o o' : Nat × List Int} (hg : Gv (some o) (bitS S i) (i : Int)) :
    P1 S (i + 1) (takeG gs []) (A ++ [takeE gs []]) (fun x => if x = ent (takeE gs []) then some o else Ca x) (fun x => if x = ent (takeE gs []) then some o' else Cb x) := by
  obtain ⟨h1, h2, h3, h4, h5, h6⟩ := h
  have hn : takeE gs [] ∉ A := fun hm => by
    have := take_not hok
    rw [hlv] at this
    have h9 := (h4 (ent (takeE gs []))).2 ⟨_, hm, rfl⟩
    unfold ent at h9
    rw [this] at h9
    cases h9
  refine ⟨by simp [takeG, h1], by simp [h2], ?_, dom_push h4, dom_push h5, fun j hj => ?_⟩
  · rw [List.nodup_append]
    refine ⟨h3, by simp, fun x hx y hy e => ?_⟩
    rw [List.mem_singleton.1 hy] at e
    exact hn (e ▸ hx)
  · by_cases c : j < A.length
    · rw [List.getElem_append_left c]
      dsimp only
      rw [if_neg]
      · exact h6 j c
      · intro e
        exact hn (ent_inj e ▸ List.getElem_mem c)
    · have : j = A.length := by simp at hj; omega
      subst this
      rw [List.getElem_append_right (Nat.le_refl _)]
      simp only [Nat.sub_self, List.getElem_cons_zero, if_true]
      rw [h2]
      exact hg
def St1 (w : World) (ga gb : Nat) (S : List Int) (W : World) (i : Nat) (v : Value) : Prop :=
  ∃ oa ob gs A Ca Cb, So w ga gb W oa ob v A (6 * i) gs [] gs [] Ca Cb ∧ P1 S i gs A Ca Cb
theorem St1.below {w W : World} {ga gb i : Nat} {S : List Int} {v : Value} (h : St1 w ga gb S W i v) : Below w.heap.size w W := by
  obtain ⟨oa, ob, gs, A, Ca, Cb, h, -⟩ := h
  exact h.2.2.2.2.2.1.1
theorem St1.cap {w W : World} {ga gb i n c : Nat} {S : List Int} {a : Option Addr} (h : St1 w ga gb S W i (.slice a n c)) : n = i ∧ i ≤ c ∧ c ≤ 9223372036854775807 := by
  obtain ⟨oa, ob, gs, A, Ca, Cb, h, hp⟩ := h
  obtain ⟨x, z, e⟩ := own_len h.2.2.2.1
  simp only [Value.slice.injEq] at e
  obtain ⟨rfl, rfl, rfl⟩ := e
  have := own_cap h.2.2.2.1
  have := hp.2.1
  refine ⟨by omega, ?_, ?_⟩ <;> omega
end Go.Proofs.YtafmiolehlagkaaGreat

/-
  World: WorldOrder: kinds come and go between.
-/
namespace Go.Proofs.YtafmiolehlagkaaGreat
open Go.RowKit
set_option maxRecDepth 100000
/-- Behind t deeds: i were spawned; m are in the list. -/
def St2 (w : World) (ga gb : Nat) (S : List Int) (W : World) (i m : Nat) (v : Value) (t : Nat) : Prop :=
  ∃ oa ob gs gs' fr' A Ca Cb, So w ga gb W oa ob v A (240 + 4 * t) gs [] gs' fr' Ca Cb ∧ A.length = m ∧ m ≤ 40 ∧ (∀ p ∈ A, (Cb (ent p)).isSome = true) ∧ (0 < i → m = i ∧ gs' = gs ∧ fr' = [] ∧ P1 S i gs A Ca Cb) ∧ (i = 0 → gs = [] ∧ (Ca = fun _ => none) ∧ (m = 0 → v = .slice none 0 0 ∧ gs' = []))
theorem So.up {w W : World} {ga gb M M' : Nat} {oa ob : Nat → Nat} {v : Value} {A : List (Nat × Nat)} {gs fr gs' fr' : List Nat} {Ca Cb : Co} (h : So w ga gb W oa ob v A M gs fr gs' fr' Ca Cb) (hM : M ≤ M') : So w ga gb W oa ob v A M' gs fr gs' fr' Ca Cb := ⟨h.1.up hM, h.2.1.up hM, h.2.2⟩
section
variable {w W W' : World} {ga gb i m t : Nat} {S : List Int} {v : Value}
theorem St2.below (h : St2 w ga gb S W i m v t) : Below w.heap.size w W := by
  obtain ⟨oa, ob, gs, gs', fr', A, Ca, Cb, h, -⟩ := h
  exact h.2.2.2.2.2.1.1
theorem St2.later (h : St2 w ga gb S W i m v t) (hb : Below W.heap.size W W') : St2 w ga gb S W' i m v t := by
  obtain ⟨oa, ob, gs, gs', fr', A, Ca, Cb, h1, h2⟩ := h
  exact ⟨_, _, gs, gs', fr', A, Ca, Cb, h1.later hb, h2⟩
theorem St2.cap {a : Option Addr} {n c : Nat} (h : St2 w ga gb S W i m (.slice a n c) t) : n = m ∧ m ≤ 40 ∧ m ≤ c ∧ c ≤ 9223372036854775807 := by
  obtain ⟨oa, ob, gs, gs', fr', A, Ca, Cb, h1, h2, h3, -⟩ := h
  obtain ⟨x, z, e⟩ := own_len h1.2.2.2.1
  simp only [Value.slice.injEq] at e
  obtain ⟨rfl, rfl, rfl⟩ := e
  have := own_cap h1.2.2.2.1
  refine ⟨by omega, h3, ?_, ?_⟩ <;> omega
theorem St2.start {c : Nat} {a : Option Addr} (h : St1 w ga gb S W i (.slice a i c)) (hi : i ≤ 40) (h0 : i = 0 → a = none ∧ c = 0) : St2 w ga gb S W i i (.slice a i c) 0 := by
  obtain ⟨oa, ob, gs, A, Ca, Cb, h1, h2⟩ := h
  refine ⟨oa, ob, gs, gs, [], A, Ca, Cb, h1.up (by omega), h2.2.1, hi, fun p hp => (h2.2.2.2.2.1 _).2 ⟨p, hp, rfl⟩, fun _ => ⟨rfl, rfl, rfl, h2⟩, fun e => ?_⟩
  subst e
  obtain ⟨rfl, rfl⟩ := h0 rfl
  have hA : A = [] := List.eq_nil_of_length_eq_zero h2.2.1
  refine ⟨List.eq_nil_of_length_eq_zero h2.1, funext fun x => ?_, fun _ => ⟨rfl, List.eq_nil_of_length_eq_zero h2.1⟩⟩
  cases hx : Ca x with
  | none => rfl
  | some p =>
    obtain ⟨q, hq, -⟩ := (h2.2.2.2.1 x).1 (by rw [hx]; rfl)
    rw [hA] at hq
    cases hq
theorem p1_dom {S : List Int} {i : Nat} {gs : List Nat} {A : List (Nat × Nat)} {Ca Cb C' : Co} (h : P1 S i gs A Ca Cb) (hd : ∀ x, (C' x).isSome = (Cb x).isSome) : P1 S i gs A Ca C' :=
  ⟨h.1, h.2.1, h.2.2.1, h.2.2.2.1, fun x => by rw [hd x]; exact h.2.2.2.2.1 x, h.2.2.2.2.2⟩
theorem St2.deed (h : St2 w ga gb S W i m v t) (ht : t ≤ 200) (kk : Nat) (hk : kk < 3) (who what y : Int) (h3 : Bd who) (h5 : Bd what) :
    Calls Tryz.prog 21 #[.pointer (some ⟨gb, 0, none⟩), v, .agg #[.int .i64 (2 + (kk : Int)), .int .i64 who, .int .i64 what, .int .i64 y]] W fun e w' => ∃ m' v' z, e = .returned (.tuple #[v', .int .i64 z]) ∧ St2 w ga gb S w' i m' v' (t + 1) := by
  obtain ⟨oa, ob, gs, gs', fr', A, Ca, Cb, h1, h2, hm, hal, hi1, hi0⟩ := h
  by_cases c : 0 < A.length
  · have key : ∀ (w' : World) (z : Int), Deeded W ob gb (240 + 4 * t) gs' fr' Cb w' → ∃ m' v' z', (Ending.returned (.tuple #[v, .int .i64 z]) : Ending) = .returned (.tuple #[v', .int .i64 z']) ∧ St2 w ga gb S w' i m' v' (t + 1) := by
      rintro w' z ⟨own', C', r1, r2, r3⟩
      refine ⟨m, v, z, rfl, _, own', gs, gs', fr', A, Ca, C', h1.turnB r2 (r1.up (by omega)) (by omega), h2, hm, fun p hp => by rw [r3]; exact hal p hp, fun h0 => ?_, fun h0 => ?_⟩
      · obtain ⟨q1, q2, q3, q4⟩ := hi1 h0
        exact ⟨q1, q2, q3, p1_dom q4 r3⟩
      · obtain ⟨q1, q2, -⟩ := hi0 h0
        exact ⟨q1, q2, fun e => by omega⟩
    have hA0 : ∀ k, v.ownBlock = some k → ob k = 0 := fun k e => (h1.2.2.2.2.1 k e).2
    obtain rfl | rfl | rfl : kk = 0 ∨ kk = 1 ∨ kk = 2 := by omega
    · refine (does2 h1.2.1 (by omega) A _ v h1.2.2.2.1 (by omega) c hA0 hal who what y h3.1 h3.2 h5.1 h5.2).mono ?_
      rintro e w' ⟨z, rfl, hd⟩
      exact key w' z hd
    · refine (does3 h1.2.1 (by omega) A _ v h1.2.2.2.1 (by omega) c hA0 hal who what y h3.1 h3.2 h5.1 h5.2).mono ?_
      rintro e w' ⟨z, rfl, hd⟩
      exact key w' z hd
    · refine (does4 h1.2.1 (by omega) A _ v h1.2.2.2.1 (by omega) c hA0 hal who what y h3.1 h3.2 h5.1 h5.2).mono ?_
      rintro e w' ⟨z, rfl, hd⟩
      exact key w' z hd
  · have hm0 : m = 0 := by omega
    have hii : i = 0 := by
      by_cases c2 : 0 < i
      · have := (hi1 c2).1
        omega
      · omega
    obtain ⟨q1, q2, q3⟩ := hi0 hii
    obtain ⟨rfl, rfl⟩ := q3 hm0
    have hx : pk (2 + (kk : Int)) 5 ≠ 0 := by
      obtain rfl | rfl | rfl : kk = 0 ∨ kk = 1 ∨ kk = 2 := by omega
      · decide
      · decide
      · decide
    refine (does_first h1.2.1 (by omega) (.inr (by simp)) (2 + (kk : Int)) who what y (by omega) (by omega) h5.1 h5.2 hx).mono ?_
    rintro e w' ⟨v', rfl, p, own', gs1, fr1, C', r1, r2, r3, r4, r5⟩
    have hT := h1.turnB r2 (M' := 240 + 4 * (t + 1)) (r1.up (by omega)) (by omega)
    obtain ⟨a1, a2, a3, a4, a5, a6, a7⟩ := hT
    refine ⟨1, v', 0, rfl, _, own', gs, gs1, fr1, [p], Ca, C', ⟨a1, a2, a3, own_lower r3 h1.2.2.2.2.2.1.1.size, fun k e => ⟨rel_new (r3.lt k e).1, r4 k e⟩, a6, a7⟩, rfl, by omega, fun q hq => ?_, fun h0 => by omega, fun _ => ⟨q1, q2, fun e => by omega⟩⟩
    rw [List.mem_singleton.1 hq]
    exact r5
end
end Go.Proofs.YtafmiolehlagkaaGreat

/-
  World: WorldOrder: all of it is taken away, and given anew.
-/
namespace Go.Proofs.YtafmiolehlagkaaGreat
open Go.RowKit
set_option maxRecDepth 100000
theorem lin4 {k k' L i j : Nat} (hk : k < 4) (hk' : k' < 4) (hi : i < L) (hj : j < L) (h : k' * L + j < k * L + i + 1) : k' * L + j < k * L + i ∨ (k' = k ∧ j = i) := by
  obtain rfl | rfl | rfl | rfl : k = 0 ∨ k = 1 ∨ k = 2 ∨ k = 3 := by omega
  all_goals
    obtain rfl | rfl | rfl | rfl : k' = 0 ∨ k' = 1 ∨ k' = 2 ∨ k' = 3 := by omega
    all_goals omega
/-- Which kinds were given anew, of the j-th. -/
def dn (L r j n k : Nat) : Bool := (decide (4 * L + j < n) && decide (r % 4 = k)) || (decide (5 * L + j < n) && decide ((1 + r) % 4 = k)) || (decide (6 * L + j < n) && decide ((2 + r) % 4 = k)) || (decide (7 * L + j < n) && decide ((3 + r) % 4 = k))
theorem dn_step {L r j i m k : Nat} (hm : m < 4) (hi : i < L) (hj : j < L) : dn L r j ((4 + m) * L + i + 1) k = (dn L r j ((4 + m) * L + i) k || (decide (j = i) && decide ((m + r) % 4 = k))) := by
  rw [Bool.eq_iff_iff]
  obtain rfl | rfl | rfl | rfl : m = 0 ∨ m = 1 ∨ m = 2 ∨ m = 3 := by omega
  all_goals
    simp only [dn, Bool.or_eq_true, Bool.and_eq_true, decide_eq_true_eq, Nat.zero_add, Nat.reduceAdd]
    omega
theorem dn_not {L r i m : Nat} (hm : m < 4) (_hi : i < L) : dn L r i ((4 + m) * L + i) ((m + r) % 4) = false := by
  rw [← Bool.not_eq_true]
  obtain rfl | rfl | rfl | rfl : m = 0 ∨ m = 1 ∨ m = 2 ∨ m = 3 := by omega
  all_goals
    simp only [dn, Bool.or_eq_true, Bool.and_eq_true, decide_eq_true_eq, Nat.zero_add, Nat.reduceAdd]
    omega
theorem dn_zero {L r j k : Nat} : dn L r j (4 * L) k = false := by
  rw [← Bool.not_eq_true]
  simp only [dn, Bool.or_eq_true, Bool.and_eq_true, decide_eq_true_eq]
  omega
theorem dn_all {L r j k : Nat} (hj : j < L) (hk : k < 4) : dn L r j (8 * L) k = true := by
  simp only [dn, Bool.or_eq_true, Bool.and_eq_true, decide_eq_true_eq]
  omega
/-- Behind n rounds, of those that are L. -/
def InvA (L n : Nat) (A : List (Nat × Nat)) (Cb : Co) : Prop := n ≤ 4 * L ∧ ∀ j (_ : j < A.length) k, k < 4 → k * L + j < n → ∀ s vals, Cb (ent A[j]) = some (s, vals) → s.testBit (k + 1) = false
def InvB (S : List Int) (ρ : Nat → Nat) (L n : Nat) (A : List (Nat × Nat)) (Cb : Co) : Prop := 4 * L ≤ n ∧ ∀ j (_ : j < A.length), Gv (Cb (ent A[j])) (fun k => bitS S j k && dn L (ρ j) j n k) (j : Int)
def St3 (w : World) (ga gb : Nat) (S : List Int) (ρ : Nat → Nat) (W : World) (L : Nat) (v : Value) (n : Nat) : Prop :=
  ∃ oa ob gs A Ca Cb, So w ga gb W oa ob v A (1040 + 4 * n) gs [] gs [] Ca Cb ∧ P1 S L gs A Ca Cb ∧ (InvA L n A Cb ∨ InvB S ρ L n A Cb)
section
variable {w W W' : World} {ga gb L n t : Nat} {S : List Int} {ρ : Nat → Nat} {v : Value}
theorem St3.below (h : St3 w ga gb S ρ W L v n) : Below w.heap.size w W := by
  obtain ⟨oa, ob, gs, A, Ca, Cb, h, -⟩ := h
  exact h.2.2.2.2.2.1.1
theorem St3.later (h : St3 w ga gb S ρ W L v n) (hb : Below W.heap.size W W') : St3 w ga gb S ρ W' L v n := by
  obtain ⟨oa, ob, gs, A, Ca, Cb, h1, h2⟩ := h
  exact ⟨_, _, gs, A, Ca, Cb, h1.later hb, h2⟩
theorem St3.start (h : St2 w ga gb S W L L v t) (ht : t ≤ 200) (hL : 0 < L) : St3 w ga gb S ρ W L v 0 := by
  obtain ⟨oa, ob, gs, gs', fr', A, Ca, Cb, h1, h2, h3, h4, h5, h6⟩ := h
  obtain ⟨-, rfl, rfl, h9⟩ := h5 hL
  exact ⟨oa, ob, gs', A, Ca, Cb, h1.up (by omega), h9, .inl ⟨by omega, fun j _ k _ hx => absurd hx (by omega)⟩⟩
theorem Wn.remove_bit {own : Nat → Nat} {gw N : Nat} {gs fr : List Nat} {C : Co} (h : Wn w own gw N usualK gs fr C) (hN : N ≤ 800000) (a b : Int) (s : Nat) (old : List Int) (hc : C (a, b) = some (s, old)) (kk : Nat) (hk : kk < 4) :
    Calls Tryz.prog 26 #[.pointer (some ⟨gw, 0, none⟩), .agg #[.int .i64 a, .int .i64 b], .int .i64 ((kk : Int) + 1)] w fun e w' => (∃ z, e = .returned (.int .i64 z)) ∧ ∃ own' p, Wn w' own' gw (N + 4) usualK gs fr (fun y => if y = (a, b) then some p else C y) ∧ Wk own own' w w' ∧ ∀ j, p.1.testBit j = (s.testBit j && !(decide (j = kk + 1))) := by
  have e1 : ((kk + 1 : Nat) : Int) = (kk : Int) + 1 := by omega
  by_cases hbit : s.testBit (kk + 1) = true
  · have := h.remove hN a b (kk + 1) s old hc (by omega) (by show kk + 1 ≤ 4; omega) hbit
    rw [e1] at this
    refine this.mono ?_
    rintro e w' ⟨rfl, vals', own', r1, r2, -⟩
    refine ⟨⟨0, rfl⟩, own', _, r1, r2, fun j => ?_⟩
    rw [Nat.testBit_xor, Nat.testBit_two_pow]
    by_cases c : j = kk + 1
    · subst c
      simp [hbit]
    · have c' : ¬ kk + 1 = j := fun e => c e.symm
      simp [c, c']
  · obtain ⟨hib, hl⟩ := h.inb hc
    have h0 := h
    obtain ⟨vk, gp, gm, gt, q, T, h1, h2, h3, h4, h5, h6⟩ := h
    refine (remove_err h1 a b ((kk : Int) + 1) hib h4.2.1 s (h2.1 _ s (fC_some hc)).1 (fun _ => fC_some hc) 62 ?_ (by omega)).mono ?_
    · unfold hasE
      rw [if_pos hl, if_pos (⟨by omega, by show (kk : Int) + 1 ≤ 4; omega⟩), if_neg]
      rw [← e1, Int.toNat_natCast]
      exact hbit
    · rintro e w' ⟨rfl, hb⟩
      refine ⟨⟨_, rfl⟩, rel own w 0, (s, old), ?_, Wk.later hb, fun j => ?_⟩
      · have e9 : (fun y => if y = (a, b) then some (s, old) else C y) = C := by
          funext y
          by_cases c : y = (a, b)
          · rw [if_pos c, c, hc]
          · rw [if_neg c]
        rw [e9]
        exact (h0.later hb).up (by omega)
      · by_cases c : j = kk + 1
        · subst c
          simpa using hbit
        · simp [c]
/-- All is taken away. -/
theorem inv_switch {own : Nat → Nat} {gw N : Nat} {gs fr : List Nat} {A : List (Nat × Nat)} {Ca Cb : Co} (hw : Wn w own gw N usualK gs fr Cb) (hp : P1 S L gs A Ca Cb) (hn : 4 * L ≤ n) (h : InvA L n A Cb ∨ InvB S ρ L n A Cb) : InvB S ρ L n A Cb := by
  rcases h with ⟨h1, h2⟩ | h
  · refine ⟨hn, fun j hj => ?_⟩
    have hal : (Cb (ent A[j])).isSome = true := (hp.2.2.2.2.1 _).2 ⟨_, List.getElem_mem hj, rfl⟩
    obtain ⟨⟨s, vals⟩, hc⟩ := Option.isSome_iff_exists.1 hal
    obtain ⟨b1, b2⟩ := hw.sb hc
    have hlen := hp.2.1
    rw [hc]
    refine (Gv.none b1 b2 (fun k hk => h2 j hj k hk ?_ s vals hc)).congr (fun k _ => ?_)
    · obtain rfl | rfl | rfl | rfl : k = 0 ∨ k = 1 ∨ k = 2 ∨ k = 3 := by omega
      all_goals omega
    · have : n = 4 * L := by omega
      rw [this, dn_zero, Bool.and_false]
  · exact h
/-- What is in the list. -/
theorem St3.at {a : Option Addr} {c : Nat} (h : St3 w ga gb S ρ W L (.slice a L c) n) (hL4 : L ≤ 40) (hn8 : n < 8 * L) (i : Nat) (hi : i < L) : ∃ g pa pb, a = some ⟨g, 0, none⟩ ∧ W.cell? ⟨g, i * 2, none⟩ = some (.int .i64 ((pa : Nat) : Int)) ∧ W.cell? ⟨g, i * 2 + 1, none⟩ = some (.int .i64 ((pb : Nat) : Int)) ∧
    (n < 4 * L → ∀ k, k < 4 → n = k * L + i → Calls Tryz.prog 26 #[.pointer (some ⟨gb, 0, none⟩), .agg #[.int .i64 (pa : Int), .int .i64 (pb : Int)], .int .i64 ((k : Int) + 1)] W fun e w' => (∃ z, e = .returned (.int .i64 z)) ∧ St3 w ga gb S ρ w' L (.slice a L c) (n + 1)) ∧
    (∀ m, m < 4 → n = (4 + m) * L + i → bitS S i ((m + ρ i) % 4) = false → St3 w ga gb S ρ W L (.slice a L c) (n + 1)) ∧
    (∀ m, m < 4 → n = (4 + m) * L + i → bitS S i ((m + ρ i) % 4) = true → ∀ (W0 W1 : World) (av : Option Addr) (nv cv : Nat), Below W.heap.size W W0 → Below W0.heap.size W0 W1 → W1.ownsRow W0.heap.size 2 1 (.slice av nv cv) (c4 ((m + ρ i) % 4)) (zc (valsN (i : Int) (c4 ((m + ρ i) % 4)))) → Calls Tryz.prog 27 #[.pointer (some ⟨gb, 0, none⟩), .agg #[.int .i64 (pa : Int), .int .i64 (pb : Int)], .agg #[.int .i64 ((((m + ρ i) % 4 : Nat) : Int) + 1), .slice av nv cv]] W1 fun e w' => e = .returned (.int .i64 0) ∧ St3 w ga gb S ρ w' L (.slice a L c) (n + 1) ∧ w'.cell? ⟨g, i * 2, none⟩ = some (.int .i64 ((pa : Nat) : Int)) ∧ w'.cell? ⟨g, i * 2 + 1, none⟩ = some (.int .i64 ((pb : Nat) : Int))) := by
  obtain ⟨oa, ob, gs, A, Ca, Cb, h1, h2, h3⟩ := h
  have hlen := h2.2.1
  have hown := h1.2.2.2.1
  rw [hlen] at hown
  obtain ⟨g, c', e, -, -⟩ := own_form hown (by omega)
  simp only [Value.slice.injEq] at e
  obtain ⟨rfl, -, rfl⟩ := e
  obtain ⟨y1, y2⟩ := i_own_ent hown i (by omega)
  have hi' : i < A.length := by omega
  have hal : (Cb (ent A[i])).isSome = true := (h2.2.2.2.2.1 _).2 ⟨_, List.getElem_mem hi', rfl⟩
  obtain ⟨⟨s, old⟩, hc⟩ := Option.isSome_iff_exists.1 hal
  have hne : ∀ j (hj : j < A.length), j ≠ i → ent A[j] ≠ ent A[i] := fun j hj hji e => hji ((List.getElem_inj h2.2.2.1).1 (ent_inj e))
  refine ⟨g, _, _, rfl, y1, y2, fun hn k hk hnk => ?_, fun m hm hnm hb => ?_, fun m hm hnm hb W0 W1 av nv cv hW0 hW1 ho => ?_⟩
  · refine (h1.2.1.remove_bit (by omega) _ _ s old hc k hk).mono ?_
    rintro e w' ⟨hz, own', p, r1, r2, r3⟩
    refine ⟨hz, _, own', gs, A, Ca, _, h1.turnB r2 (r1.up (by omega)) (by omega), p1_dom h2 (dom_same hc), .inl ⟨by omega, fun j hj k' hk' hlt s' vals' hc' => ?_⟩⟩
    have hA : InvA L n A Cb := by
      rcases h3 with h3 | h3
      · exact h3
      · have := h3.1
        omega
    dsimp only at hc'
    by_cases cj : j = i
    · subst cj
      rw [show ent A[j] = ((A[j].1 : Int), (A[j].2 : Int)) from rfl, if_pos rfl] at hc'
      obtain rfl := Option.some.inj hc'
      rw [r3]
      rcases lin4 hk hk' hi (show j < L by omega) (by omega) with c | ⟨c, -⟩
      · rw [hA.2 j hj k' hk' (by omega) s old hc, Bool.false_and]
      · subst c
        simp
    · rw [if_neg (show ¬ ent A[j] = ((A[i].1 : Int), (A[i].2 : Int)) from hne j hj cj)] at hc'
      rcases lin4 hk hk' hi (show j < L by omega) (by omega) with c | ⟨-, c⟩
      · exact hA.2 j hj k' hk' (by omega) s' vals' hc'
      · exact absurd c cj
  · have hB := inv_switch (ρ := ρ) h1.2.1 h2 (by rw [hnm, Nat.add_mul]; omega) h3
    refine ⟨oa, ob, gs, A, Ca, Cb, h1.up (by omega), h2, .inr ⟨by have := hB.1; omega, fun j hj => (hB.2 j hj).congr (fun k hk => ?_)⟩⟩
    rw [hnm, dn_step hm hi (by omega)]
    by_cases cj : j = i
    · subst cj
      by_cases ck : (m + ρ j) % 4 = k
      · rw [← ck, hb, Bool.false_and, Bool.false_and]
      · simp [ck]
    · simp [cj]
  · have hWW := below_on hW0 hW1
    have hS1 := h1.later hWW
    have hB := inv_switch (ρ := ρ) h1.2.1 h2 (by rw [hnm, Nat.add_mul]; omega) h3
    obtain ⟨k, hk⟩ : ∃ k, k = (m + ρ i) % 4 := ⟨_, rfl⟩
    have hk4 : k < 4 := by omega
    have hG := hB.2 i hi'
    rw [hc] at hG
    have hn0 : nv = c4 k := by
      rw [hk]
      obtain ⟨x, z, e⟩ := own_len ho
      simp only [Value.slice.injEq] at e
      exact e.2.1
    have hbit : s.testBit (k + 1) = false := by
      obtain ⟨s', vals', e, -, -, b3, -⟩ := hG
      simp only [Option.some.injEq, Prod.mk.injEq] at e
      obtain ⟨rfl, rfl⟩ := e
      have := b3 k hk4
      dsimp only at this
      rw [this, hnm, hk, dn_not hm hi, Bool.and_false]
    have e1 : ((k + 1 : Nat) : Int) = (k : Int) + 1 := by omega
    have ez : ((k : Int) + 1).toNat = k + 1 := by omega
    have hz : comeS usualK s ((k : Int) + 1) nv = 0 := by
      unfold comeS
      rw [ez, if_pos ⟨by omega, by show (k : Int) + 1 ≤ 4; omega⟩, hbit, if_neg (by simp), if_pos]
      rw [hn0, Nat.add_sub_cancel]
      exact c4_fields hk4
    rw [← hk] at ho ⊢
    refine (hS1.2.1.add (by omega) _ _ ((k : Int) + 1) s old (valsN (i : Int) (c4 k)) hc av nv cv (Iz.own (l := valsN (i : Int) (c4 k)) (by rw [valsN_len]; exact ho)) ?_ (fun q e => ⟨rel_new (Nat.le_trans hW0.size (ho.lt q e).1), (ho.lt q e).2⟩) hz (valsN_fit _ _)).mono ?_
    · intro e
      rcases ho.2 with ⟨e', -⟩ | ⟨g', c', cur, e', -⟩
      · simp only [Value.slice.injEq] at e'
        exact Prod.ext e'.2.1 e'.2.2
      · simp only [Value.slice.injEq] at e'
        rw [e] at e'
        cases e'.1
    · rintro e w' ⟨rfl, vals', own', r1, r2, r3, r4⟩
      rw [ez] at r1 r3 r4
      have hT := hS1.turnB r2 (M' := 1040 + 4 * (n + 1)) (r1.up (by omega)) (by omega)
      have hown' := hT.2.2.2.1
      rw [hlen] at hown'
      refine ⟨rfl, ⟨_, own', gs, A, Ca, _, hT, p1_dom h2 (dom_same hc), .inr ⟨by have := hB.1; omega, fun j hj => ?_⟩⟩, i_own_ent hown' i (by omega)⟩
      dsimp only
      by_cases cj : j = i
      · subst cj
        rw [show ent A[j] = ((A[j].1 : Int), (A[j].2 : Int)) from rfl, if_pos rfl]
        have hsb : Sb usualK (s ||| 2 ^ (k + 1)) := (r1.sb (e := ((A[j].1 : Int), (A[j].2 : Int))) (if_pos rfl)).1
        refine (hG.add hk4 hsb r3 r4).congr (fun q hq => ?_)
        rw [hnm, dn_step hm hi (by omega), ← hk]
        by_cases cq : q = k
        · subst cq
          rw [hk, hb]
          simp
        · have : ¬ k = q := fun e => cq e.symm
          simp [cq, this]
      · rw [if_neg (show ¬ ent A[j] = ((A[i].1 : Int), (A[i].2 : Int)) from hne j hj cj)]
        refine (hB.2 j hj).congr (fun q hq => ?_)
        rw [hnm, dn_step hm hi (by omega)]
        simp [cj]
/-- At the end both have the same. -/
theorem St3.done (h : St3 w ga gb S ρ W L v (8 * L)) (hL : 0 < L) : ∃ oa ob gs C N, Wn W oa ga N usualK gs [] C ∧ Wn W ob gb N usualK gs [] C ∧ Below w.heap.size w W := by
  obtain ⟨oa, ob, gs, A, Ca, Cb, h1, h2, h3⟩ := h
  have hB : ∀ j (_ : j < A.length), Gv (Cb (ent A[j])) (bitS S j) (j : Int) := fun j hj => by
    rcases h3 with h3 | h3
    · have := h3.1
      omega
    · have := h2.2.1
      exact (h3.2 j hj).congr (fun k hk => by rw [dn_all (by omega) hk, Bool.and_true])
  have e : Ca = Cb := by
    funext x
    by_cases c : ∃ p ∈ A, x = ent p
    · obtain ⟨p, hp, rfl⟩ := c
      obtain ⟨j, hj, rfl⟩ := List.getElem_of_mem hp
      exact (h2.2.2.2.2.2 j hj).unique (hB j hj)
    · have a1 : (Ca x).isSome = false := by rw [← Bool.not_eq_true, h2.2.2.2.1]; exact c
      have a2 : (Cb x).isSome = false := by rw [← Bool.not_eq_true, h2.2.2.2.2.1]; exact c
      rw [Option.isSome_eq_false_iff] at a1 a2
      rw [Option.isNone_iff_eq_none.1 a1, Option.isNone_iff_eq_none.1 a2]
  subst e
  exact ⟨oa, ob, gs, Ca, _, h1.1, h1.2.1, h1.2.2.2.2.2.1.1⟩
end
end Go.Proofs.YtafmiolehlagkaaGreat

/-
  World: WorldOrder: the end: maps of the same sizes; bytes as texts.
-/
namespace Go.Proofs.YtafmiolehlagkaaGreat
open Go.RowKit
set_option maxRecDepth 100000
/-- A region that draws its order: the condition on the world may grow on the way. -/
theorem wpAnyH_more {P : Program} {md : Region.Mode} {ops : Array Oper} {Q : Exit → Act → World → Prop} {S S' : World → Prop} (h : ∀ w, S' w → S w) :
    ∀ (fuel : Nat) (listed : Array Bool) (a : Act) (w : World), wpAnyH P md ops Q S' fuel listed a w → wpAnyH P md ops Q S fuel listed a w
  | 0, _, _, _, hw => hw
  | fuel + 1, _, _, _, hw => ⟨hw.1, fun i hi => wpOp_mono (fun _ _ hk => ⟨h _ hk.1, wpAnyH_more h fuel _ _ _ hk.2⟩) (hw.2 i hi)⟩
theorem atKey_any {H : Type} {D : DataW H} {k : Lit} (hD : Maps.IsMap D) (h : Maps.has D k = true) (z z' : DataW H) : D.atKey k z = D.atKey k z' := by
  obtain ⟨es, rfl⟩ := hD
  change es.any (fun p => p.1.sameKey k) = true at h
  obtain ⟨p, hp⟩ := Option.isSome_iff_exists.1 (List.find?_isSome.2 (by simpa using h) : (es.find? (fun p => p.1.sameKey k)).isSome = true)
  simp [DataW.atKey, hp]
/-- Two maps that tell the same have the same length. -/
theorem Mi.len {w w' : World} {g g' n n' : Nat} {f : Nat → Option Nat} (h : Mi w g n f) (h' : Mi w' g' n' f) : ∃ z : Nat, (∀ W, Below w.heap.size w W → (Builtin.len_ #[80] 3 #[.map (some g)]).run Tryz.prog W = .ok (.int .i64 (z : Int)) W) ∧ ∀ W, Below w'.heap.size w' W → (Builtin.len_ #[80] 3 #[.map (some g')]).run Tryz.prog W = .ok (.int .i64 (z : Int)) W := by
  have hl : g < w.heap.size := by
    obtain ⟨D, h1, -⟩ := h
    exact h1.lt
  have hl' : g' < w'.heap.size := by
    obtain ⟨D, h1, -⟩ := h'
    exact h1.lt
  obtain ⟨D, ⟨es, ck, o1, o2⟩, d2, d3⟩ := h
  obtain ⟨D', ⟨es', ck', p1, p2⟩, d2', d3'⟩ := h'
  have h1 : w.ownsMap Tryz.prog 3 (plainElem Tryz.prog 3) g n D := ⟨es, ck, o1, o2⟩
  have h1' : w'.ownsMap Tryz.prog 3 (plainElem Tryz.prog 3) g' n' D' := ⟨es', ck', p1, p2⟩
  have hh : ∀ k, Maps.has D k = Maps.has D' k := fun k => by
    rw [Bool.eq_iff_iff]
    constructor
    · intro hk
      obtain ⟨s, hs, rfl⟩ := d3 k hk
      rw [(d2' s hs).1, ← (d2 s hs).1]
      exact hk
    · intro hk
      obtain ⟨s, hs, rfl⟩ := d3' k hk
      rw [(d2 s hs).1, ← (d2' s hs).1]
      exact hk
  have e : D = D' := Maps.ext (h1.canon keyed3) (h1'.canon keyed3) hh (fun k z hk => by
    obtain ⟨s, hs, rfl⟩ := d3 k hk
    have hq := (d2 s hs).1
    rw [hk] at hq
    obtain ⟨i, hi⟩ := Option.isSome_iff_exists.1 hq.symm
    rw [atKey_any h1.isMap hk z (.lit (.int .i64 0)), atKey_any h1'.isMap ((hh _).symm.trans hk) z (.lit (.int .i64 0)), (d2 s hs).2 i hi, (d2' s hs).2 i hi])
  subst e
  refine ⟨Maps.size D, fun W hW => ?_, fun W hW => ?_⟩
  · have : W.ownsMap Tryz.prog 3 (plainElem Tryz.prog 3) g n D := ⟨es, ck, (hW.block g hl).trans o1, o2⟩
    exact this.len Tryz.underlying80 3
  · have : W.ownsMap Tryz.prog 3 (plainElem Tryz.prog 3) g' n' D := ⟨es', ck', (hW.block g' hl').trans p1, p2⟩
    exact this.len Tryz.underlying80 3
section
/-- Those that live, in their order. -/
theorem snap_bytes (gs fr : List Nat) (C : Co) (e : ∃ E, Livers (fC C) E) : ∃ l : List UInt8, ∀ (W : World) (own' : Nat → Nat) (gw' N' : Nat), Wn W own' gw' N' usualK gs fr C → Calls Tryz.prog 13 #[.pointer (some ⟨gw', 0, none⟩)] W fun e w' => ∃ v, e = .returned v ∧ (Pak.Bs w' v l ∧ True) ∧ Below W.heap.size W w' := by
  obtain ⟨E, hE⟩ := e
  refine ⟨Pak.Rw.rowB (zi gs) ++ Pak.Rw.rowB (zi fr) ++ E.flatMap (fun e => oneB usualK (C e)), fun W own' gw' N' h' => ?_⟩
  refine (h'.snap E hE).mono ?_
  rintro e w' ⟨v, rfl, ⟨l, hl, ho⟩, hb⟩
  refine ⟨v, rfl, ⟨?_, trivial⟩, hb⟩
  rw [← hl]
  exact bs_own ho rfl
end
end Go.Proofs.YtafmiolehlagkaaGreat
