import Derived.Test.YtafmiolehlagkaaGreatGm6
/-
  World: what Add and Remove leave, as functions of what was there.
-/
namespace Go.Proofs.YtafmiolehlagkaaGreat
open Go.RowKit
set_option maxRecDepth 100000
def insP (k : Nat) (v : List Int) : List (Nat × List Int) → List (Nat × List Int)
  | [] => [(k, v)]
  | r :: t => if r.1 < k then r :: insP k v t else (k, v) :: r :: t
theorem insP_mem (k : Nat) (v : List Int) : ∀ (l : List (Nat × List Int)) (r : Nat × List Int), r ∈ insP k v l ↔ r ∈ l ∨ r = (k, v)
  | [], r => by simp [insP]
  | a :: t, r => by
    unfold insP
    by_cases c : a.1 < k
    · rw [if_pos c, List.mem_cons, insP_mem k v t r, List.mem_cons]
      exact (or_assoc).symm
    · rw [if_neg c, List.mem_cons]
      exact ⟨fun h => Or.symm h, fun h => Or.symm h⟩
theorem insP_rise (k : Nat) (v : List Int) : ∀ (l : List (Nat × List Int)), l.Pairwise (fun x y => x.1 < y.1) → (∀ r ∈ l, r.1 ≠ k) → (insP k v l).Pairwise (fun x y => x.1 < y.1)
  | [], _, _ => by simp [insP]
  | a :: t, h, hn => by
    obtain ⟨h1, h2⟩ := List.pairwise_cons.1 h
    unfold insP
    by_cases c : a.1 < k
    · rw [if_pos c]
      refine List.pairwise_cons.2 ⟨fun r hr => ?_, insP_rise k v t h2 (fun r hr => hn r (List.mem_cons_of_mem _ hr))⟩
      rcases (insP_mem k v t r).1 hr with hr | rfl
      · exact h1 r hr
      · exact c
    · rw [if_neg c]
      have hk : k < a.1 := by have := hn a List.mem_cons_self; omega
      refine List.pairwise_cons.2 ⟨fun r hr => ?_, h⟩
      rcases List.mem_cons.1 hr with rfl | hr
      · exact hk
      · exact Nat.lt_trans hk (h1 r hr)
def addV (ks : List Kind) (s : Nat) (old : List Int) (k : Nat) (v : List Int) : List Int := (insP k v (partsL ks s 1 old)).flatMap (·.2)
def remV (ks : List Kind) (s : Nat) (old : List Int) (k : Nat) : List Int := ((partsL ks s 1 old).filter (fun r => decide (r.1 ≠ k))).flatMap (·.2)
theorem add_is {ks : List Kind} {s k : Nat} {old vals' v : List Int} (hs : s.testBit k = false) (h1 : vals'.length = fsum ks (s ||| 2 ^ k) 1) (h : ∀ r, r ∈ partsL ks (s ||| 2 ^ k) 1 vals' ↔ r ∈ partsL ks s 1 old ∨ r = (k, v)) : vals' = addV ks s old k v := by
  have e : partsL ks (s ||| 2 ^ k) 1 vals' = insP k v (partsL ks s 1 old) := by
    refine rise_ext (fun r => (r.1 : Int)) _ _ ((partsL_pair _ _ 1 _).imp (fun {x y} hxy => by omega)) ((insP_rise k v _ (partsL_pair ks s 1 old) (fun r hr e => ?_)).imp (fun {x y} hxy => by omega)) (fun r => by rw [h, insP_mem])
    have := (partsL_mem ks s 1 old r hr).2.2
    rw [e, hs] at this
    cases this
  unfold addV
  rw [← e, partsL_flat _ _ 1 _ h1]
theorem rem_is {ks : List Kind} {s k : Nat} {old vals' : List Int} (h1 : vals'.length = fsum ks (s ^^^ 2 ^ k) 1) (h : ∀ r, r ∈ partsL ks (s ^^^ 2 ^ k) 1 vals' ↔ r ∈ partsL ks s 1 old ∧ r.1 ≠ k) : vals' = remV ks s old k := by
  have e : partsL ks (s ^^^ 2 ^ k) 1 vals' = (partsL ks s 1 old).filter (fun r => decide (r.1 ≠ k)) := by
    refine rise_ext (fun r => (r.1 : Int)) _ _ ((partsL_pair _ _ 1 _).imp (fun {x y} hxy => by omega)) (((partsL_pair ks s 1 old).sublist List.filter_sublist).imp (fun {x y} hxy => by omega)) (fun r => ?_)
    rw [h, List.mem_filter, decide_eq_true_eq]
  unfold remV
  rw [← e, partsL_flat _ _ 1 _ h1]
end Go.Proofs.YtafmiolehlagkaaGreat

/-
  World: a deed on whomever, told as a function of who lives with what: two worlds of the same contents answer alike.
-/
namespace Go.Proofs.YtafmiolehlagkaaGreat
open Go.RowKit
set_option maxRecDepth 100000
/-- What comes of a deed: the world behind it is one of these contents. -/
def Fd (w : World) (own : Nat → Nat) (gw N : Nat) (gs fr : List Nat) (C : Co) (w' : World) : Prop := ∃ own', Wn w' own' gw (N + 4) usualK gs fr C ∧ Wk own own' w w'
def addC (C : Co) (e : Int × Int) (kk : Nat) (y : Int) : Int × Co := match C e with
  | none => (41, C)
  | some (s, old) => if s.testBit (kk + 1) then (61, C) else (0, fun x => if x = e then some (s ||| 2 ^ (kk + 1), addV usualK s old (kk + 1) (valsN y (c4 kk))) else C x)
def remC (C : Co) (e : Int × Int) (kk : Nat) : Int × Co := match C e with
  | none => (41, C)
  | some (s, old) => if s.testBit (kk + 1) then (0, fun x => if x = e then some (s ^^^ 2 ^ (kk + 1), remV usualK s old (kk + 1)) else C x) else (62, C)
def setF (C : Co) (e : Int × Int) (kk : Nat) (y : Int) : Int × Co := match C e with
  | none => (41, C)
  | some (s, old) => if s.testBit (kk + 1) then (0, fun x => if x = e then some (s, old.take (fsum (usualK.take kk) s 1) ++ valsN y (c4 kk) ++ old.drop (fsum (usualK.take kk) s 1 + (valsN y (c4 kk)).length)) else C x) else (62, C)
section
variable {w w' : World} {own : Nat → Nat} {gw N : Nat} {gs fr : List Nat} {C : Co}
theorem Fd.same (h : Wn w own gw N usualK gs fr C) (hb : Below w.heap.size w w') : Fd w own gw N gs fr C w' := ⟨_, (h.later hb).up (by omega), Wk.later hb⟩
theorem Wn.dead (h : Wn w own gw N usualK gs fr C) {a b : Int} (hc : C (a, b) = none) : livesOf gs fr a b = false := by
  obtain ⟨vk, gp, gm, gt, q, T, h1, h2, h3, h4, h5, h6⟩ := h
  rw [h5, hc]
  rfl
theorem Wn.addF (h : Wn w own gw N usualK gs fr C) (hN : N ≤ 800000) (a b : Int) (kk : Nat) (hk : kk < 4) (y : Int) (B : Nat) (av : Option Addr) (nv cv : Nat) (ho : w.ownsRow B 2 1 (.slice av nv cv) (c4 kk) (zc (valsN y (c4 kk)))) (hv0 : ∀ k, (Value.slice av nv cv).ownBlock = some k → own k = 0) :
    Calls Tryz.prog 27 #[.pointer (some ⟨gw, 0, none⟩), .agg #[.int .i64 a, .int .i64 b], .agg #[.int .i64 ((kk : Int) + 1), .slice av nv cv]] w fun e w' => e = .returned (.int .i64 (addC C (a, b) kk y).1) ∧ Fd w own gw N gs fr (addC C (a, b) kk y).2 w' := by
  have hn : nv = c4 kk := by
    obtain ⟨x, z, e⟩ := own_len ho
    simp only [Value.slice.injEq] at e
    exact e.2.1
  have e1 : ((kk : Int) + 1).toNat = kk + 1 := by omega
  cases hc : C (a, b) with
  | none =>
    have e0 : addC C (a, b) kk y = (41, C) := by unfold addC; rw [hc]
    rw [e0]
    have hl := h.dead hc
    have h0 := h
    obtain ⟨vk, gp, gm, gt, q, T, h1, h2, h3, h4, h5, h6⟩ := h
    refine (add_stale h1 a b _ av nv cv hl).mono ?_
    rintro e w' ⟨rfl, hb⟩
    exact ⟨rfl, Fd.same h0 hb⟩
  | some p =>
    obtain ⟨s, old⟩ := p
    have hcs : comeS usualK s ((kk : Int) + 1) nv = if s.testBit (kk + 1) then 61 else 0 := by
      unfold comeS
      rw [if_pos ⟨by omega, by show (kk : Int) + 1 ≤ 4; omega⟩, e1, Nat.add_sub_cancel, if_pos (hn.trans (c4_fields hk))]
    by_cases hbit : s.testBit (kk + 1) = true
    · have e0 : addC C (a, b) kk y = (61, C) := by unfold addC; rw [hc]; dsimp only; rw [if_pos hbit]
      rw [e0]
      rw [if_pos hbit] at hcs
      refine (h.add_err a b ((kk : Int) + 1) s old hc av nv cv _ hcs (by omega)).mono ?_
      rintro e w' ⟨rfl, hb⟩
      exact ⟨rfl, Fd.same h hb⟩
    · have e0 : addC C (a, b) kk y = (0, fun x => if x = (a, b) then some (s ||| 2 ^ (kk + 1), addV usualK s old (kk + 1) (valsN y (c4 kk))) else C x) := by unfold addC; rw [hc]; dsimp only; rw [if_neg hbit]
      rw [e0]
      rw [if_neg hbit] at hcs
      refine (h.add hN a b ((kk : Int) + 1) s old (valsN y (c4 kk)) hc av nv cv (Iz.own (l := valsN y (c4 kk)) (by rw [valsN_len]; exact ho)) ?_ (fun k e => ⟨hv0 k e, (ho.lt k e).2⟩) hcs (valsN_fit _ _)).mono ?_
      · intro e
        rcases ho.2 with ⟨e', -⟩ | ⟨g, c', cur, e', -⟩
        · simp only [Value.slice.injEq] at e'
          exact Prod.ext e'.2.1 e'.2.2
        · simp only [Value.slice.injEq] at e'
          rw [e] at e'
          cases e'.1
      · rintro e w' ⟨rfl, vals', own', r1, r2, r3, r4⟩
        rw [e1] at r1 r3 r4
        have := add_is (by simpa using hbit) r3 r4
        rw [this] at r1
        exact ⟨rfl, own', r1, r2⟩
theorem Wn.remF (h : Wn w own gw N usualK gs fr C) (hN : N ≤ 800000) (a b : Int) (hib : InB (a, b)) (kk : Nat) (hk : kk < 4) :
    Calls Tryz.prog 26 #[.pointer (some ⟨gw, 0, none⟩), .agg #[.int .i64 a, .int .i64 b], .int .i64 ((kk : Int) + 1)] w fun e w' => e = .returned (.int .i64 (remC C (a, b) kk).1) ∧ Fd w own gw N gs fr (remC C (a, b) kk).2 w' := by
  have e1 : ((kk + 1 : Nat) : Int) = (kk : Int) + 1 := by omega
  cases hc : C (a, b) with
  | none =>
    have e0 : remC C (a, b) kk = (41, C) := by unfold remC; rw [hc]
    rw [e0]
    have hl := h.dead hc
    have h0 := h
    obtain ⟨vk, gp, gm, gt, q, T, h1, h2, h3, h4, h5, h6⟩ := h
    refine (remove_err h1 a b ((kk : Int) + 1) hib h4.2.1 0 (by omega) (fun e => by rw [hl] at e; cases e) 41 (by unfold hasE; rw [hl]; rfl) (by omega)).mono ?_
    rintro e w' ⟨rfl, hb⟩
    exact ⟨rfl, Fd.same h0 hb⟩
  | some p =>
    obtain ⟨s, old⟩ := p
    by_cases hbit : s.testBit (kk + 1) = true
    · have e0 : remC C (a, b) kk = (0, fun x => if x = (a, b) then some (s ^^^ 2 ^ (kk + 1), remV usualK s old (kk + 1)) else C x) := by unfold remC; rw [hc]; dsimp only; rw [if_pos hbit]
      rw [e0]
      have := h.remove hN a b (kk + 1) s old hc (by omega) (by show kk + 1 ≤ 4; omega) hbit
      rw [e1] at this
      refine this.mono ?_
      rintro e w' ⟨rfl, vals', own', r1, r2, r3, r4⟩
      have := rem_is r3 r4
      rw [this] at r1
      exact ⟨rfl, own', r1, r2⟩
    · have e0 : remC C (a, b) kk = (62, C) := by unfold remC; rw [hc]; dsimp only; rw [if_neg hbit]
      rw [e0]
      obtain ⟨-, hl⟩ := h.inb hc
      have h0 := h
      obtain ⟨vk, gp, gm, gt, q, T, h1, h2, h3, h4, h5, h6⟩ := h
      refine (remove_err h1 a b ((kk : Int) + 1) hib h4.2.1 s (h2.1 _ s (fC_some hc)).1 (fun _ => fC_some hc) 62 ?_ (by omega)).mono ?_
      · unfold hasE
        rw [if_pos hl, if_pos (⟨by omega, by show (kk : Int) + 1 ≤ 4; omega⟩), if_neg]
        rw [← e1, Int.toNat_natCast]
        exact hbit
      · rintro e w' ⟨rfl, hb⟩
        exact ⟨rfl, Fd.same h0 hb⟩
theorem Wn.setFn (h : Wn w own gw N usualK gs fr C) (a b : Int) (hib : InB (a, b)) (kk : Nat) (hk : kk < 4) (y : Int) (B : Nat) (av : Option Addr) (nv cv : Nat) (ho : w.ownsRow B 2 1 (.slice av nv cv) (c4 kk) (zc (valsN y (c4 kk)))) (hv0 : ∀ k, (Value.slice av nv cv).ownBlock = some k → own k = 0) :
    Calls Tryz.prog 35 #[.pointer (some ⟨gw, 0, none⟩), .agg #[.int .i64 a, .int .i64 b], .agg #[.int .i64 ((kk : Int) + 1), .slice av nv cv]] w fun e w' => e = .returned (.int .i64 (setF C (a, b) kk y).1) ∧ Fd w own gw N gs fr (setF C (a, b) kk y).2 w' := by
  have hn : nv = c4 kk := by
    obtain ⟨x, z, e⟩ := own_len ho
    simp only [Value.slice.injEq] at e
    exact e.2.1
  have e1 : ((kk + 1 : Nat) : Int) = (kk : Int) + 1 := by omega
  cases hc : C (a, b) with
  | none =>
    have e0 : setF C (a, b) kk y = (41, C) := by unfold setF; rw [hc]
    rw [e0]
    have hl := h.dead hc
    have h0 := h
    obtain ⟨vk, gp, gm, gt, q, T, h1, h2, h3, h4, h5, h6⟩ := h
    refine (wset_err h1 a b ((kk : Int) + 1) hib h4.2.1 0 (by omega) (fun e => by rw [hl] at e; cases e) 41 (by unfold hasE; rw [hl]; rfl) (by omega) av nv cv).mono ?_
    rintro e w' ⟨rfl, hb⟩
    exact ⟨rfl, Fd.same h0 hb⟩
  | some p =>
    obtain ⟨s, old⟩ := p
    by_cases hbit : s.testBit (kk + 1) = true
    · have e0 : setF C (a, b) kk y = (0, fun x => if x = (a, b) then some (s, old.take (fsum (usualK.take kk) s 1) ++ valsN y (c4 kk) ++ old.drop (fsum (usualK.take kk) s 1 + (valsN y (c4 kk)).length)) else C x) := by unfold setF; rw [hc]; dsimp only; rw [if_pos hbit]
      rw [e0]
      have := h.set a b (kk + 1) s old (valsN y (c4 kk)) hc (by omega) (by show kk + 1 ≤ 4; omega) hbit av nv cv (Iz.own (l := valsN y (c4 kk)) (by rw [valsN_len]; exact ho)) (fun k e => ⟨hv0 k e, (ho.lt k e).2⟩) (by rw [hn, Nat.add_sub_cancel]; exact c4_fields hk) (valsN_fit _ _)
      rw [e1, Nat.add_sub_cancel] at this
      refine this.mono ?_
      rintro e w' ⟨rfl, own', r1, r2⟩
      exact ⟨rfl, own', r1.up (by omega), r2⟩
    · have e0 : setF C (a, b) kk y = (62, C) := by unfold setF; rw [hc]; dsimp only; rw [if_neg hbit]
      rw [e0]
      obtain ⟨-, hl⟩ := h.inb hc
      have h0 := h
      obtain ⟨vk, gp, gm, gt, q, T, h1, h2, h3, h4, h5, h6⟩ := h
      refine (wset_err h1 a b ((kk : Int) + 1) hib h4.2.1 s (h2.1 _ s (fC_some hc)).1 (fun _ => fC_some hc) 62 ?_ (by omega) av nv cv).mono ?_
      · unfold hasE
        rw [if_pos hl, if_pos (⟨by omega, by show (kk : Int) + 1 ≤ 4; omega⟩), if_neg]
        rw [← e1, Int.toNat_natCast]
        exact hbit
      · rintro e w' ⟨rfl, hb⟩
        exact ⟨rfl, Fd.same h0 hb⟩
end
end Go.Proofs.YtafmiolehlagkaaGreat

/-
  World: a Spawn of one part, told as a function of who lives with what.
-/
namespace Go.Proofs.YtafmiolehlagkaaGreat
open Go.RowKit
set_option maxRecDepth 100000
def spC (gs fr : List Nat) (C : Co) (kk : Nat) (y : Int) : Co := fun x => if x = (((takeE gs fr).1 : Int), ((takeE gs fr).2 : Int)) then some (2 ^ (kk + 1), valsN y (c4 kk)) else C x
theorem one_vals {kk : Nat} {y : Int} {vals : List Int} (h1 : vals.length = fsum usualK (2 ^ (kk + 1)) 1) (h : ∀ r, r ∈ partsL usualK (2 ^ (kk + 1)) 1 vals ↔ r = (kk + 1, valsN y (c4 kk))) : vals = valsN y (c4 kk) := by
  have e : partsL usualK (2 ^ (kk + 1)) 1 vals = [(kk + 1, valsN y (c4 kk))] :=
    rise_ext (fun r => (r.1 : Int)) _ _ ((partsL_pair _ _ 1 _).imp (fun {x y} hxy => by omega)) (by simp) (fun r => by rw [h, List.mem_singleton])
  rw [← partsL_flat usualK _ 1 vals h1, e]
  simp
theorem one_set (kk : Nat) (a : Option Addr) (n c : Nat) : setOf [((kk : Int) + 1, a, n, c)] = 2 ^ (kk + 1) := by
  have e : ((kk : Int) + 1).toNat = kk + 1 := by omega
  simp [setOf, e]
section
variable {w w2 w3 : World} {own : Nat → Nat} {gw N : Nat} {gs fr : List Nat} {C : Co}
theorem Wn.spawn_oneF (h : Wn w own gw N usualK gs fr C) (hN : N ≤ 800000) (hroom : fr ≠ [] ∨ gs.length < 200) (hb : Below w.heap.size w w2) (kk : Nat) (hk : kk < 4) (y : Int) (a : Option Addr) (n c : Nat) (ho : w2.ownsRow w.heap.size 2 1 (.slice a n c) (c4 kk) (zc (valsN y (c4 kk)))) (hw3 : w3 = w2.alloc (.cells #[.int .i64 ((kk : Int) + 1), .slice a n c] 32)) :
    Calls Tryz.prog 24 #[.pointer (some ⟨gw, 0, none⟩), .slice (some ⟨w2.heap.size, 0, none⟩) 1 1] w3 fun e w' => e = .returned (.tuple #[.agg #[.int .i64 ((takeE gs fr).1 : Int), .int .i64 ((takeE gs fr).2 : Int)], .int .i64 0]) ∧ ∃ own', Wn w' own' gw (N + 3) usualK (takeG gs fr) (takeF fr) (spC gs fr C kk y) ∧ Wk own own' w w' := by
  have hb3 : Below w2.heap.size w2 w3 := hw3 ▸ below_alloc w2 _
  have hx3 : w3.heap[w2.heap.size]? = some (.cells #[.int .i64 ((kk : Int) + 1), .slice a n c] 32 (0, 0)) := by rw [hw3]; exact heap_alloc_new w2 _
  have h3 := h.later (below_on hb hb3)
  have ho3 := own_later ho hb3
  have hn : n = c4 kk := by
    obtain ⟨x, z, e⟩ := own_len ho
    simp only [Value.slice.injEq] at e
    exact e.2.1
  have hrp : Rp w3 (.slice (some ⟨w2.heap.size, 0, none⟩) 1 1) [((kk : Int) + 1, a, n, c)] := by
    refine .inr ⟨_, 0, 1, rfl, Nat.le_refl 1, by unfold maxLen; omega, fun j u hj => ?_⟩
    rw [Nat.zero_add, cell_of_row w3 _ j _ 32 (0, 0) hx3]
    simpa [pz] using hj
  have hcome := one_come kk hk a n c hn
  have hsb := hb.size
  have hlt := lt_of_block hx3
  refine (h3.spawn (by omega) hroom _ [((kk : Int) + 1, a, n, c)] (fun _ => valsN y (c4 kk)) hrp hcome ?_ ?_ ?_ ?_).mono ?_
  · intro k e
    simp only [Value.ownBlock, Option.some.injEq] at e
    subst e
    exact ⟨rel_new hsb, hlt⟩
  · intro p hp
    rw [List.mem_singleton.1 hp]
    refine ⟨?_, fun e => ?_⟩
    · have := Iz.own (l := valsN y (c4 kk)) (by rw [valsN_len]; exact ho3)
      exact this
    · rcases ho3.2 with ⟨e', -⟩ | ⟨g, c', cur, e', -⟩
      · simp only [Value.slice.injEq] at e'
        exact Prod.ext e'.2.1 e'.2.2
      · simp only [Value.slice.injEq] at e'
        dsimp only at e
        rw [e] at e'
        cases e'.1
  · intro p hp k e
    rw [List.mem_singleton.1 hp] at e
    have := ho3.lt k e
    exact ⟨rel_new this.1, this.2⟩
  · intro p _
    exact valsN_fit _ _
  · rintro e w' ⟨rfl, vals, own', r1, r2, r3, r4⟩
    have e1 : ((kk : Int) + 1).toNat = kk + 1 := by omega
    rw [one_set] at r1 r3 r4
    have hv := one_vals (kk := kk) (y := y) r3 (fun r => by rw [r4]; simp [e1])
    rw [hv] at r1
    exact ⟨rfl, own', r1, (Wk.later (below_on hb hb3)).trans r2⟩
/-- No room: nobody comes. -/
theorem Wn.spawn_noneF (h : Wn w own gw N usualK gs fr C) (hroom : ¬ (fr ≠ [] ∨ gs.length < 200)) (hb : Below w.heap.size w w2) (kk : Nat) (hk : kk < 4) (a : Option Addr) (n c : Nat) (hn : n = c4 kk) (hw3 : w3 = w2.alloc (.cells #[.int .i64 ((kk : Int) + 1), .slice a n c] 32)) :
    Calls Tryz.prog 24 #[.pointer (some ⟨gw, 0, none⟩), .slice (some ⟨w2.heap.size, 0, none⟩) 1 1] w3 fun e w' => e = .returned (.tuple #[ev (0, 0), .int .i64 40]) ∧ ∃ own', Wn w' own' gw (N + 3) usualK gs fr C ∧ Wk own own' w w' := by
  have hb3 : Below w2.heap.size w2 w3 := hw3 ▸ below_alloc w2 _
  have hx3 : w3.heap[w2.heap.size]? = some (.cells #[.int .i64 ((kk : Int) + 1), .slice a n c] 32 (0, 0)) := by rw [hw3]; exact heap_alloc_new w2 _
  have h3 := h.later (below_on hb hb3)
  have hrp : Rp w3 (.slice (some ⟨w2.heap.size, 0, none⟩) 1 1) [((kk : Int) + 1, a, n, c)] := by
    refine .inr ⟨_, 0, 1, rfl, Nat.le_refl 1, by unfold maxLen; omega, fun j u hj => ?_⟩
    rw [Nat.zero_add, cell_of_row w3 _ j _ 32 (0, 0) hx3]
    simpa [pz] using hj
  have hok := h.ok
  have hfr : fr = [] := Classical.byContradiction fun e => hroom (.inl e)
  have hgs : gs.length = 200 := by
    have h1 : ¬ gs.length < 200 := fun e => hroom (.inr e)
    have h2 := hok.2.2.1
    omega
  refine (h3.spawn_full hfr hgs _ [((kk : Int) + 1, a, n, c)] hrp (one_come kk hk a n c hn)).mono ?_
  rintro e w' ⟨rfl, hb4⟩
  exact ⟨rfl, _, (h3.later hb4).up (by omega), (Wk.later (below_on hb hb3)).trans (Wk.later hb4)⟩
end
end Go.Proofs.YtafmiolehlagkaaGreat

/-
  World: does, on whomever: Despawn, Add, Remove, Set.
-/
namespace Go.Proofs.YtafmiolehlagkaaGreat
open Go.RowKit
set_option maxRecDepth 100000
def desF (gs fr : List Nat) (C : Co) (e : Int × Int) : Int × List Nat × List Nat × Co := match C e with
  | none => (41, gs, fr, C)
  | some _ => (0, giveG gs e.1.toNat, giveF gs fr e.1.toNat, fun x => if x = e then none else C x)
theorem Wn.desFn {w : World} {own : Nat → Nat} {gw N : Nat} {gs fr : List Nat} {C : Co} (h : Wn w own gw N usualK gs fr C) (hN : N ≤ 800000) (a b : Int) : Calls Tryz.prog 31 #[.pointer (some ⟨gw, 0, none⟩), .agg #[.int .i64 a, .int .i64 b]] w fun e w' => e = .returned (.int .i64 (desF gs fr C (a, b)).1) ∧ Fd w own gw N (desF gs fr C (a, b)).2.1 (desF gs fr C (a, b)).2.2.1 (desF gs fr C (a, b)).2.2.2 w' := by
  cases hc : C (a, b) with
  | none =>
    have e0 : desF gs fr C (a, b) = (41, gs, fr, C) := by unfold desF; rw [hc]
    rw [e0]
    refine (h.despawn_stale a b (by rw [hc]; rfl)).mono ?_
    rintro e w' ⟨rfl, hb⟩
    exact ⟨rfl, Fd.same h hb⟩
  | some p =>
    have e0 : desF gs fr C (a, b) = (0, giveG gs a.toNat, giveF gs fr a.toNat, fun x => if x = (a, b) then none else C x) := by unfold desF; rw [hc]
    rw [e0]
    obtain ⟨i, rfl, rfl, hi, hl, hf⟩ := h.at (a := a) (b := b) (by rw [hc]; rfl)
    refine (h.despawn (by omega) (i := i) (by rw [hc]; rfl) hi hl hf).mono ?_
    rintro e w' ⟨rfl, own', r1, r2⟩
    exact ⟨rfl, own', r1.up (by omega), r2⟩
section
variable {w : World} {own : Nat → Nat} {gw N : Nat} {gs fr : List Nat} {C : Co}
set_option maxHeartbeats 8000000 in
theorem doesF2 (h : Wn w own gw N usualK gs fr C) (hN : N ≤ 800000) (A : List (Nat × Nat)) (B : Nat) (v : Value) (hA : w.ownsRow B 29 2 v A.length (ec A)) (hn : A.length ≤ 1000) (h0 : 0 < A.length) (_hA0 : ∀ k, v.ownBlock = some k → own k = 0) (hal : ∀ p ∈ A, InB ((p.1 : Int), (p.2 : Int))) (kd who what y : Int) (hkd : -9223372036854775808 ≤ kd) (hkd2 : kd ≤ 9223372036854775807) (hpk : pk kd 5 = 2) (h3 : -9223372036854775808 ≤ who) (h4 : who ≤ 9223372036854775807) (h5 : -9223372036854775808 ≤ what) (h6 : what ≤ 9223372036854775807) :
    Calls Tryz.prog 21 #[.pointer (some ⟨gw, 0, none⟩), v, .agg #[.int .i64 kd, .int .i64 who, .int .i64 what, .int .i64 y]] w fun e w' => e = .returned (.tuple #[v, .int .i64 (addC C (((A.getD (pk who A.length) (0, 0)).1 : Int), ((A.getD (pk who A.length) (0, 0)).2 : Int)) (pk what 4) y).1]) ∧ Fd w own gw N gs fr (addC C (((A.getD (pk who A.length) (0, 0)).1 : Int), ((A.getD (pk who A.length) (0, 0)).2 : Int)) (pk what 4) y).2 w' := by
  obtain ⟨g, c, rfl, hc1, hc2⟩ := own_form hA h0
  obtain ⟨n, hnA⟩ : ∃ n, n = A.length := ⟨_, rfl⟩
  obtain ⟨i, hi⟩ : ∃ i, i = pk who n := ⟨_, rfl⟩
  have hlt : i < n := hi ▸ pk_lt who (by omega)
  have hm : A[i] ∈ A := List.getElem_mem (by omega)
  have hap := hal _ hm
  obtain ⟨p, hp⟩ : ∃ p, p = A[i]'(by omega) := ⟨_, rfl⟩
  have hix : pk who A.length = i := by rw [hi, hnA]
  have hgd : A.getD (pk who A.length) (0, 0) = p := by
    rw [hix, List.getD_eq_getElem?_getD, List.getElem?_eq_getElem (by omega), hp]
    rfl
  rw [hgd]
  clear hgd hix
  obtain ⟨w1, hw1⟩ : ∃ X, X = w.alloc (.cells #[.int .i64 kd, .int .i64 who, .int .i64 what, .int .i64 y] 69) := ⟨_, rfl⟩
  have B1 : Below w.heap.size w w1 := hw1 ▸ below_alloc w _
  have x1 : w1.heap[w.heap.size]? = some (.cells #[.int .i64 kd, .int .i64 who, .int .i64 what, .int .i64 y] 69 (0, 0)) := by rw [hw1]; exact heap_alloc_new w _
  rw [← hnA] at hA h0 hn ⊢
  have hA1 := own_later hA B1
  obtain ⟨y1, y2⟩ := i_own_ent hA1 i (by omega)
  rw [← hp] at y1 y2 hap
  clear hp hm
  obtain ⟨pa, pb⟩ := p
  dsimp only at y1 y2 hap ⊢
  obtain ⟨kk, hk⟩ : ∃ kk, kk = pk what 4 := ⟨_, rfl⟩
  have hkk : kk < 4 := hk ▸ pk_lt what (by omega)
  rw [← hk]
  have J5 : Hid (∀ W, Calls Tryz.prog 16 #[.int .i64 kd, .int .i64 5] W fun e w' => e = .returned (.int .i64 2) ∧ w' = W) := fun W => by
    have := pick_any kd 5 W hkd hkd2 (by omega) (by omega)
    rw [hpk] at this
    exact this
  have JW : Hid (∀ W, Calls Tryz.prog 16 #[.int .i64 who, .int .i64 (n : Int)] W fun e w' => e = .returned (.int .i64 (i : Int)) ∧ w' = W) := fun W => hi ▸ pick_any who n W h3 h4 (by omega) (by omega)
  obtain ⟨w2, hw2⟩ : ∃ X, X = w1.alloc (.cells #[.int .i64 (pa : Int), .int .i64 (pb : Int)] 29) := ⟨_, rfl⟩
  have B2 : Below w1.heap.size w1 w2 := hw2 ▸ below_alloc w1 _
  have x2 : w2.heap[w1.heap.size]? = some (.cells #[.int .i64 (pa : Int), .int .i64 (pb : Int)] 29 (0, 0)) := by rw [hw2]; exact heap_alloc_new w1 _
  obtain ⟨kx, hkx⟩ : ∃ k, k = w.heap.size := ⟨_, rfl⟩
  obtain ⟨ky, hky⟩ : ∃ k, k = w1.heap.size := ⟨_, rfl⟩
  rw [← hky] at x2
  rw [← hkx] at x1
  have X1 : Hid (w2.heap[kx]? = some (.cells #[.int .i64 kd, .int .i64 who, .int .i64 what, .int .i64 y] 69 (0, 0))) := (B2.block kx (lt_of_block x1)).trans x1
  have X2 := hide x2
  have H2 := hide (h.later (below_on B1 B2))
  have hsw : w.heap.size ≤ w1.heap.size := B1.size
  have HK : Hid (∀ W, Below w2.heap.size w2 W → ∀ C' w', Fd W (rel (rel own w 0) w2 0) gw N gs fr C' w' → Hid (Fd w own gw N gs fr C' w') ∧ w'.cell? ⟨kx, 2, none⟩ = some (.int .i64 what) ∧ w'.cell? ⟨kx, 3, none⟩ = some (.int .i64 y) ∧ w'.cell? ⟨ky, 0, none⟩ = some (.int .i64 (pa : Int)) ∧ w'.cell? ⟨ky, 1, none⟩ = some (.int .i64 (pb : Int))) := fun W hW C' w' hd => by
    obtain ⟨own', r1, r2⟩ := hd
    have e1 := wk_at r2 ((hW.block kx (lt_of_block X1.out)).trans X1.out) ((rel_old (lt_of_block X1.out)).trans (rel_new (by omega)))
    have e2 := wk_at r2 ((hW.block ky (lt_of_block X2.out)).trans X2.out) ((rel_old (lt_of_block X2.out)).trans (rel_new (by omega)))
    obtain ⟨-, -, z2, z3⟩ := box4 e1.1 (Below.refl _ w')
    obtain ⟨z4, z5⟩ := kx_cells e2.1 (Below.refl _ w')
    exact ⟨⟨own', r1, ((Wk.later (below_on B1 B2)).trans (Wk.later hW)).trans r2⟩, z2, z3, z4, z5⟩
  clear h hal hA hA1 hc1 hi B1 B2 x2
  obtain ⟨b0, b1, -, -⟩ := box4 x1 (Below.refl _ w1)
  obtain ⟨a0, -, a2, a3⟩ := box4 X1.out (Below.refl _ w2)
  obtain ⟨a4, a5⟩ := kx_cells X2.out (Below.refl _ w2)
  clear x1
  have JP : Hid (∀ W, Below w2.heap.size w2 W → Calls Tryz.prog 23 #[.int .i64 what, .int .i64 y] W fun e w' => ∃ v, e = .returned (.agg #[.int .i64 ((kk : Int) + 1), v]) ∧ Hid (w'.ownsRow W.heap.size 2 1 v (c4 kk) (zc (valsN y (c4 kk)))) ∧ Hid (Below W.heap.size W w') ∧ Hid (Below w2.heap.size w2 w') ∧ (w'.cell? ⟨kx, 2, none⟩ = some (.int .i64 what) ∧ w'.cell? ⟨kx, 3, none⟩ = some (.int .i64 y) ∧ w'.cell? ⟨ky, 0, none⟩ = some (.int .i64 (pa : Int)) ∧ w'.cell? ⟨ky, 1, none⟩ = some (.int .i64 (pb : Int)))) := fun W hW => by
    refine (hk ▸ part_any what y W h5 h6 : Calls Tryz.prog 23 #[.int .i64 what, .int .i64 y] W fun e w' => ∃ v, e = .returned (.agg #[.int .i64 ((kk : Nat) + 1 : Int), v]) ∧ w'.ownsRow W.heap.size 2 1 v (c4 kk) (zc (valsN y (c4 kk))) ∧ Below W.heap.size W w').mono ?_
    rintro e w' ⟨v, rfl, ho, hb⟩
    have hb2 := below_on hW hb
    obtain ⟨-, -, z2, z3⟩ := box4 X1.out hb2
    obtain ⟨z4, z5⟩ := kx_cells X2.out hb2
    exact ⟨v, rfl, ho, hb, hb2, z2, z3, z4, z5⟩
  have J9 : Hid (∀ (W0 W : World) (av : Option Addr) (nv cv : Nat), Below w2.heap.size w2 W0 → Below W0.heap.size W0 W → W.ownsRow W0.heap.size 2 1 (.slice av nv cv) (c4 kk) (zc (valsN y (c4 kk))) → Calls Tryz.prog 27 #[.pointer (some ⟨gw, 0, none⟩), .agg #[.int .i64 (pa : Int), .int .i64 (pb : Int)], .agg #[.int .i64 ((kk : Int) + 1), .slice av nv cv]] W fun e w' => e = .returned (.int .i64 (addC C ((pa : Int), (pb : Int)) kk y).1) ∧ Hid (Fd w own gw N gs fr (addC C ((pa : Int), (pb : Int)) kk y).2 w') ∧ (w'.cell? ⟨kx, 2, none⟩ = some (.int .i64 what) ∧ w'.cell? ⟨kx, 3, none⟩ = some (.int .i64 y) ∧ w'.cell? ⟨ky, 0, none⟩ = some (.int .i64 (pa : Int)) ∧ w'.cell? ⟨ky, 1, none⟩ = some (.int .i64 (pb : Int)))) := fun W0 W av nv cv hW0 hW ho => by
    have hWW := below_on hW0 hW
    refine ((H2.out.later hWW).addF hN pa pb kk hkk y W0.heap.size av nv cv ho (fun k e => rel_new (Nat.le_trans hW0.size (ho.lt k e).1))).mono ?_
    rintro e w' ⟨rfl, hd⟩
    obtain ⟨q1, q2, q3, q4⟩ := HK.out W hWW _ _ hd
    exact ⟨rfl, q1, q2, q3, q4⟩
  have e4 : IntKind.i64.wrap (1 + (kk : Int)) = (kk : Int) + 1 := by rw [IntKind.wrap_i64]; omega
  clear hnA hk h5 h6 h3 h4 X1 X2 H2 HK hsw hkk hap hpk hkd hkd2
  generalize (addC C ((pa : Int), (pb : Int)) kk y).1 = zz at *
  generalize (addC C ((pa : Int), (pb : Int)) kk y).2 = CC at *
  go_enter Tryz.func21, Tryz.ntmps21
  go_upto_region 1 with fail
  rw [← hw1, ← hkx]
  clear hw1 hkx
  have HKY := hide hky
  have HW2 := hide hw2
  clear hky hw2
  have t0 : ¬ (n : Int) = 0 := by omega
  have t00 : ((n : Int) == 0) = false := by rw [beq_eq_false_iff_ne]; exact t0
  have t1 : (i : Int) < (n : Int) := by omega
  have t2 : (0 : Int) ≤ (i : Int) := by omega
  go_wp2_with fail
  refine (J5.out _).mono ?_
  rintro e w5 ⟨rfl, h5⟩
  rw [h5]
  clear h5 w5
  go_wp2_with fail
  refine (JW.out _).mono ?_
  rintro e w5 ⟨rfl, h5⟩
  rw [h5]
  clear h5 w5
  go_upto_region 7 with fail
  rw [← HW2.out, ← HKY.out]
  clear HW2 HKY y1 y2 b0 b1
  go_wp2_with fail
  refine (J5.out _).mono ?_
  rintro e w5 ⟨rfl, h5⟩
  rw [h5]
  clear h5 w5
  go_upto_region 11 with fail
  go_region_held3 (fun W => W.cell? ⟨kx, 2, none⟩ = some (.int .i64 what) ∧ W.cell? ⟨kx, 3, none⟩ = some (.int .i64 y) ∧ W.cell? ⟨ky, 0, none⟩ = some (.int .i64 (pa : Int)) ∧ W.cell? ⟨ky, 1, none⟩ = some (.int .i64 (pb : Int))) (go_keep) (first | (go_at_call 23; refine (JP.out _ (below_drew w2)).mono ?_; rintro e w5 ⟨v5, rfl, HO5, HB5, HC5, k2, k3, k4, k5⟩; obtain ⟨av, nv, cv, rfl⟩ := own_slice HO5.out) | (go_at_call 27; refine (J9.out _ _ _ _ _ (below_drew w2) HB5.out HO5.out).mono ?_; rintro e w6 ⟨rfl, HD, k2', k3', k4', k5'⟩))
  go_wp2_with fail
  go_ret2
  exact ⟨rfl, HD.out⟩
set_option maxHeartbeats 8000000 in
theorem doesF3 (h : Wn w own gw N usualK gs fr C) (hN : N ≤ 800000) (A : List (Nat × Nat)) (B : Nat) (v : Value) (hA : w.ownsRow B 29 2 v A.length (ec A)) (hn : A.length ≤ 1000) (h0 : 0 < A.length) (_hA0 : ∀ k, v.ownBlock = some k → own k = 0) (hal : ∀ p ∈ A, InB ((p.1 : Int), (p.2 : Int))) (kd who what y : Int) (hkd : -9223372036854775808 ≤ kd) (hkd2 : kd ≤ 9223372036854775807) (hpk : pk kd 5 = 3) (h3 : -9223372036854775808 ≤ who) (h4 : who ≤ 9223372036854775807) (h5 : -9223372036854775808 ≤ what) (h6 : what ≤ 9223372036854775807) :
    Calls Tryz.prog 21 #[.pointer (some ⟨gw, 0, none⟩), v, .agg #[.int .i64 kd, .int .i64 who, .int .i64 what, .int .i64 y]] w fun e w' => e = .returned (.tuple #[v, .int .i64 (remC C (((A.getD (pk who A.length) (0, 0)).1 : Int), ((A.getD (pk who A.length) (0, 0)).2 : Int)) (pk what 4)).1]) ∧ Fd w own gw N gs fr (remC C (((A.getD (pk who A.length) (0, 0)).1 : Int), ((A.getD (pk who A.length) (0, 0)).2 : Int)) (pk what 4)).2 w' := by
  obtain ⟨g, c, rfl, hc1, hc2⟩ := own_form hA h0
  obtain ⟨n, hnA⟩ : ∃ n, n = A.length := ⟨_, rfl⟩
  obtain ⟨i, hi⟩ : ∃ i, i = pk who n := ⟨_, rfl⟩
  have hlt : i < n := hi ▸ pk_lt who (by omega)
  have hm : A[i] ∈ A := List.getElem_mem (by omega)
  have hap := hal _ hm
  obtain ⟨p, hp⟩ : ∃ p, p = A[i]'(by omega) := ⟨_, rfl⟩
  have hix : pk who A.length = i := by rw [hi, hnA]
  have hgd : A.getD (pk who A.length) (0, 0) = p := by
    rw [hix, List.getD_eq_getElem?_getD, List.getElem?_eq_getElem (by omega), hp]
    rfl
  rw [hgd]
  clear hgd hix
  obtain ⟨w1, hw1⟩ : ∃ X, X = w.alloc (.cells #[.int .i64 kd, .int .i64 who, .int .i64 what, .int .i64 y] 69) := ⟨_, rfl⟩
  have B1 : Below w.heap.size w w1 := hw1 ▸ below_alloc w _
  have x1 : w1.heap[w.heap.size]? = some (.cells #[.int .i64 kd, .int .i64 who, .int .i64 what, .int .i64 y] 69 (0, 0)) := by rw [hw1]; exact heap_alloc_new w _
  rw [← hnA] at hA h0 hn ⊢
  have hA1 := own_later hA B1
  obtain ⟨y1, y2⟩ := i_own_ent hA1 i (by omega)
  rw [← hp] at y1 y2 hap
  clear hp hm
  obtain ⟨pa, pb⟩ := p
  dsimp only at y1 y2 hap ⊢
  obtain ⟨kk, hk⟩ : ∃ kk, kk = pk what 4 := ⟨_, rfl⟩
  have hkk : kk < 4 := hk ▸ pk_lt what (by omega)
  rw [← hk]
  have J5 : Hid (∀ W, Calls Tryz.prog 16 #[.int .i64 kd, .int .i64 5] W fun e w' => e = .returned (.int .i64 3) ∧ w' = W) := fun W => by
    have := pick_any kd 5 W hkd hkd2 (by omega) (by omega)
    rw [hpk] at this
    exact this
  have JW : Hid (∀ W, Calls Tryz.prog 16 #[.int .i64 who, .int .i64 (n : Int)] W fun e w' => e = .returned (.int .i64 (i : Int)) ∧ w' = W) := fun W => hi ▸ pick_any who n W h3 h4 (by omega) (by omega)
  obtain ⟨w2, hw2⟩ : ∃ X, X = w1.alloc (.cells #[.int .i64 (pa : Int), .int .i64 (pb : Int)] 29) := ⟨_, rfl⟩
  have B2 : Below w1.heap.size w1 w2 := hw2 ▸ below_alloc w1 _
  have x2 : w2.heap[w1.heap.size]? = some (.cells #[.int .i64 (pa : Int), .int .i64 (pb : Int)] 29 (0, 0)) := by rw [hw2]; exact heap_alloc_new w1 _
  obtain ⟨kx, hkx⟩ : ∃ k, k = w.heap.size := ⟨_, rfl⟩
  obtain ⟨ky, hky⟩ : ∃ k, k = w1.heap.size := ⟨_, rfl⟩
  rw [← hky] at x2
  rw [← hkx] at x1
  have X1 : Hid (w2.heap[kx]? = some (.cells #[.int .i64 kd, .int .i64 who, .int .i64 what, .int .i64 y] 69 (0, 0))) := (B2.block kx (lt_of_block x1)).trans x1
  have X2 := hide x2
  have H2 := hide (h.later (below_on B1 B2))
  have hsw : w.heap.size ≤ w1.heap.size := B1.size
  have HK : Hid (∀ W, Below w2.heap.size w2 W → ∀ C' w', Fd W (rel (rel own w 0) w2 0) gw N gs fr C' w' → Hid (Fd w own gw N gs fr C' w') ∧ w'.cell? ⟨kx, 2, none⟩ = some (.int .i64 what) ∧ w'.cell? ⟨kx, 3, none⟩ = some (.int .i64 y) ∧ w'.cell? ⟨ky, 0, none⟩ = some (.int .i64 (pa : Int)) ∧ w'.cell? ⟨ky, 1, none⟩ = some (.int .i64 (pb : Int))) := fun W hW C' w' hd => by
    obtain ⟨own', r1, r2⟩ := hd
    have e1 := wk_at r2 ((hW.block kx (lt_of_block X1.out)).trans X1.out) ((rel_old (lt_of_block X1.out)).trans (rel_new (by omega)))
    have e2 := wk_at r2 ((hW.block ky (lt_of_block X2.out)).trans X2.out) ((rel_old (lt_of_block X2.out)).trans (rel_new (by omega)))
    obtain ⟨-, -, z2, z3⟩ := box4 e1.1 (Below.refl _ w')
    obtain ⟨z4, z5⟩ := kx_cells e2.1 (Below.refl _ w')
    exact ⟨⟨own', r1, ((Wk.later (below_on B1 B2)).trans (Wk.later hW)).trans r2⟩, z2, z3, z4, z5⟩
  clear h hal hA hA1 hc1 hi B1 B2 x2
  obtain ⟨b0, b1, -, -⟩ := box4 x1 (Below.refl _ w1)
  obtain ⟨a0, -, a2, a3⟩ := box4 X1.out (Below.refl _ w2)
  obtain ⟨a4, a5⟩ := kx_cells X2.out (Below.refl _ w2)
  clear x1
  have J4 : Hid (∀ W, Calls Tryz.prog 16 #[.int .i64 what, .int .i64 4] W fun e w' => e = .returned (.int .i64 (kk : Int)) ∧ w' = W) := fun W => hk ▸ pick_any what 4 W h5 h6 (by omega) (by omega)
  have J9 : Hid (∀ W, Below w2.heap.size w2 W → Calls Tryz.prog 26 #[.pointer (some ⟨gw, 0, none⟩), .agg #[.int .i64 (pa : Int), .int .i64 (pb : Int)], .int .i64 ((kk : Int) + 1)] W fun e w' => e = .returned (.int .i64 (remC C ((pa : Int), (pb : Int)) kk).1) ∧ Hid (Fd w own gw N gs fr (remC C ((pa : Int), (pb : Int)) kk).2 w') ∧ (w'.cell? ⟨kx, 2, none⟩ = some (.int .i64 what) ∧ w'.cell? ⟨ky, 0, none⟩ = some (.int .i64 (pa : Int)) ∧ w'.cell? ⟨ky, 1, none⟩ = some (.int .i64 (pb : Int)))) := fun W hW => by
    refine ((H2.out.later hW).remF hN pa pb hap kk hkk).mono ?_
    rintro e w' ⟨rfl, hd⟩
    obtain ⟨q1, q2, q3, q4⟩ := HK.out W hW _ _ hd
    exact ⟨rfl, q1, q2, q4⟩
  have e4 : IntKind.i64.wrap (1 + (kk : Int)) = (kk : Int) + 1 := by rw [IntKind.wrap_i64]; omega
  clear hnA hk h5 h6 h3 h4 X1 X2 H2 HK hsw hkk hap hpk hkd hkd2
  generalize (remC C ((pa : Int), (pb : Int)) kk).1 = zz at *
  generalize (remC C ((pa : Int), (pb : Int)) kk).2 = CC at *
  go_enter Tryz.func21, Tryz.ntmps21
  go_upto_region 1 with fail
  rw [← hw1, ← hkx]
  clear hw1 hkx
  have HKY := hide hky
  have HW2 := hide hw2
  clear hky hw2
  have t0 : ¬ (n : Int) = 0 := by omega
  have t00 : ((n : Int) == 0) = false := by rw [beq_eq_false_iff_ne]; exact t0
  have t1 : (i : Int) < (n : Int) := by omega
  have t2 : (0 : Int) ≤ (i : Int) := by omega
  go_wp2_with fail
  refine (J5.out _).mono ?_
  rintro e w5 ⟨rfl, h5⟩
  rw [h5]
  clear h5 w5
  go_wp2_with fail
  refine (JW.out _).mono ?_
  rintro e w5 ⟨rfl, h5⟩
  rw [h5]
  clear h5 w5
  go_upto_region 7 with fail
  rw [← HW2.out, ← HKY.out]
  clear HW2 HKY y1 y2 b0 b1
  go_wp2_with fail
  refine (J5.out _).mono ?_
  rintro e w5 ⟨rfl, h5⟩
  rw [h5]
  clear h5 w5
  go_upto_region 13 with fail
  go_region_held3 (fun W => W.cell? ⟨kx, 2, none⟩ = some (.int .i64 what) ∧ W.cell? ⟨ky, 0, none⟩ = some (.int .i64 (pa : Int)) ∧ W.cell? ⟨ky, 1, none⟩ = some (.int .i64 (pb : Int))) (go_keep) (first | (go_at_call 16; refine (J4.out _).mono ?_; rintro e w5 ⟨rfl, rfl⟩) | (go_at_call 26; refine (J9.out _ (below_drew w2)).mono ?_; rintro e w6 ⟨rfl, HD, k2, k3, k4⟩))
  go_wp2_with fail
  go_ret2
  exact ⟨rfl, HD.out⟩
set_option maxHeartbeats 8000000 in
theorem doesF4 (h : Wn w own gw N usualK gs fr C) (_hN : N ≤ 800000) (A : List (Nat × Nat)) (B : Nat) (v : Value) (hA : w.ownsRow B 29 2 v A.length (ec A)) (hn : A.length ≤ 1000) (h0 : 0 < A.length) (_hA0 : ∀ k, v.ownBlock = some k → own k = 0) (hal : ∀ p ∈ A, InB ((p.1 : Int), (p.2 : Int))) (kd who what y : Int) (hkd : -9223372036854775808 ≤ kd) (hkd2 : kd ≤ 9223372036854775807) (hpk : pk kd 5 = 4) (h3 : -9223372036854775808 ≤ who) (h4 : who ≤ 9223372036854775807) (h5 : -9223372036854775808 ≤ what) (h6 : what ≤ 9223372036854775807) :
    Calls Tryz.prog 21 #[.pointer (some ⟨gw, 0, none⟩), v, .agg #[.int .i64 kd, .int .i64 who, .int .i64 what, .int .i64 y]] w fun e w' => e = .returned (.tuple #[v, .int .i64 (setF C (((A.getD (pk who A.length) (0, 0)).1 : Int), ((A.getD (pk who A.length) (0, 0)).2 : Int)) (pk what 4) y).1]) ∧ Fd w own gw N gs fr (setF C (((A.getD (pk who A.length) (0, 0)).1 : Int), ((A.getD (pk who A.length) (0, 0)).2 : Int)) (pk what 4) y).2 w' := by
  obtain ⟨g, c, rfl, hc1, hc2⟩ := own_form hA h0
  obtain ⟨n, hnA⟩ : ∃ n, n = A.length := ⟨_, rfl⟩
  obtain ⟨i, hi⟩ : ∃ i, i = pk who n := ⟨_, rfl⟩
  have hlt : i < n := hi ▸ pk_lt who (by omega)
  have hm : A[i] ∈ A := List.getElem_mem (by omega)
  have hap := hal _ hm
  obtain ⟨p, hp⟩ : ∃ p, p = A[i]'(by omega) := ⟨_, rfl⟩
  have hix : pk who A.length = i := by rw [hi, hnA]
  have hgd : A.getD (pk who A.length) (0, 0) = p := by
    rw [hix, List.getD_eq_getElem?_getD, List.getElem?_eq_getElem (by omega), hp]
    rfl
  rw [hgd]
  clear hgd hix
  obtain ⟨w1, hw1⟩ : ∃ X, X = w.alloc (.cells #[.int .i64 kd, .int .i64 who, .int .i64 what, .int .i64 y] 69) := ⟨_, rfl⟩
  have B1 : Below w.heap.size w w1 := hw1 ▸ below_alloc w _
  have x1 : w1.heap[w.heap.size]? = some (.cells #[.int .i64 kd, .int .i64 who, .int .i64 what, .int .i64 y] 69 (0, 0)) := by rw [hw1]; exact heap_alloc_new w _
  rw [← hnA] at hA h0 hn ⊢
  have hA1 := own_later hA B1
  obtain ⟨y1, y2⟩ := i_own_ent hA1 i (by omega)
  rw [← hp] at y1 y2 hap
  clear hp hm
  obtain ⟨pa, pb⟩ := p
  dsimp only at y1 y2 hap ⊢
  obtain ⟨kk, hk⟩ : ∃ kk, kk = pk what 4 := ⟨_, rfl⟩
  have hkk : kk < 4 := hk ▸ pk_lt what (by omega)
  rw [← hk]
  have J5 : Hid (∀ W, Calls Tryz.prog 16 #[.int .i64 kd, .int .i64 5] W fun e w' => e = .returned (.int .i64 4) ∧ w' = W) := fun W => by
    have := pick_any kd 5 W hkd hkd2 (by omega) (by omega)
    rw [hpk] at this
    exact this
  have JW : Hid (∀ W, Calls Tryz.prog 16 #[.int .i64 who, .int .i64 (n : Int)] W fun e w' => e = .returned (.int .i64 (i : Int)) ∧ w' = W) := fun W => hi ▸ pick_any who n W h3 h4 (by omega) (by omega)
  obtain ⟨w2, hw2⟩ : ∃ X, X = w1.alloc (.cells #[.int .i64 (pa : Int), .int .i64 (pb : Int)] 29) := ⟨_, rfl⟩
  have B2 : Below w1.heap.size w1 w2 := hw2 ▸ below_alloc w1 _
  have x2 : w2.heap[w1.heap.size]? = some (.cells #[.int .i64 (pa : Int), .int .i64 (pb : Int)] 29 (0, 0)) := by rw [hw2]; exact heap_alloc_new w1 _
  obtain ⟨kx, hkx⟩ : ∃ k, k = w.heap.size := ⟨_, rfl⟩
  obtain ⟨ky, hky⟩ : ∃ k, k = w1.heap.size := ⟨_, rfl⟩
  rw [← hky] at x2
  rw [← hkx] at x1
  have X1 : Hid (w2.heap[kx]? = some (.cells #[.int .i64 kd, .int .i64 who, .int .i64 what, .int .i64 y] 69 (0, 0))) := (B2.block kx (lt_of_block x1)).trans x1
  have X2 := hide x2
  have H2 := hide (h.later (below_on B1 B2))
  have hsw : w.heap.size ≤ w1.heap.size := B1.size
  have HK : Hid (∀ W, Below w2.heap.size w2 W → ∀ C' w', Fd W (rel (rel own w 0) w2 0) gw N gs fr C' w' → Hid (Fd w own gw N gs fr C' w') ∧ w'.cell? ⟨kx, 2, none⟩ = some (.int .i64 what) ∧ w'.cell? ⟨kx, 3, none⟩ = some (.int .i64 y) ∧ w'.cell? ⟨ky, 0, none⟩ = some (.int .i64 (pa : Int)) ∧ w'.cell? ⟨ky, 1, none⟩ = some (.int .i64 (pb : Int))) := fun W hW C' w' hd => by
    obtain ⟨own', r1, r2⟩ := hd
    have e1 := wk_at r2 ((hW.block kx (lt_of_block X1.out)).trans X1.out) ((rel_old (lt_of_block X1.out)).trans (rel_new (by omega)))
    have e2 := wk_at r2 ((hW.block ky (lt_of_block X2.out)).trans X2.out) ((rel_old (lt_of_block X2.out)).trans (rel_new (by omega)))
    obtain ⟨-, -, z2, z3⟩ := box4 e1.1 (Below.refl _ w')
    obtain ⟨z4, z5⟩ := kx_cells e2.1 (Below.refl _ w')
    exact ⟨⟨own', r1, ((Wk.later (below_on B1 B2)).trans (Wk.later hW)).trans r2⟩, z2, z3, z4, z5⟩
  clear h hal hA hA1 hc1 hi B1 B2 x2
  obtain ⟨b0, b1, -, -⟩ := box4 x1 (Below.refl _ w1)
  obtain ⟨a0, -, a2, a3⟩ := box4 X1.out (Below.refl _ w2)
  obtain ⟨a4, a5⟩ := kx_cells X2.out (Below.refl _ w2)
  clear x1
  have JP : Hid (∀ W, Below w2.heap.size w2 W → Calls Tryz.prog 23 #[.int .i64 what, .int .i64 y] W fun e w' => ∃ v, e = .returned (.agg #[.int .i64 ((kk : Int) + 1), v]) ∧ Hid (w'.ownsRow W.heap.size 2 1 v (c4 kk) (zc (valsN y (c4 kk)))) ∧ Hid (Below W.heap.size W w') ∧ Hid (Below w2.heap.size w2 w') ∧ (w'.cell? ⟨kx, 2, none⟩ = some (.int .i64 what) ∧ w'.cell? ⟨kx, 3, none⟩ = some (.int .i64 y) ∧ w'.cell? ⟨ky, 0, none⟩ = some (.int .i64 (pa : Int)) ∧ w'.cell? ⟨ky, 1, none⟩ = some (.int .i64 (pb : Int)))) := fun W hW => by
    refine (hk ▸ part_any what y W h5 h6 : Calls Tryz.prog 23 #[.int .i64 what, .int .i64 y] W fun e w' => ∃ v, e = .returned (.agg #[.int .i64 ((kk : Nat) + 1 : Int), v]) ∧ w'.ownsRow W.heap.size 2 1 v (c4 kk) (zc (valsN y (c4 kk))) ∧ Below W.heap.size W w').mono ?_
    rintro e w' ⟨v, rfl, ho, hb⟩
    have hb2 := below_on hW hb
    obtain ⟨-, -, z2, z3⟩ := box4 X1.out hb2
    obtain ⟨z4, z5⟩ := kx_cells X2.out hb2
    exact ⟨v, rfl, ho, hb, hb2, z2, z3, z4, z5⟩
  have J9 : Hid (∀ (W0 W : World) (av : Option Addr) (nv cv : Nat), Below w2.heap.size w2 W0 → Below W0.heap.size W0 W → W.ownsRow W0.heap.size 2 1 (.slice av nv cv) (c4 kk) (zc (valsN y (c4 kk))) → Calls Tryz.prog 35 #[.pointer (some ⟨gw, 0, none⟩), .agg #[.int .i64 (pa : Int), .int .i64 (pb : Int)], .agg #[.int .i64 ((kk : Int) + 1), .slice av nv cv]] W fun e w' => e = .returned (.int .i64 (setF C ((pa : Int), (pb : Int)) kk y).1) ∧ Hid (Fd w own gw N gs fr (setF C ((pa : Int), (pb : Int)) kk y).2 w') ∧ (w'.cell? ⟨kx, 2, none⟩ = some (.int .i64 what) ∧ w'.cell? ⟨kx, 3, none⟩ = some (.int .i64 y) ∧ w'.cell? ⟨ky, 0, none⟩ = some (.int .i64 (pa : Int)) ∧ w'.cell? ⟨ky, 1, none⟩ = some (.int .i64 (pb : Int)))) := fun W0 W av nv cv hW0 hW ho => by
    have hWW := below_on hW0 hW
    refine ((H2.out.later hWW).setFn pa pb hap kk hkk y W0.heap.size av nv cv ho (fun k e => rel_new (Nat.le_trans hW0.size (ho.lt k e).1))).mono ?_
    rintro e w' ⟨rfl, hd⟩
    obtain ⟨q1, q2, q3, q4⟩ := HK.out W hWW _ _ hd
    exact ⟨rfl, q1, q2, q3, q4⟩
  have e4 : IntKind.i64.wrap (1 + (kk : Int)) = (kk : Int) + 1 := by rw [IntKind.wrap_i64]; omega
  clear hnA hk h5 h6 h3 h4 X1 X2 H2 HK hsw hkk hap hpk hkd hkd2
  generalize (setF C ((pa : Int), (pb : Int)) kk y).1 = zz at *
  generalize (setF C ((pa : Int), (pb : Int)) kk y).2 = CC at *
  go_enter Tryz.func21, Tryz.ntmps21
  go_upto_region 1 with fail
  rw [← hw1, ← hkx]
  clear hw1 hkx
  have HKY := hide hky
  have HW2 := hide hw2
  clear hky hw2
  have t0 : ¬ (n : Int) = 0 := by omega
  have t00 : ((n : Int) == 0) = false := by rw [beq_eq_false_iff_ne]; exact t0
  have t1 : (i : Int) < (n : Int) := by omega
  have t2 : (0 : Int) ≤ (i : Int) := by omega
  go_wp2_with fail
  refine (J5.out _).mono ?_
  rintro e w5 ⟨rfl, h5⟩
  rw [h5]
  clear h5 w5
  go_wp2_with fail
  refine (JW.out _).mono ?_
  rintro e w5 ⟨rfl, h5⟩
  rw [h5]
  clear h5 w5
  go_upto_region 7 with fail
  rw [← HW2.out, ← HKY.out]
  clear HW2 HKY y1 y2 b0 b1
  go_wp2_with fail
  refine (J5.out _).mono ?_
  rintro e w5 ⟨rfl, h5⟩
  rw [h5]
  clear h5 w5
  go_upto_region 14 with fail
  go_region_held3 (fun W => W.cell? ⟨kx, 2, none⟩ = some (.int .i64 what) ∧ W.cell? ⟨kx, 3, none⟩ = some (.int .i64 y) ∧ W.cell? ⟨ky, 0, none⟩ = some (.int .i64 (pa : Int)) ∧ W.cell? ⟨ky, 1, none⟩ = some (.int .i64 (pb : Int))) (go_keep) (first | (go_at_call 23; refine (JP.out _ (below_drew w2)).mono ?_; rintro e w5 ⟨v5, rfl, HO5, HB5, HC5, k2, k3, k4, k5⟩; obtain ⟨av, nv, cv, rfl⟩ := own_slice HO5.out) | (go_at_call 35; refine (J9.out _ _ _ _ _ (below_drew w2) HB5.out HO5.out).mono ?_; rintro e w6 ⟨rfl, HD, k2', k3', k4', k5'⟩))
  go_wp2_with fail
  go_ret2
  exact ⟨rfl, HD.out⟩
set_option maxHeartbeats 8000000 in
theorem doesF1 (h : Wn w own gw N usualK gs fr C) (hN : N ≤ 800000) (A : List (Nat × Nat)) (B : Nat) (v : Value) (hA : w.ownsRow B 29 2 v A.length (ec A)) (hn : A.length ≤ 1000) (h0 : 0 < A.length) (_hA0 : ∀ k, v.ownBlock = some k → own k = 0) (hal : ∀ p ∈ A, InB ((p.1 : Int), (p.2 : Int))) (kd who what y : Int) (hkd : -9223372036854775808 ≤ kd) (hkd2 : kd ≤ 9223372036854775807) (hpk : pk kd 5 = 1) (h3 : -9223372036854775808 ≤ who) (h4 : who ≤ 9223372036854775807) (_h5 : -9223372036854775808 ≤ what) (_h6 : what ≤ 9223372036854775807) :
    Calls Tryz.prog 21 #[.pointer (some ⟨gw, 0, none⟩), v, .agg #[.int .i64 kd, .int .i64 who, .int .i64 what, .int .i64 y]] w fun e w' => e = .returned (.tuple #[v, .int .i64 (desF gs fr C (((A.getD (pk who A.length) (0, 0)).1 : Int), ((A.getD (pk who A.length) (0, 0)).2 : Int))).1]) ∧ Fd w own gw N (desF gs fr C (((A.getD (pk who A.length) (0, 0)).1 : Int), ((A.getD (pk who A.length) (0, 0)).2 : Int))).2.1 (desF gs fr C (((A.getD (pk who A.length) (0, 0)).1 : Int), ((A.getD (pk who A.length) (0, 0)).2 : Int))).2.2.1 (desF gs fr C (((A.getD (pk who A.length) (0, 0)).1 : Int), ((A.getD (pk who A.length) (0, 0)).2 : Int))).2.2.2 w' := by
  obtain ⟨g, c, rfl, hc1, hc2⟩ := own_form hA h0
  obtain ⟨n, hnA⟩ : ∃ n, n = A.length := ⟨_, rfl⟩
  obtain ⟨i, hi⟩ : ∃ i, i = pk who n := ⟨_, rfl⟩
  have hlt : i < n := hi ▸ pk_lt who (by omega)
  have hm : A[i] ∈ A := List.getElem_mem (by omega)
  have hap := hal _ hm
  obtain ⟨p, hp⟩ : ∃ p, p = A[i]'(by omega) := ⟨_, rfl⟩
  have hix : pk who A.length = i := by rw [hi, hnA]
  have hgd : A.getD (pk who A.length) (0, 0) = p := by
    rw [hix, List.getD_eq_getElem?_getD, List.getElem?_eq_getElem (by omega), hp]
    rfl
  rw [hgd]
  clear hgd hix
  obtain ⟨w1, hw1⟩ : ∃ X, X = w.alloc (.cells #[.int .i64 kd, .int .i64 who, .int .i64 what, .int .i64 y] 69) := ⟨_, rfl⟩
  have B1 : Below w.heap.size w w1 := hw1 ▸ below_alloc w _
  have x1 : w1.heap[w.heap.size]? = some (.cells #[.int .i64 kd, .int .i64 who, .int .i64 what, .int .i64 y] 69 (0, 0)) := by rw [hw1]; exact heap_alloc_new w _
  rw [← hnA] at hA h0 hn ⊢
  have hA1 := own_later hA B1
  obtain ⟨y1, y2⟩ := i_own_ent hA1 i (by omega)
  rw [← hp] at y1 y2 hap
  clear hp hm
  obtain ⟨pa, pb⟩ := p
  dsimp only at y1 y2 hap ⊢
  have J5 : Hid (∀ W, Calls Tryz.prog 16 #[.int .i64 kd, .int .i64 5] W fun e w' => e = .returned (.int .i64 1) ∧ w' = W) := fun W => by
    have := pick_any kd 5 W hkd hkd2 (by omega) (by omega)
    rw [hpk] at this
    exact this
  have JW : Hid (∀ W, Calls Tryz.prog 16 #[.int .i64 who, .int .i64 (n : Int)] W fun e w' => e = .returned (.int .i64 (i : Int)) ∧ w' = W) := fun W => hi ▸ pick_any who n W h3 h4 (by omega) (by omega)
  obtain ⟨w2, hw2⟩ : ∃ X, X = w1.alloc (.cells #[.int .i64 (pa : Int), .int .i64 (pb : Int)] 29) := ⟨_, rfl⟩
  have B2 : Below w1.heap.size w1 w2 := hw2 ▸ below_alloc w1 _
  have x2 : w2.heap[w1.heap.size]? = some (.cells #[.int .i64 (pa : Int), .int .i64 (pb : Int)] 29 (0, 0)) := by rw [hw2]; exact heap_alloc_new w1 _
  obtain ⟨kx, hkx⟩ : ∃ k, k = w.heap.size := ⟨_, rfl⟩
  obtain ⟨ky, hky⟩ : ∃ k, k = w1.heap.size := ⟨_, rfl⟩
  rw [← hky] at x2
  rw [← hkx] at x1
  have X1 : Hid (w2.heap[kx]? = some (.cells #[.int .i64 kd, .int .i64 who, .int .i64 what, .int .i64 y] 69 (0, 0))) := (B2.block kx (lt_of_block x1)).trans x1
  have X2 := hide x2
  have H2 := hide (h.later (below_on B1 B2))
  have hsw : w.heap.size ≤ w1.heap.size := B1.size
  have HK : Hid (∀ W, Below w2.heap.size w2 W → ∀ g1 f1 C' w', Fd W (rel (rel own w 0) w2 0) gw N g1 f1 C' w' → Hid (Fd w own gw N g1 f1 C' w') ∧ w'.cell? ⟨kx, 2, none⟩ = some (.int .i64 what) ∧ w'.cell? ⟨kx, 3, none⟩ = some (.int .i64 y) ∧ w'.cell? ⟨ky, 0, none⟩ = some (.int .i64 (pa : Int)) ∧ w'.cell? ⟨ky, 1, none⟩ = some (.int .i64 (pb : Int))) := fun W hW g1 f1 C' w' hd => by
    obtain ⟨own', r1, r2⟩ := hd
    have e1 := wk_at r2 ((hW.block kx (lt_of_block X1.out)).trans X1.out) ((rel_old (lt_of_block X1.out)).trans (rel_new (by omega)))
    have e2 := wk_at r2 ((hW.block ky (lt_of_block X2.out)).trans X2.out) ((rel_old (lt_of_block X2.out)).trans (rel_new (by omega)))
    obtain ⟨-, -, z2, z3⟩ := box4 e1.1 (Below.refl _ w')
    obtain ⟨z4, z5⟩ := kx_cells e2.1 (Below.refl _ w')
    exact ⟨⟨own', r1, ((Wk.later (below_on B1 B2)).trans (Wk.later hW)).trans r2⟩, z2, z3, z4, z5⟩
  clear h hal hA hA1 hc1 hi B1 B2 x2
  obtain ⟨b0, b1, -, -⟩ := box4 x1 (Below.refl _ w1)
  obtain ⟨a0, -, a2, a3⟩ := box4 X1.out (Below.refl _ w2)
  obtain ⟨a4, a5⟩ := kx_cells X2.out (Below.refl _ w2)
  clear x1
  have J9 : Hid (∀ W, Below w2.heap.size w2 W → Calls Tryz.prog 31 #[.pointer (some ⟨gw, 0, none⟩), .agg #[.int .i64 (pa : Int), .int .i64 (pb : Int)]] W fun e w' => e = .returned (.int .i64 (desF gs fr C ((pa : Int), (pb : Int))).1) ∧ Hid (Fd w own gw N (desF gs fr C ((pa : Int), (pb : Int))).2.1 (desF gs fr C ((pa : Int), (pb : Int))).2.2.1 (desF gs fr C ((pa : Int), (pb : Int))).2.2.2 w')) := fun W hW => by
    refine ((H2.out.later hW).desFn hN pa pb).mono ?_
    rintro e w' ⟨rfl, hd⟩
    obtain ⟨q1, q2, q3, q4⟩ := HK.out W hW _ _ _ _ hd
    exact ⟨rfl, q1⟩
  clear hnA h3 h4 X1 X2 H2 HK hsw hap hpk hkd hkd2
  generalize (desF gs fr C ((pa : Int), (pb : Int))).1 = zz at *
  generalize (desF gs fr C ((pa : Int), (pb : Int))).2.1 = g7 at *
  generalize (desF gs fr C ((pa : Int), (pb : Int))).2.2.1 = f7 at *
  generalize (desF gs fr C ((pa : Int), (pb : Int))).2.2.2 = CC at *
  go_enter Tryz.func21, Tryz.ntmps21
  go_upto_region 1 with fail
  rw [← hw1, ← hkx]
  clear hw1 hkx
  have HKY := hide hky
  have HW2 := hide hw2
  clear hky hw2
  have t0 : ¬ (n : Int) = 0 := by omega
  have t00 : ((n : Int) == 0) = false := by rw [beq_eq_false_iff_ne]; exact t0
  have t1 : (i : Int) < (n : Int) := by omega
  have t2 : (0 : Int) ≤ (i : Int) := by omega
  go_wp2_with fail
  refine (J5.out _).mono ?_
  rintro e w5 ⟨rfl, h5⟩
  rw [h5]
  clear h5 w5
  go_wp2_with fail
  refine (JW.out _).mono ?_
  rintro e w5 ⟨rfl, h5⟩
  rw [h5]
  clear h5 w5
  go_upto_region 7 with fail
  rw [← HW2.out, ← HKY.out]
  clear HW2 HKY y1 y2 b0 b1
  go_wp2_with fail
  refine (J5.out _).mono ?_
  rintro e w5 ⟨rfl, h5⟩
  rw [h5]
  clear h5 w5
  go_wp2_with fail
  refine (J9.out _ (Below.refl _ _)).mono ?_
  rintro e w6 ⟨rfl, HD⟩
  go_wp2_with fail
  go_ret2
  exact ⟨rfl, HD.out⟩
end
end Go.Proofs.YtafmiolehlagkaaGreat

/-
  World: does where one comes.
-/
namespace Go.Proofs.YtafmiolehlagkaaGreat
open Go.RowKit
set_option maxRecDepth 100000
/-- One may have come: the list of all may have been written behind its end. -/
def Sp (w : World) (own : Nat → Nat) (gw N B : Nat) (v : Value) (gs fr : List Nat) (C : Co) (A : List (Nat × Nat)) (v' : Value) (w' : World) : Prop :=
  ∃ own', Wn w' own' gw (N + 4) usualK gs fr C ∧ (∀ k, k < w.heap.size → own' k = own k) ∧ Mv w w' (fun k => (own k ≠ 0 ∧ own k ≠ 2) ∨ v.ownBlock = some k) ∧ w'.ownsRow B 29 2 v' A.length (ec A) ∧ (∀ k, v'.ownBlock = some k → own' k = 0) ∧ (v'.ownBlock = v.ownBlock ∨ ∀ k, v'.ownBlock = some k → w.heap.size ≤ k)
section
variable {w : World} {own : Nat → Nat} {gw N : Nat} {gs fr : List Nat} {C : Co}
theorem sp_more {w4 w5 w9 : World} {own4 : Nat → Nat} {gs' fr' : List Nat} {C' : Co} {A : List (Nat × Nat)} {B : Nat} {v v9 : Value} {p : Nat × Nat} {o : Obj} (_hB : B ≤ w.heap.size) (hA : w.ownsRow B 29 2 v A.length (ec A)) (hA0 : ∀ k, v.ownBlock = some k → own k = 0) (q1 : Wn w4 own4 gw (N + 3) usualK gs' fr' C') (q2 : Wk own own4 w w4) (hb5 : Below w4.heap.size w4 w5) (k1 : w9.ownsRow B 29 2 v9 (A.length + 1) (ec A ++ [.int .i64 (p.1 : Int), .int .i64 (p.2 : Int)])) (k2 : (w5.alloc o).grownBy w9 v.ownBlock) (k3 : v9.ownBlock = v.ownBlock ∨ v9.ownBlock = some (w5.heap.size + 1)) : Sp w own gw N B v gs' fr' C' (A ++ [p]) v9 w9 := by
  have hm : Mv w4 w9 (fun k => v.ownBlock = some k) := ((Mv.of_below hb5 (fun k => v.ownBlock = some k)).alloc o).grown k2 (fun k _ e => e)
  have s4 := q2.2.size
  have s5 := hb5.size
  refine ⟨rel own4 w4 0, (q1.frame hm (fun k hk e => ?_)).up (by omega), fun k hk => (rel_old (by omega)).trans (q2.1 k hk), ?_, ?_, fun k e => ?_, ?_⟩
  · have := (hA.lt k e).2
    rw [q2.1 k this]
    exact hA0 k e
  · exact (q2.2.mono (fun _ _ e => .inl e)).trans hm (fun k _ e => .inr e)
  · rw [List.length_append, ec_append]
    exact k1
  · rcases k3 with c | c
    · rw [c] at e
      have := (hA.lt k e).2
      rw [rel_old (by omega), q2.1 k this]
      exact hA0 k e
    · rw [c] at e
      simp only [Option.some.injEq] at e
      exact rel_new (by omega)
  · rcases k3 with c | c
    · exact .inl c
    · refine .inr (fun k e => ?_)
      rw [c] at e
      simp only [Option.some.injEq] at e
      omega
set_option maxHeartbeats 8000000 in
theorem does0_room (h : Wn w own gw N usualK gs fr C) (hN : N ≤ 800000) (hroom : fr ≠ [] ∨ gs.length < 200) (A : List (Nat × Nat)) (B : Nat) (v : Value) (hA : w.ownsRow B 29 2 v A.length (ec A)) (hn : A.length ≤ 1000) (hB : B ≤ w.heap.size) (hA0 : ∀ k, v.ownBlock = some k → own k = 0) (kd who what y : Int) (h1 : -9223372036854775808 ≤ kd) (h2 : kd ≤ 9223372036854775807) (h5 : -9223372036854775808 ≤ what) (h6 : what ≤ 9223372036854775807) (hx : pk kd 5 = 0) :
    Calls Tryz.prog 21 #[.pointer (some ⟨gw, 0, none⟩), v, .agg #[.int .i64 kd, .int .i64 who, .int .i64 what, .int .i64 y]] w fun e w' => ∃ v', e = .returned (.tuple #[v', .int .i64 0]) ∧ Sp w own gw N B v (takeG gs fr) (takeF fr) (spC gs fr C (pk what 4) y) (A ++ [takeE gs fr]) v' w' := by
  obtain ⟨i29, hi29, hy0, hy1, hy2⟩ := info_parts info32
  obtain ⟨ag, cg, rfl⟩ := own_len hA
  obtain ⟨n, hnn⟩ : ∃ n, n = A.length := ⟨_, rfl⟩
  have HNN := hide hnn
  rw [← hnn] at hA hA0 hn ⊢
  obtain ⟨w1, hw1⟩ : ∃ X, X = w.alloc (.cells #[.int .i64 kd, .int .i64 who, .int .i64 what, .int .i64 y] 69) := ⟨_, rfl⟩
  have B1 : Hid (Below w.heap.size w w1) := hw1 ▸ below_alloc w _
  have x1 : w1.heap[w.heap.size]? = some (.cells #[.int .i64 kd, .int .i64 who, .int .i64 what, .int .i64 y] 69 (0, 0)) := by rw [hw1]; exact heap_alloc_new w _
  obtain ⟨kx, hkx⟩ : ∃ k, k = w.heap.size := ⟨_, rfl⟩
  rw [← hkx] at x1
  obtain ⟨b0, -, b2, b3⟩ := box4 x1 (Below.refl _ w1)
  have J5 : Hid (Calls Tryz.prog 16 #[.int .i64 kd, .int .i64 5] w1 fun e w' => e = .returned (.int .i64 0) ∧ w' = w1) := by
    have := pick_any kd 5 w1 h1 h2 (by omega) (by omega)
    rw [hx] at this
    exact this
  have JPt := hide (part_any what y w1 h5 h6)
  have hk4 : pk what 4 < 4 := pk_lt what (by omega)
  generalize pk what 4 = kk at *
  have H := hide h
  have HR := hide hroom
  have HA := hide (And.intro hA (And.intro hB hA0))
  clear h hroom x1 h1 h2 h5 h6 hx hA hB hA0
  clear hnn
  obtain ⟨⟨pa, pb⟩, hpq⟩ : ∃ q, q = takeE gs fr := ⟨_, rfl⟩
  obtain ⟨CC, hCC⟩ : ∃ c, c = spC gs fr C kk y := ⟨_, rfl⟩
  rw [← hpq, ← hCC]
  have HPQ := hide hpq
  have HCC := hide hCC
  clear hpq hCC
  go_enter Tryz.func21, Tryz.ntmps21
  go_upto_region 1 with fail
  rw [← hw1, ← hkx]
  clear hw1 hkx
  go_wp2_with fail
  refine J5.out.mono ?_
  rintro e w5 ⟨rfl, h5⟩
  rw [h5]
  clear h5 w5 J5
  go_wp2_with fail
  refine JPt.out.mono ?_
  rintro e w2 ⟨vp, rfl, ho2, hb2⟩
  obtain ⟨ap, np, cp, rfl⟩ := own_slice ho2
  obtain ⟨w3, hw3⟩ : ∃ X, X = w2.alloc (.cells #[.int .i64 ((kk : Int) + 1), .slice ap np cp] 32) := ⟨_, rfl⟩
  have JS := hide (H.out.spawn_oneF hN HR.out (below_on B1.out hb2) kk hk4 y ap np cp (own_lower ho2 B1.out.size) hw3)
  clear ho2 hb2 JPt H HR
  rw [← HPQ.out, ← HCC.out] at JS
  clear HPQ HCC
  dsimp only at JS
  go_wp2_with fail
  rw [← hw3]
  refine JS.out.mono ?_
  rintro e w4 ⟨rfl, own4, q1, q2⟩
  have HX4 := hide (And.intro q1 q2)
  clear q1 q2
  obtain ⟨w5, hw5⟩ : ∃ X, X = w4.alloc (.cells #[.int .i64 (pa : Int), .int .i64 (pb : Int)] 29) := ⟨_, rfl⟩
  have x5 : w5.heap[w4.heap.size]? = some (.cells #[.int .i64 (pa : Int), .int .i64 (pb : Int)] 29 (0, 0)) := by
    rw [hw5]
    exact heap_alloc_new w4 _
  have B5 : Hid (Below w4.heap.size w4 w5) := hw5 ▸ below_alloc w4 _
  obtain ⟨ky, hky⟩ : ∃ k, k = w4.heap.size := ⟨_, rfl⟩
  rw [← hky] at x5
  obtain ⟨z1, z2⟩ := kx_cells x5 (Below.refl _ w5)
  have HSZ : Hid (B ≤ w5.heap.size + 1) := by
    have q1 := HX4.out.2.2.size
    have q2 := B5.out.size
    have q3 := HA.out.2.1
    show _ ≤ _
    omega
  have HO : Hid ((w5.alloc (.cells #[.int .i64 (pa : Int), .int .i64 (pb : Int)] 29)).ownsRow B 29 2 (.slice ag n cg) n (ec A)) := by
    have := HA.out.1
    exact own_later (own_later (HX4.out.2.mv.own this (fun k e e2 => e2 (HA.out.2.2 k e))) B5.out) (below_alloc w5 _)
  have HF : Hid (∀ (v9 : Value) (w9 : World), w9.ownsRow B 29 2 v9 (n + 1) (ec A ++ [.int .i64 (pa : Int), .int .i64 (pb : Int)]) → (w5.alloc (.cells #[.int .i64 (pa : Int), .int .i64 (pb : Int)] 29)).grownBy w9 (Value.slice ag n cg).ownBlock → (v9.ownBlock = (Value.slice ag n cg).ownBlock ∨ v9.ownBlock = some (w5.heap.size + 1)) → Sp w own gw N B (.slice ag n cg) (takeG gs fr) (takeF fr) CC (A ++ [(pa, pb)]) v9 w9) := fun v9 w9 k1 k2 k3 => by
    have e := HNN.out
    subst e
    exact sp_more HA.out.2.1 HA.out.1 HA.out.2.2 HX4.out.1 HX4.out.2 B5.out k1 k2 k3
  clear HX4 JS hw3 B5 x5 b0 b2 b3
  go_upto_region 3 with fail
  rw [← hw5, ← hky]
  clear hw5 hky
  go_wp2_with (at_builtin; refine wpList_append_own_at _ rfl _ _ 39 rfl B 29 i29 (.agg #[.int .i64 0, .int .i64 0]) 2 16 Tryz.underlying39 hi29 hy0 hy1 hy2 rfl (by decide) _ n (ec A) rfl HO.out ⟨w5.heap.size, 0, none⟩ 1 1 [.int .i64 (pa : Int), .int .i64 (pb : Int)] rfl rfl ?n1 ?n2 ?n3 ?n4 ?n5 ?_)
  case n1 =>
    intro j u hj
    match j, hj with
    | 0, hj => simp at hj; subst hj; simp [Addr.add]
    | 1, hj => simp at hj; subst hj; simp [Addr.add]
  case n2 => first | exact ⟨rfl, rfl⟩ | (intro u hu; simp at hu; rcases hu with rfl | rfl <;> rfl)
  case n3 => unfold maxLen; omega
  case n4 => omega
  case n5 => first | exact HSZ.out | (simp; exact HSZ.out)
  intro v9 w9 ho9 hg9 _ ha9
  have H9 := hide (HF.out v9 w9 ho9 hg9 (by simpa using ha9))
  obtain ⟨a9, c9, rfl⟩ := own_len ho9
  clear ho9 hg9 ha9 HF HO HSZ z1 z2
  go_wp2_with fail
  go_ret2
  exact ⟨_, rfl, H9.out⟩
set_option maxHeartbeats 8000000 in
theorem does0_full (h : Wn w own gw N usualK gs fr C) (_hN : N ≤ 800000) (hroom : ¬ (fr ≠ [] ∨ gs.length < 200)) (A : List (Nat × Nat)) (B : Nat) (v : Value) (hA : w.ownsRow B 29 2 v A.length (ec A)) (_hn : A.length ≤ 1000) (hB : B ≤ w.heap.size) (hA0 : ∀ k, v.ownBlock = some k → own k = 0) (kd who what y : Int) (h1 : -9223372036854775808 ≤ kd) (h2 : kd ≤ 9223372036854775807) (h5 : -9223372036854775808 ≤ what) (h6 : what ≤ 9223372036854775807) (hx : pk kd 5 = 0) :
    Calls Tryz.prog 21 #[.pointer (some ⟨gw, 0, none⟩), v, .agg #[.int .i64 kd, .int .i64 who, .int .i64 what, .int .i64 y]] w fun e w' => e = .returned (.tuple #[v, .int .i64 40]) ∧ Fd w own gw N gs fr C w' := by
  obtain ⟨i29, hi29, hy0, hy1, hy2⟩ := info_parts info32
  obtain ⟨ag, cg, rfl⟩ := own_len hA
  obtain ⟨n, hnn⟩ : ∃ n, n = A.length := ⟨_, rfl⟩
  have HNN := hide hnn
  rw [← hnn] at hA hA0 ⊢
  obtain ⟨w1, hw1⟩ : ∃ X, X = w.alloc (.cells #[.int .i64 kd, .int .i64 who, .int .i64 what, .int .i64 y] 69) := ⟨_, rfl⟩
  have B1 : Hid (Below w.heap.size w w1) := hw1 ▸ below_alloc w _
  have x1 : w1.heap[w.heap.size]? = some (.cells #[.int .i64 kd, .int .i64 who, .int .i64 what, .int .i64 y] 69 (0, 0)) := by rw [hw1]; exact heap_alloc_new w _
  obtain ⟨kx, hkx⟩ : ∃ k, k = w.heap.size := ⟨_, rfl⟩
  rw [← hkx] at x1
  obtain ⟨b0, -, b2, b3⟩ := box4 x1 (Below.refl _ w1)
  have J5 : Hid (Calls Tryz.prog 16 #[.int .i64 kd, .int .i64 5] w1 fun e w' => e = .returned (.int .i64 0) ∧ w' = w1) := by
    have := pick_any kd 5 w1 h1 h2 (by omega) (by omega)
    rw [hx] at this
    exact this
  have JPt := hide (part_any what y w1 h5 h6)
  have hk4 : pk what 4 < 4 := pk_lt what (by omega)
  generalize pk what 4 = kk at *
  have H := hide h
  have HR := hide hroom
  have HA := hide (And.intro hA (And.intro hB hA0))
  clear h hroom x1 h1 h2 h5 h6 hx hA hB hA0
  clear hnn
  go_enter Tryz.func21, Tryz.ntmps21
  go_upto_region 1 with fail
  rw [← hw1, ← hkx]
  clear hw1 hkx
  go_wp2_with fail
  refine J5.out.mono ?_
  rintro e w5 ⟨rfl, h5⟩
  rw [h5]
  clear h5 w5 J5
  go_wp2_with fail
  refine JPt.out.mono ?_
  rintro e w2 ⟨vp, rfl, ho2, hb2⟩
  obtain ⟨ap, np, cp, rfl⟩ := own_slice ho2
  obtain ⟨w3, hw3⟩ : ∃ X, X = w2.alloc (.cells #[.int .i64 ((kk : Int) + 1), .slice ap np cp] 32) := ⟨_, rfl⟩
  have JS := hide (H.out.spawn_noneF HR.out (below_on B1.out hb2) kk hk4 ap np cp (by obtain ⟨x, z, e⟩ := own_len ho2; simp only [Value.slice.injEq] at e; exact e.2.1) hw3)
  clear ho2 hb2 JPt H HR
  unfold ev at JS
  go_wp2_with fail
  rw [← hw3]
  refine JS.out.mono ?_
  rintro e w4 ⟨rfl, own4, q1, q2⟩
  have HX4 := hide (And.intro q1 q2)
  clear q1 q2
  go_wp2_with fail
  go_ret2
  exact ⟨rfl, _, (HX4.out.1.later (below_alloc w4 _)).up (by omega), HX4.out.2.trans (Wk.later (below_alloc w4 _))⟩
set_option maxHeartbeats 8000000 in
theorem does0_roomE (h : Wn w own gw N usualK gs fr C) (hN : N ≤ 800000) (hroom : fr ≠ [] ∨ gs.length < 200) (A : List (Nat × Nat)) (B : Nat) (v : Value) (hA : w.ownsRow B 29 2 v A.length (ec A)) (hn : A.length ≤ 1000) (hB : B ≤ w.heap.size) (hA0 : ∀ k, v.ownBlock = some k → own k = 0) (kd who what y : Int) (h1 : -9223372036854775808 ≤ kd) (h2 : kd ≤ 9223372036854775807) (h5 : -9223372036854775808 ≤ what) (h6 : what ≤ 9223372036854775807) (hx : pk kd 5 ≠ 0) (hA00 : A.length = 0) :
    Calls Tryz.prog 21 #[.pointer (some ⟨gw, 0, none⟩), v, .agg #[.int .i64 kd, .int .i64 who, .int .i64 what, .int .i64 y]] w fun e w' => ∃ v', e = .returned (.tuple #[v', .int .i64 0]) ∧ Sp w own gw N B v (takeG gs fr) (takeF fr) (spC gs fr C (pk what 4) y) (A ++ [takeE gs fr]) v' w' := by
  obtain ⟨i29, hi29, hy0, hy1, hy2⟩ := info_parts info32
  obtain ⟨ag, cg, rfl⟩ := own_len hA
  obtain ⟨n, hnn⟩ : ∃ n, n = A.length := ⟨_, rfl⟩
  have HNN := hide hnn
  rw [← hnn] at hA hA0 hn ⊢
  obtain ⟨w1, hw1⟩ : ∃ X, X = w.alloc (.cells #[.int .i64 kd, .int .i64 who, .int .i64 what, .int .i64 y] 69) := ⟨_, rfl⟩
  have B1 : Hid (Below w.heap.size w w1) := hw1 ▸ below_alloc w _
  have x1 : w1.heap[w.heap.size]? = some (.cells #[.int .i64 kd, .int .i64 who, .int .i64 what, .int .i64 y] 69 (0, 0)) := by rw [hw1]; exact heap_alloc_new w _
  obtain ⟨kx, hkx⟩ : ∃ k, k = w.heap.size := ⟨_, rfl⟩
  rw [← hkx] at x1
  obtain ⟨b0, -, b2, b3⟩ := box4 x1 (Below.refl _ w1)
  have J5 := hide (pick_any kd 5 w1 h1 h2 (by omega) (by omega))
  have t5 : ((pk kd 5 : Int) == 0) = false := by rw [beq_eq_false_iff_ne]; omega
  generalize pk kd 5 = x at *
  have t6 : (n : Int) = 0 := by omega
  have JPt := hide (part_any what y w1 h5 h6)
  have hk4 : pk what 4 < 4 := pk_lt what (by omega)
  generalize pk what 4 = kk at *
  have H := hide h
  have HR := hide hroom
  have HA := hide (And.intro hA (And.intro hB hA0))
  clear h hroom x1 h1 h2 h5 h6 hx hA hB hA0
  clear hnn
  obtain ⟨⟨pa, pb⟩, hpq⟩ : ∃ q, q = takeE gs fr := ⟨_, rfl⟩
  obtain ⟨CC, hCC⟩ : ∃ c, c = spC gs fr C kk y := ⟨_, rfl⟩
  rw [← hpq, ← hCC]
  have HPQ := hide hpq
  have HCC := hide hCC
  clear hpq hCC
  go_enter Tryz.func21, Tryz.ntmps21
  go_upto_region 1 with fail
  rw [← hw1, ← hkx]
  clear hw1 hkx
  go_wp2_with fail
  refine J5.out.mono ?_
  rintro e w5 ⟨rfl, h5⟩
  rw [h5]
  clear h5 w5 J5
  go_wp2_with fail
  refine JPt.out.mono ?_
  rintro e w2 ⟨vp, rfl, ho2, hb2⟩
  obtain ⟨ap, np, cp, rfl⟩ := own_slice ho2
  obtain ⟨w3, hw3⟩ : ∃ X, X = w2.alloc (.cells #[.int .i64 ((kk : Int) + 1), .slice ap np cp] 32) := ⟨_, rfl⟩
  have JS := hide (H.out.spawn_oneF hN HR.out (below_on B1.out hb2) kk hk4 y ap np cp (own_lower ho2 B1.out.size) hw3)
  clear ho2 hb2 JPt H HR
  rw [← HPQ.out, ← HCC.out] at JS
  clear HPQ HCC
  dsimp only at JS
  go_wp2_with fail
  rw [← hw3]
  refine JS.out.mono ?_
  rintro e w4 ⟨rfl, own4, q1, q2⟩
  have HX4 := hide (And.intro q1 q2)
  clear q1 q2
  obtain ⟨w5, hw5⟩ : ∃ X, X = w4.alloc (.cells #[.int .i64 (pa : Int), .int .i64 (pb : Int)] 29) := ⟨_, rfl⟩
  have x5 : w5.heap[w4.heap.size]? = some (.cells #[.int .i64 (pa : Int), .int .i64 (pb : Int)] 29 (0, 0)) := by
    rw [hw5]
    exact heap_alloc_new w4 _
  have B5 : Hid (Below w4.heap.size w4 w5) := hw5 ▸ below_alloc w4 _
  obtain ⟨ky, hky⟩ : ∃ k, k = w4.heap.size := ⟨_, rfl⟩
  rw [← hky] at x5
  obtain ⟨z1, z2⟩ := kx_cells x5 (Below.refl _ w5)
  have HSZ : Hid (B ≤ w5.heap.size + 1) := by
    have q1 := HX4.out.2.2.size
    have q2 := B5.out.size
    have q3 := HA.out.2.1
    show _ ≤ _
    omega
  have HO : Hid ((w5.alloc (.cells #[.int .i64 (pa : Int), .int .i64 (pb : Int)] 29)).ownsRow B 29 2 (.slice ag n cg) n (ec A)) := by
    have := HA.out.1
    exact own_later (own_later (HX4.out.2.mv.own this (fun k e e2 => e2 (HA.out.2.2 k e))) B5.out) (below_alloc w5 _)
  have HF : Hid (∀ (v9 : Value) (w9 : World), w9.ownsRow B 29 2 v9 (n + 1) (ec A ++ [.int .i64 (pa : Int), .int .i64 (pb : Int)]) → (w5.alloc (.cells #[.int .i64 (pa : Int), .int .i64 (pb : Int)] 29)).grownBy w9 (Value.slice ag n cg).ownBlock → (v9.ownBlock = (Value.slice ag n cg).ownBlock ∨ v9.ownBlock = some (w5.heap.size + 1)) → Sp w own gw N B (.slice ag n cg) (takeG gs fr) (takeF fr) CC (A ++ [(pa, pb)]) v9 w9) := fun v9 w9 k1 k2 k3 => by
    have e := HNN.out
    subst e
    exact sp_more HA.out.2.1 HA.out.1 HA.out.2.2 HX4.out.1 HX4.out.2 B5.out k1 k2 k3
  clear HX4 JS hw3 B5 x5 b0 b2 b3
  go_upto_region 3 with fail
  rw [← hw5, ← hky]
  clear hw5 hky
  go_wp2_with (at_builtin; refine wpList_append_own_at _ rfl _ _ 39 rfl B 29 i29 (.agg #[.int .i64 0, .int .i64 0]) 2 16 Tryz.underlying39 hi29 hy0 hy1 hy2 rfl (by decide) _ n (ec A) rfl HO.out ⟨w5.heap.size, 0, none⟩ 1 1 [.int .i64 (pa : Int), .int .i64 (pb : Int)] rfl rfl ?n1 ?n2 ?n3 ?n4 ?n5 ?_)
  case n1 =>
    intro j u hj
    match j, hj with
    | 0, hj => simp at hj; subst hj; simp [Addr.add]
    | 1, hj => simp at hj; subst hj; simp [Addr.add]
  case n2 => first | exact ⟨rfl, rfl⟩ | (intro u hu; simp at hu; rcases hu with rfl | rfl <;> rfl)
  case n3 => unfold maxLen; omega
  case n4 => omega
  case n5 => first | exact HSZ.out | (simp; exact HSZ.out)
  intro v9 w9 ho9 hg9 _ ha9
  have H9 := hide (HF.out v9 w9 ho9 hg9 (by simpa using ha9))
  obtain ⟨a9, c9, rfl⟩ := own_len ho9
  clear ho9 hg9 ha9 HF HO HSZ z1 z2
  go_wp2_with fail
  go_ret2
  exact ⟨_, rfl, H9.out⟩
set_option maxHeartbeats 8000000 in
theorem does0_fullE (h : Wn w own gw N usualK gs fr C) (_hN : N ≤ 800000) (hroom : ¬ (fr ≠ [] ∨ gs.length < 200)) (A : List (Nat × Nat)) (B : Nat) (v : Value) (hA : w.ownsRow B 29 2 v A.length (ec A)) (_hn : A.length ≤ 1000) (hB : B ≤ w.heap.size) (hA0 : ∀ k, v.ownBlock = some k → own k = 0) (kd who what y : Int) (h1 : -9223372036854775808 ≤ kd) (h2 : kd ≤ 9223372036854775807) (h5 : -9223372036854775808 ≤ what) (h6 : what ≤ 9223372036854775807) (hx : pk kd 5 ≠ 0) (hA00 : A.length = 0) :
    Calls Tryz.prog 21 #[.pointer (some ⟨gw, 0, none⟩), v, .agg #[.int .i64 kd, .int .i64 who, .int .i64 what, .int .i64 y]] w fun e w' => e = .returned (.tuple #[v, .int .i64 40]) ∧ Fd w own gw N gs fr C w' := by
  obtain ⟨i29, hi29, hy0, hy1, hy2⟩ := info_parts info32
  obtain ⟨ag, cg, rfl⟩ := own_len hA
  obtain ⟨n, hnn⟩ : ∃ n, n = A.length := ⟨_, rfl⟩
  have HNN := hide hnn
  rw [← hnn] at hA hA0 ⊢
  obtain ⟨w1, hw1⟩ : ∃ X, X = w.alloc (.cells #[.int .i64 kd, .int .i64 who, .int .i64 what, .int .i64 y] 69) := ⟨_, rfl⟩
  have B1 : Hid (Below w.heap.size w w1) := hw1 ▸ below_alloc w _
  have x1 : w1.heap[w.heap.size]? = some (.cells #[.int .i64 kd, .int .i64 who, .int .i64 what, .int .i64 y] 69 (0, 0)) := by rw [hw1]; exact heap_alloc_new w _
  obtain ⟨kx, hkx⟩ : ∃ k, k = w.heap.size := ⟨_, rfl⟩
  rw [← hkx] at x1
  obtain ⟨b0, -, b2, b3⟩ := box4 x1 (Below.refl _ w1)
  have J5 := hide (pick_any kd 5 w1 h1 h2 (by omega) (by omega))
  have t5 : ((pk kd 5 : Int) == 0) = false := by rw [beq_eq_false_iff_ne]; omega
  generalize pk kd 5 = x at *
  have t6 : (n : Int) = 0 := by omega
  have JPt := hide (part_any what y w1 h5 h6)
  have hk4 : pk what 4 < 4 := pk_lt what (by omega)
  generalize pk what 4 = kk at *
  have H := hide h
  have HR := hide hroom
  have HA := hide (And.intro hA (And.intro hB hA0))
  clear h hroom x1 h1 h2 h5 h6 hx hA hB hA0
  clear hnn
  go_enter Tryz.func21, Tryz.ntmps21
  go_upto_region 1 with fail
  rw [← hw1, ← hkx]
  clear hw1 hkx
  go_wp2_with fail
  refine J5.out.mono ?_
  rintro e w5 ⟨rfl, h5⟩
  rw [h5]
  clear h5 w5 J5
  go_wp2_with fail
  refine JPt.out.mono ?_
  rintro e w2 ⟨vp, rfl, ho2, hb2⟩
  obtain ⟨ap, np, cp, rfl⟩ := own_slice ho2
  obtain ⟨w3, hw3⟩ : ∃ X, X = w2.alloc (.cells #[.int .i64 ((kk : Int) + 1), .slice ap np cp] 32) := ⟨_, rfl⟩
  have JS := hide (H.out.spawn_noneF HR.out (below_on B1.out hb2) kk hk4 ap np cp (by obtain ⟨x, z, e⟩ := own_len ho2; simp only [Value.slice.injEq] at e; exact e.2.1) hw3)
  clear ho2 hb2 JPt H HR
  unfold ev at JS
  go_wp2_with fail
  rw [← hw3]
  refine JS.out.mono ?_
  rintro e w4 ⟨rfl, own4, q1, q2⟩
  have HX4 := hide (And.intro q1 q2)
  clear q1 q2
  go_wp2_with fail
  go_ret2
  exact ⟨rfl, _, (HX4.out.1.later (below_alloc w4 _)).up (by omega), HX4.out.2.trans (Wk.later (below_alloc w4 _))⟩
end
end Go.Proofs.YtafmiolehlagkaaGreat
