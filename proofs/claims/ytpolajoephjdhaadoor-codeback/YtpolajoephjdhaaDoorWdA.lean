/-
  A list of routines: its cells, a copy of it.
-/
import Derived.Test.YtpolajoephjdhaaDoorShD
namespace Go.Proofs.YtpolajoephjdhaaDoor
open Go.RowKit
set_option maxRecDepth 100000
theorem rtsC_len : ∀ lf : List (Rt × Value), (rtsC lf).length = lf.length * 4
  | [] => rfl
  | p :: lf => by
    have := rtsC_len lf
    simp only [rtsC, List.flatMap_cons, List.length_append, List.length_cons] at *
    simp only [rvC, List.length_cons, List.length_nil]
    omega
theorem rtsC_at : ∀ (lf : List (Rt × Value)) (k : Nat) (h : k < lf.length), (rtsC lf)[k * 4]? = some (.string lf[k].1.name) ∧ (rtsC lf)[k * 4 + 1]? = some (.int .i64 lf[k].1.pa) ∧ (rtsC lf)[k * 4 + 2]? = some (.int .i64 lf[k].1.lo) ∧ (rtsC lf)[k * 4 + 3]? = some lf[k].2
  | p :: lf, 0, _ => ⟨rfl, rfl, rfl, rfl⟩
  | p :: lf, k + 1, h => by
    have e : rtsC (p :: lf) = rvC p ++ rtsC lf := rfl
    have l : (rvC p).length = 4 := rfl
    have := rtsC_at lf k (by simpa using h)
    rw [e]
    have g : ∀ j, (rvC p ++ rtsC lf)[(k + 1) * 4 + j]? = (rtsC lf)[k * 4 + j]? := fun j => by
      rw [List.getElem?_append_right (by omega), l]
      congr 1
      omega
    exact ⟨(g 0).trans this.1, (g 1).trans this.2.1, (g 2).trans this.2.2.1, (g 3).trans this.2.2.2⟩
def setPa (p : Rt × Value) (x : Int) : Rt × Value := (⟨p.1.name, x, p.1.lo, p.1.code⟩, p.2)
theorem rtsC_set : ∀ (lf : List (Rt × Value)) (k : Nat) (q : Rt × Value) (_ : lf[k]? = some q) (x : Int), rtsC (lf.set k (setPa q x)) = (rtsC lf).set (k * 4 + 1) (.int .i64 x)
  | p :: lf, 0, q, h, x => by
    obtain rfl : p = q := by simpa using h
    rfl
  | p :: lf, k + 1, q, h, x => by
    have e : rtsC (p :: lf) = rvC p ++ rtsC lf := rfl
    have l : (rvC p).length = 4 := rfl
    have := rtsC_set lf k q (by simpa using h) x
    rw [List.set_cons_succ, e, show rtsC (p :: lf.set k (setPa q x)) = rvC p ++ rtsC (lf.set k (setPa q x)) from rfl, this, List.set_append_right _ _ (by omega), l]
    congr 2
    omega
def RtsV (Q : Nat → Prop) (W : World) (lf : List (Rt × Value)) : Prop := ∀ p ∈ lf, I6 p.1.pa ∧ I6 p.1.lo ∧ Il Q W p.2 p.1.code
theorem RtsV.mv {Q S : Nat → Prop} {W W' : World} {lf : List (Rt × Value)} (h : RtsV Q W lf) (hm : Mv W W' S) (hs : ∀ j, Q j → ¬ S j) : RtsV Q W' lf := fun p hp => ⟨(h p hp).1, (h p hp).2.1, (h p hp).2.2.mv hm hs⟩
theorem RtsV.later {Q : Nat → Prop} {W W' : World} {lf : List (Rt × Value)} (h : RtsV Q W lf) (hb : Below W.heap.size W W') : RtsV Q W' lf := h.mv (Mv.of_below hb (fun _ => False)) (fun _ _ e => e)
theorem rtsC_one (lf : List (Rt × Value)) {Q : Nat → Prop} {W : World} (h : RtsV Q W lf) : ∀ u ∈ rtsC lf, u.oneCell' = true := by
  intro u hu
  obtain ⟨p, hp, hu⟩ := List.mem_flatMap.1 hu
  obtain ⟨-, -, ao, c, e, -⟩ := h p hp
  simp only [rvC, List.mem_cons, List.not_mem_nil, or_false] at hu
  rcases hu with rfl | rfl | rfl | rfl
  · rfl
  · rfl
  · rfl
  · rw [e]; rfl
/-- A list of routines, cell by cell. -/
theorem Rts.rows {Q : Nat → Prop} {W : World} {v : Value} {fs : List Rt} (h : Rts Q W v fs) : ∃ lf : List (Rt × Value), lf.map Prod.fst = fs ∧ RtsV Q W lf ∧ ∃ ao c, v = .slice ao fs.length c ∧ fs.length ≤ c ∧ c ≤ maxLen ∧ (0 < fs.length → ∃ g o, ao = some ⟨g, o, none⟩ ∧ Q g ∧ ∀ j u, (rtsC lf)[j]? = some u → W.cell? ⟨g, o + j, none⟩ = some u) := by
  obtain ⟨ao, c, rfl, h1, h2, h3⟩ := h
  by_cases h0 : 0 < fs.length
  · obtain ⟨g, o, rfl, hq, h4⟩ := h3 h0
    have key : ∀ n, n ≤ fs.length → ∃ lf : List (Rt × Value), lf.map Prod.fst = fs.take n ∧ RtsV Q W lf ∧ ∀ j u, (rtsC lf)[j]? = some u → W.cell? ⟨g, o + j, none⟩ = some u := by
      intro n
      induction n with
      | zero => exact fun _ => ⟨[], rfl, fun p hp => absurd hp (by simp), fun j u e => by simp [rtsC] at e⟩
      | succ n ih =>
        intro hn
        obtain ⟨lf, e1, e2, e3⟩ := ih (by omega)
        obtain ⟨i1, i2, vc, d0, d1, d2, d3, hil⟩ := h4 n (by omega)
        have hl : lf.length = n := by have := congrArg List.length e1; simp at this; omega
        refine ⟨lf ++ [(fs[n], vc)], ?_, ?_, ?_⟩
        · rw [List.map_append, e1, List.take_add_one, List.getElem?_eq_getElem (by omega)]; rfl
        · intro p hp
          rcases List.mem_append.1 hp with hp | hp
          · exact e2 p hp
          · obtain rfl : p = (fs[n], vc) := by simpa using hp
            exact ⟨i1, i2, hil⟩
        · intro j u hj
          have hc : rtsC (lf ++ [(fs[n], vc)]) = rtsC lf ++ rvC (fs[n], vc) := by simp [rtsC]
          rw [hc] at hj
          by_cases hlt : j < (rtsC lf).length
          · rw [List.getElem?_append_left hlt] at hj
            exact e3 j u hj
          · rw [List.getElem?_append_right (by omega)] at hj
            have hle := rtsC_len lf
            have hj4 : j - (rtsC lf).length < 4 := (List.getElem?_eq_some_iff.1 hj).1
            obtain ⟨t, ht⟩ : ∃ t, j = n * 4 + t := ⟨j - n * 4, by omega⟩
            have ht4 : j - (rtsC lf).length = t := by omega
            rw [ht4] at hj hj4
            subst ht
            match t, hj4 with
            | 0, _ => obtain rfl := Option.some.inj hj; exact d0
            | 1, _ => obtain rfl := Option.some.inj hj; exact d1
            | 2, _ => obtain rfl := Option.some.inj hj; exact d2
            | 3, _ => obtain rfl := Option.some.inj hj; exact d3
    obtain ⟨lf, e1, e2, e3⟩ := key fs.length (Nat.le_refl _)
    exact ⟨lf, by rw [e1, List.take_length], e2, _, _, rfl, h1, h2, fun _ => ⟨g, o, rfl, hq, e3⟩⟩
  · have : fs = [] := List.length_eq_zero_iff.1 (by omega)
    subst this
    exact ⟨[], rfl, fun p hp => absurd hp (by simp), _, _, rfl, h1, h2, fun h => absurd h h0⟩
theorem own_rts {Q : Nat → Prop} {W : World} {B : Nat} {v : Value} {lf : List (Rt × Value)} (h : W.ownsRow B 30 4 v lf.length (rtsC lf)) (hv : RtsV Q W lf) (hm : lf.length ≤ maxLen) : Rts (fun j => Q j ∨ (B ≤ j ∧ j < W.heap.size)) W v (lf.map Prod.fst) := by
  by_cases h0 : 0 < lf.length
  · have h' := h
    obtain ⟨-, ⟨rfl, e⟩ | ⟨g, cap, cur, rfl, hB, hg, h1, h2, -⟩⟩ := h
    · omega
    · refine ⟨_, _, by rw [List.length_map], by rw [List.length_map]; exact h1, h2, fun _ => ⟨g, 0, rfl, .inr ⟨hB, lt_of_block hg⟩, fun i hi => ?_⟩⟩
      rw [List.length_map] at hi
      have hc := fun j (hj : j < lf.length * 4) => h'.cellAt j hj
      obtain ⟨d0, d1, d2, d3⟩ := rtsC_at lf i hi
      obtain ⟨i1, i2, hil⟩ := hv lf[i] (List.getElem_mem hi)
      simp only [List.getElem_map, Nat.zero_add]
      exact ⟨i1, i2, lf[i].2, (hc _ (by omega)).trans d0, (hc _ (by omega)).trans d1, (hc _ (by omega)).trans d2, (hc _ (by omega)).trans d3, hil.mono (fun j e => .inl e)⟩
  · have : lf = [] := List.length_eq_zero_iff.1 (by omega)
    subst this
    obtain ⟨-, ⟨rfl, e⟩ | ⟨g, cap, cur, rfl, hB, hg, h1, h2, -⟩⟩ := h
    · exact ⟨_, _, rfl, Nat.le_refl _, Nat.zero_le _, fun h => absurd h (by simp)⟩
    · exact ⟨_, _, rfl, h1, h2, fun h => absurd h (by simp)⟩
end Go.Proofs.YtpolajoephjdhaaDoor
