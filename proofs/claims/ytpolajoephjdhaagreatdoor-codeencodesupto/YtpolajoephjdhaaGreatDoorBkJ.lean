/-
  A program that was read, as one that is handed in.
-/
import Derived.Test.YtpolajoephjdhaaGreatDoorBkM
namespace Go.Proofs.YtpolajoephjdhaaGreatDoor
open Go.RowKit
set_option maxRecDepth 100000
def Qt (_ : Nat) : Prop := True
theorem own_nl {W : World} {B : Nat} {v : Value} {l : List Int} (h : W.ownsRow B 3 1 v l.length (intC l)) (h6 : ∀ i ∈ l, I6 i) : Nl Qt W v l := by
  have h' := h
  obtain ⟨-, ⟨rfl, e⟩ | ⟨g, cap, cur, rfl, hB, hg, h1, h2, -⟩⟩ := h
  · exact ⟨none, 0, by rw [e], by omega, Nat.zero_le _, fun h => by omega⟩
  · refine ⟨_, _, rfl, h1, h2, fun _ => ⟨g, 0, rfl, trivial, fun i hi => ?_⟩⟩
    have hc := h'.cellAt i (by omega)
    have e : (intC l)[i]? = some (.int .i64 l[i]) := by unfold intC; rw [List.getElem?_map, List.getElem?_eq_getElem hi]; rfl
    rw [Nat.zero_add]
    exact ⟨h6 l[i] (List.getElem_mem hi), hc.trans e⟩
theorem setOk_six : ∀ {l : List Int} {last : Int}, 0 ≤ last → setFrom last l = true → ∀ i ∈ l, I6 i
  | k :: l, last, h0, h, i, hi => by
    simp only [setFrom, Bool.and_eq_true, decide_eq_true_eq] at h
    rcases List.mem_cons.1 hi with rfl | hi
    · exact ⟨by omega, by omega⟩
    · exact setOk_six (last := k) (by omega) h.2 i hi
theorem rtOk_six {r : Rt} (h : rtOk r = true) (h6 : Rt6 r) : I6 r.pa ∧ I6 r.lo ∧ ∀ i ∈ r.code, I6 i.op ∧ I6 i.a := by
  obtain ⟨-, ⟨a1, a2⟩, ⟨a3, a4⟩, -, a5⟩ := rtOk_parts h
  refine ⟨⟨by omega, by omega⟩, ⟨by omega, by omega⟩, fun i hi => ⟨?_, h6 i hi⟩⟩
  have := List.all_eq_true.1 a5 i hi
  unfold isIns at this
  simp only [Bool.and_eq_true, decide_eq_true_eq] at this
  exact ⟨by omega, by omega⟩
theorem svC_at : ∀ (l : List (Sy × Sv)) (k : Nat) (h : k < l.length) (j : Nat), j < 8 → (sysC l)[k * 8 + j]? = (svC l[k])[j]?
  | p :: l, 0, _, j, hj => by
    have e : sysC (p :: l) = svC p ++ sysC l := rfl
    rw [e, Nat.zero_mul, Nat.zero_add, List.getElem?_append_left (by simp [svC]; omega)]
    rfl
  | p :: l, k + 1, h, j, hj => by
    have e : sysC (p :: l) = svC p ++ sysC l := rfl
    have ln : (svC p).length = 8 := rfl
    rw [e, List.getElem?_append_right (by omega), ln, show (k + 1) * 8 + j - 8 = k * 8 + j by omega]
    exact svC_at l k (by simpa using h) j hj
theorem rvC_at : ∀ (l : List (Rt × Value)) (k : Nat) (h : k < l.length) (j : Nat), j < 4 → (rtsC l)[k * 4 + j]? = (rvC l[k])[j]?
  | p :: l, 0, _, j, hj => by
    have e : rtsC (p :: l) = rvC p ++ rtsC l := rfl
    rw [e, Nat.zero_mul, Nat.zero_add, List.getElem?_append_left (by simp [rvC]; omega)]
    rfl
  | p :: l, k + 1, h, j, hj => by
    have e : rtsC (p :: l) = rvC p ++ rtsC l := rfl
    have ln : (rvC p).length = 4 := rfl
    rw [e, List.getElem?_append_right (by omega), ln, show (k + 1) * 4 + j - 4 = k * 4 + j by omega]
    exact rvC_at l k (by simpa using h) j hj
/-- A program that was read may be handed in. -/
theorem PgOwn.pgm {N : Nat} {w : World} {p : Pg} {vs vf : Value} (h : PgOwn N w p vs vf) (hm : mayOk p = true) (h1 : ∀ y ∈ p.sys, Sy6 y) (h2 : ∀ y ∈ p.fns, Rt6 y) : Pgm Qt w vs vf p := by
  obtain ⟨sys, fns⟩ := p
  unfold mayOk at hm
  simp only [Bool.and_eq_true, decide_eq_true_eq] at hm
  obtain ⟨⟨⟨-, a3⟩, a4⟩, -⟩ := hm
  obtain ⟨ls, lf, e1, e2, o1, o2, so, ro, -⟩ := h
  dsimp only at e1 e2 h1 h2 a3 a4
  subst e1 e2
  refine ⟨?_, ?_⟩
  · have o1' := o1
    show Sys Qt w vs (ls.map Prod.fst)
    obtain ⟨-, ⟨rfl, e⟩ | ⟨g, cap, cur, rfl, hB, hg, hc1, hc2, -⟩⟩ := o1
    · have : ls = [] := List.length_eq_zero_iff.1 e
      subst this
      exact ⟨none, 0, rfl, Nat.le_refl _, Nat.zero_le _, fun h => absurd h (by simp)⟩
    · refine ⟨_, _, by rw [List.length_map], by rw [List.length_map]; exact hc1, hc2, fun _ => ⟨g, 0, rfl, trivial, fun i hi => ?_⟩⟩
      rw [List.length_map] at hi
      have hmem := List.getElem_mem hi
      have hok := List.all_eq_true.1 a3 ls[i].1 (List.mem_map.2 ⟨ls[i], hmem, rfl⟩)
      have h6 := h1 ls[i].1 (List.mem_map.2 ⟨ls[i], hmem, rfl⟩)
      obtain ⟨s1, s2, s3, s4, s5⟩ := sysOk_all hok
      obtain ⟨x1, x2, x3⟩ := rtOk_six s5 h6
      obtain ⟨⟨w1, w2, w3, w4, w5⟩, -⟩ := so.1 ls[i] hmem
      have hc := fun j (hj : j < 8) => (o1'.cellAt (i * 8 + j) (by omega)).trans (svC_at ls i hi j hj)
      simp only [List.getElem_map, Nat.zero_add]
      exact ⟨x1, x2, ls[i].2.v1, ls[i].2.v2, ls[i].2.v3, ls[i].2.v4, ls[i].2.vc, hc 0 (by omega), hc 1 (by omega), hc 2 (by omega), hc 3 (by omega), hc 4 (by omega), hc 5 (by omega), hc 6 (by omega), hc 7 (by omega), own_nl w1 (setOk_six (Int.le_refl 0) s1), own_nl w2 (setOk_six (Int.le_refl 0) s2), own_nl w3 (setOk_six (Int.le_refl 0) s3), own_nl w4 (setOk_six (Int.le_refl 0) s4), (own_il w5 x3).mono (fun _ _ => trivial)⟩
  · have o2' := o2
    show Rts Qt w vf (lf.map Prod.fst)
    obtain ⟨-, ⟨rfl, e⟩ | ⟨g, cap, cur, rfl, hB, hg, hc1, hc2, -⟩⟩ := o2
    · have : lf = [] := List.length_eq_zero_iff.1 e
      subst this
      exact ⟨none, 0, rfl, Nat.le_refl _, Nat.zero_le _, fun h => absurd h (by simp)⟩
    · refine ⟨_, _, by rw [List.length_map], by rw [List.length_map]; exact hc1, hc2, fun _ => ⟨g, 0, rfl, trivial, fun i hi => ?_⟩⟩
      rw [List.length_map] at hi
      have hmem := List.getElem_mem hi
      have hok := List.all_eq_true.1 a4 lf[i].1 (List.mem_map.2 ⟨lf[i], hmem, rfl⟩)
      have h6 := h2 lf[i].1 (List.mem_map.2 ⟨lf[i], hmem, rfl⟩)
      obtain ⟨x1, x2, x3⟩ := rtOk_six hok h6
      have hc := fun j (hj : j < 4) => (o2'.cellAt (i * 4 + j) (by omega)).trans (rvC_at lf i hi j hj)
      simp only [List.getElem_map, Nat.zero_add]
      exact ⟨x1, x2, lf[i].2, hc 0 (by omega), hc 1 (by omega), hc 2 (by omega), hc 3 (by omega), (own_il (ro.1 lf[i] hmem) x3).mono (fun _ _ => trivial)⟩
end Go.Proofs.YtpolajoephjdhaaGreatDoor
