/-
  Records put one behind the other, whatever stands behind them. No program in this text.
-/
import Derived.Test.YtkohlhnkaklnpaaTornMath
namespace Go.Proofs.Ytkohlhnkaklnpaa
namespace Rc
/-- Those that may be put. -/
def goods (l : List (List UInt8)) : List (List UInt8) := l.filter fun x => decide (x ≠ [] ∧ x.length ≤ 100000)
def recs : List (List UInt8) → List UInt8
  | [] => []
  | d :: ds => made d ++ recs ds
theorem recs_append : ∀ (a b : List (List UInt8)), recs (a ++ b) = recs a ++ recs b
  | [], _ => rfl
  | d :: a, b => by simp [recs, recs_append a b]
theorem recs_snoc (a : List (List UInt8)) (d : List UInt8) : recs (a ++ [d]) = recs a ++ made d := by simp [recs_append, recs]
theorem goods_fits {l : List (List UInt8)} {d : List UInt8} (h : d ∈ goods l) : fits d := by
  simp only [goods, List.mem_filter, decide_eq_true_eq] at h
  exact h.2
theorem goods_yes (l : List (List UInt8)) {k : Nat} (hk : k < l.length) (h : fits l[k]) : goods (l.take (k + 1)) = goods (l.take k) ++ [l[k]] := by
  rw [List.take_succ_eq_append_getElem hk]
  unfold goods
  rw [List.filter_append]
  congr 1
  simp only [List.filter_cons, List.filter_nil]
  rw [if_pos (by simpa [fits] using h)]
theorem goods_no (l : List (List UInt8)) {k : Nat} (hk : k < l.length) (h : ¬ fits l[k]) : goods (l.take (k + 1)) = goods (l.take k) := by
  rw [List.take_succ_eq_append_getElem hk]
  unfold goods
  rw [List.filter_append]
  simp only [List.filter_cons, List.filter_nil]
  rw [if_neg (by intro e; exact h (by simpa [fits] using e)), List.append_nil]
theorem goods_le (l : List (List UInt8)) : (goods l).length ≤ l.length := List.length_filter_le _ _
theorem recs_length : ∀ (gs : List (List UInt8)), (∀ d ∈ gs, fits d) → (recs gs).length ≤ gs.length * 200000
  | [], _ => by simp [recs]
  | d :: gs, h => by
    have ih := recs_length gs (fun x hx => h x (by simp [hx]))
    have hf := h d (by simp)
    have h1 := hf.2
    have h2 := Lib.uvarint_length64 (x := d.length) (by omega)
    simp only [recs, List.length_append, List.length_cons, made_length]
    omega
/-- All that were put are told, then what stands behind them. -/
theorem told_recs : ∀ (gs : List (List UInt8)) (j : List UInt8) (ds : List (List UInt8)) (k : Nat), (∀ d ∈ gs, fits d) → Told (recs gs ++ j) ds k → (get ((recs gs ++ j).drop k)).2 = 0 →
    ∃ ds' k', ds = gs ++ ds' ∧ k = (recs gs).length + k' ∧ Told j ds' k' ∧ (get (j.drop k')).2 = 0
  | [], j, ds, k, _, h, he => ⟨ds, k, rfl, by simp [recs], h, he⟩
  | d :: gs, j, ds, k, hf, h, he => by
    simp only [recs, List.append_assoc] at h he
    obtain ⟨ds1, k1, rfl, rfl, h1, he1⟩ := told_made (hf d (by simp)) h he
    obtain ⟨ds2, k2, rfl, rfl, h2, he2⟩ := told_recs gs j ds1 k1 (fun x hx => hf x (by simp [hx])) h1 he1
    exact ⟨ds2, k2, rfl, by simp [recs]; omega, h2, he2⟩
theorem told_any {j : List UInt8} {ds : List (List UInt8)} {k : Nat} (h : Told j ds k) (he : (get (j.drop k)).2 = 0) : (0 < k) ↔ (0 < (get j).2) := by
  cases ds with
  | nil =>
    obtain rfl : k = 0 := h
    rw [List.drop_zero] at he
    omega
  | cons d ds =>
    have h1 := get_seven h.1
    have h3 := h.2.2.1
    omega
/-- What is told, put again, is what was counted. -/
theorem told_back : ∀ (ds : List (List UInt8)) (b : List UInt8) (k : Nat), Told b ds k → recs ds = b.take k ∧ ∀ d ∈ ds, fits d
  | [], b, k, h => by
    obtain rfl : k = 0 := h
    exact ⟨by simp [recs], fun d hd => absurd hd (by simp)⟩
  | d :: ds, b, k, ⟨h1, h2, h3, h4⟩ => by
    obtain ⟨i1, i2⟩ := told_back ds _ _ h4
    obtain ⟨f1, f2, f3⟩ := get_back h1
    subst h2
    refine ⟨?_, fun x hx => ?_⟩
    · simp only [recs]
      rw [i1]
      have e : b.take k = (made (get b).1 ++ b.drop (get b).2).take k := by rw [← f3]
      rw [e, List.take_append, ← f2, List.take_of_length_le (l := made (get b).1) (by rw [← f2]; exact h3)]
    · rcases List.mem_cons.1 hx with rfl | hx
      · exact f1
      · exact i2 x hx
end Rc
end Go.Proofs.Ytkohlhnkaklnpaa
