/-
  One call of the program's table and one of the document's: the same answer.
-/
import Derived.Test.YtlnjphfkinajdaaLaw2
import Derived.Test.YtlnjphfkinajdaaDocM
import Derived.Test.YtlnjphfkinajdaaDocS
import Derived.Test.YtlnjphfkinajdaaDocT
import Derived.Test.YtlnjphfkinajdaaDocC
namespace Go.Proofs.Ytlnjphfkinajdaa
open Go.RowKit
/-- What Add answers, and what it leaves. -/
def addS (s : Ts) (e : Int × Int) (vals : List Int) : Int × Int × Ts :=
  if vals.length ≠ s.2.length then (0, 63, s) else if e ∈ s.1 then (0, 61, s) else if s.1.length = 200 then (0, 40, s) else ((s.1.length : Int), 0, (s.1 ++ [e], addRow s.2 vals))
/-- What Remove answers, and what it leaves. -/
def remS (s : Ts) (x : Int) : (Int × Int) × Bool × Int × Ts :=
  if 0 ≤ x ∧ x < (s.1.length : Int) then (if x.toNat = s.1.length - 1 then (0, 0) else (s.1.getD (s.1.length - 1) (0, 0)), decide (x.toNat ≠ s.1.length - 1), 0, (rem s.1 x.toNat, remCols s.2 x.toNat)) else ((0, 0), false, 50, s)
theorem fnd_uniq {w : World} {S : Nat → Prop} {g n : Nat} {rows : List (Int × Int)} {cols : List (List Int)} (h : Tb w S g n rows cols) {e : Int × Int} {r r' : Int} (h1 : Fnd rows e r) (h2 : Fnd rows e r') : r = r' := by
  obtain ⟨lab, vr, gm, vc, cs, f, -, hix, -⟩ := h
  rcases h1 with ⟨rfl, h1⟩ | ⟨i, hi, rfl, h1⟩
  · rcases h2 with ⟨rfl, -⟩ | ⟨j, hj, rfl, h2⟩
    · rfl
    · exact absurd (h2 ▸ List.getElem_mem hj) h1
  · rcases h2 with ⟨rfl, h2⟩ | ⟨j, hj, rfl, h2⟩
    · exact absurd (h1 ▸ List.getElem_mem hi) h2
    · have := hix.inj hi hj (h1.trans h2.symm)
      omega
section
variable {w : World} {own : Nat → Nat} {gw i n M : Nat} {G : Nat → Nat × Nat} {C D : Nat → Ts} {L : List Held}
theorem add_code (h : Bw w gw M own G n C D L) (hi : i < n) (a b : Int) (v : Value) (vals : List Int) (hv : Iz w v vals) (hv0 : ∀ k, v.ownBlock = some k → own k = 0 ∧ k < w.heap.size) (hb : InB (a, b)) (hM : M ≤ 1000000) :
    Calls Try.prog 12 #[.pointer (some ⟨(G i).1, 0, none⟩), .agg #[.int .i64 a, .int .i64 b], v] w fun e w' => e = .returned (.tuple #[.int .i64 (addS (C i) (a, b) vals).1, .int .i64 (addS (C i) (a, b) vals).2.1]) ∧ ∃ own', Bw w' gw (M + 1) own' G n (upd C i (addS (C i) (a, b) vals).2.2) D L ∧ K0 own w own' w' := by
  obtain ⟨m, hm, ht⟩ := h.1 i hi
  have same : ∀ (w' : World), Below w.heap.size w w' → ∃ own', Bw w' gw (M + 1) own' G n (upd C i (C i)) D L ∧ K0 own w own' w' := fun w' hb => by
    rw [upd_same]
    exact ⟨_, (h.later hb).bound (by omega), K0.later hb⟩
  unfold addS
  by_cases h1 : vals.length ≠ (C i).2.length
  · rw [if_pos h1]
    refine (add_field ht a b v vals hv h1).mono ?_
    rintro e w' ⟨rfl, hb'⟩
    exact ⟨rfl, same w' hb'⟩
  · rw [if_neg h1]
    have h1' : vals.length = (C i).2.length := Decidable.not_not.1 h1
    by_cases h2 : (a, b) ∈ (C i).1
    · rw [if_pos h2]
      refine (add_has ht a b v vals hv h1' hb h2).mono ?_
      rintro e w' ⟨rfl, hb'⟩
      exact ⟨rfl, same w' hb'⟩
    · rw [if_neg h2]
      by_cases h3 : (C i).1.length = 200
      · rw [if_pos h3]
        refine (add_full ht a b v vals hv h1' hb h2 h3).mono ?_
        rintro e w' ⟨rfl, hb'⟩
        exact ⟨rfl, same w' hb'⟩
      · rw [if_neg h3]
        have hr : (C i).1.length ≤ 200 := by
          obtain ⟨_, _, _, _, _, _, _, _, _, _, _, hr, _⟩ := ht
          exact hr
        refine (add_any ht a b v vals hv (fun k e => ⟨fun e' => ?_, (hv0 k e).2⟩) h1' hb h2 (by omega) (by omega)).mono ?_
        · have := (hv0 k e).1; have := e'.2; omega
        · rintro e w' ⟨rfl, t1, t2⟩
          exact ⟨rfl, _, h.turnC hi (st := ((C i).1 ++ [(a, b)], addRow (C i).2 vals)) (by omega) ⟨m + 1, by omega, t1⟩ t2, K0.turn t2 (by omega)⟩
theorem add_doc (h : Bw w gw M own G n C D L) (hi : i < n) (a b : Int) (v : Value) (vals : List Int) (hv : Fz w v vals) :
    Calls Try.prog 31 #[.pointer (some ⟨(G i).2, 0, none⟩), .agg #[.int .i64 a, .int .i64 b], v] w fun e w' => e = .returned (.tuple #[.int .i64 (addS (D i) (a, b) vals).1, .int .i64 (addS (D i) (a, b) vals).2.1]) ∧ ∃ own', Bw w' gw M own' G n C (upd D i (addS (D i) (a, b) vals).2.2) L ∧ K0 own w own' w' := by
  have ht : Dt w (Lb own w (4 + 2 * i)) (G i).2 (D i).1 (D i).2 := h.2.1 i hi
  have same : ∀ (w' : World), Below w.heap.size w w' → ∃ own', Bw w' gw M own' G n C (upd D i (D i)) L ∧ K0 own w own' w' := fun w' hb => by
    rw [upd_same]
    exact ⟨_, h.later hb, K0.later hb⟩
  unfold addS
  by_cases h1 : vals.length ≠ (D i).2.length
  · rw [if_pos h1]
    refine (dadd_field ht a b v vals hv.iz h1).mono ?_
    rintro e w' ⟨rfl, hb'⟩
    exact ⟨rfl, same w' hb'⟩
  · rw [if_neg h1]
    have h1' : vals.length = (D i).2.length := Decidable.not_not.1 h1
    by_cases h2 : (a, b) ∈ (D i).1
    · rw [if_pos h2]
      refine (dadd_has ht a b v vals hv.iz h1' h2).mono ?_
      rintro e w' ⟨rfl, hb'⟩
      exact ⟨rfl, same w' hb'⟩
    · rw [if_neg h2]
      by_cases h3 : (D i).1.length = 200
      · rw [if_pos h3]
        refine (dadd_full ht a b v vals hv.iz h1' h2 h3).mono ?_
        rintro e w' ⟨rfl, hb'⟩
        exact ⟨rfl, same w' hb'⟩
      · rw [if_neg h3]
        have hr : (D i).1.length ≤ 200 := by
          obtain ⟨_, _, _, _, _, hr, _⟩ := ht
          exact hr
        refine (dadd_any ht a b v vals hv h1' h2 (by omega)).mono ?_
        rintro e w' ⟨rfl, t1, t2⟩
        exact ⟨rfl, _, h.turnD hi (st := ((D i).1 ++ [(a, b)], addRow (D i).2 vals)) t1 t2, K0.turn t2 (by omega)⟩
theorem rem_ans {rows : List (Int × Int)} {k : Nat} (hk : k < rows.length) : (if k = rows.length - 1 then Value.agg #[.int .i64 0, .int .i64 0] else .agg #[.int .i64 (rows[rows.length - 1]'(by omega)).1, .int .i64 (rows[rows.length - 1]'(by omega)).2]) = .agg #[.int .i64 (if k = rows.length - 1 then ((0, 0) : Int × Int) else rows.getD (rows.length - 1) (0, 0)).1, .int .i64 (if k = rows.length - 1 then ((0, 0) : Int × Int) else rows.getD (rows.length - 1) (0, 0)).2] := by
  split
  · rfl
  · rw [getD_at _ _ _ (by omega)]
theorem rem_code (h : Bw w gw M own G n C D L) (hi : i < n) (x : Int) (hM : M ≤ 1000000) :
    Calls Try.prog 13 #[.pointer (some ⟨(G i).1, 0, none⟩), .int .i64 x] w fun e w' => e = .returned (.tuple #[.agg #[.int .i64 (remS (C i) x).1.1, .int .i64 (remS (C i) x).1.2], .bool (remS (C i) x).2.1, .int .i64 (remS (C i) x).2.2.1]) ∧ ∃ own', Bw w' gw (M + 1) own' G n (upd C i (remS (C i) x).2.2.2) D L ∧ K0 own w own' w' := by
  obtain ⟨m, hm, ht⟩ := h.1 i hi
  unfold remS
  by_cases hx : 0 ≤ x ∧ x < ((C i).1.length : Int)
  · rw [if_pos hx]
    obtain ⟨k, rfl⟩ : ∃ k : Nat, x = (k : Int) := ⟨x.toNat, by omega⟩
    have hk : k < (C i).1.length := by omega
    simp only [Int.toNat_natCast]
    refine (remove_any ht k hk (by omega)).mono ?_
    rintro e w' ⟨rfl, t1, t2⟩
    rw [rem_ans hk]
    exact ⟨rfl, _, h.turnC hi (st := (rem (C i).1 k, remCols (C i).2 k)) (by omega) ⟨m + 1, by omega, t1.mono (fun q e => .inl e)⟩ t2, K0.turn t2 (by omega)⟩
  · rw [if_neg hx]
    refine (remove_bad ht x hx).mono ?_
    rintro e w' ⟨rfl, hb⟩
    refine ⟨rfl, ?_⟩
    show ∃ own', Bw w' gw (M + 1) own' G n (upd C i (C i)) D L ∧ K0 own w own' w'
    rw [upd_same]
    exact ⟨_, (h.later hb).bound (by omega), K0.later hb⟩
theorem rem_doc (h : Bw w gw M own G n C D L) (hi : i < n) (x : Int) :
    Calls Try.prog 22 #[.pointer (some ⟨(G i).2, 0, none⟩), .int .i64 x] w fun e w' => e = .returned (.tuple #[.agg #[.int .i64 (remS (D i) x).1.1, .int .i64 (remS (D i) x).1.2], .bool (remS (D i) x).2.1, .int .i64 (remS (D i) x).2.2.1]) ∧ ∃ own', Bw w' gw M own' G n C (upd D i (remS (D i) x).2.2.2) L ∧ K0 own w own' w' := by
  have ht : Dt w (Lb own w (4 + 2 * i)) (G i).2 (D i).1 (D i).2 := h.2.1 i hi
  unfold remS
  by_cases hx : 0 ≤ x ∧ x < ((D i).1.length : Int)
  · rw [if_pos hx]
    obtain ⟨k, rfl⟩ : ∃ k : Nat, x = (k : Int) := ⟨x.toNat, by omega⟩
    have hk : k < (D i).1.length := by omega
    simp only [Int.toNat_natCast]
    refine (drem_any ht k hk).mono ?_
    rintro e w' ⟨rfl, t1, t2⟩
    rw [rem_ans hk]
    exact ⟨rfl, _, h.turnD hi (st := (rem (D i).1 k, remCols (D i).2 k)) t1 t2, K0.turn t2 (by omega)⟩
  · rw [if_neg hx]
    refine (drem_bad ht x hx).mono ?_
    rintro e w' ⟨rfl, hb⟩
    refine ⟨rfl, ?_⟩
    show ∃ own', Bw w' gw M own' G n C (upd D i (D i)) L ∧ K0 own w own' w'
    rw [upd_same]
    exact ⟨_, h.later hb, K0.later hb⟩
theorem set_code (h : Bw w gw M own G n C D L) (hi : i < n) (x y z : Int) :
    Calls Try.prog 18 #[.pointer (some ⟨(G i).1, 0, none⟩), .int .i64 x, .int .i64 y, .int .i64 z] w fun e w' => e = .returned (.int .i64 (atS (C i).1.length (C i).2.length x y)) ∧ ∃ own', Bw w' gw M own' G n (upd C i ((C i).1, setS (C i).1.length (C i).2 x y z)) D L ∧ K0 own w own' w' := by
  obtain ⟨m, hm, ht⟩ := h.1 i hi
  refine (set_all ht x y z).mono ?_
  rintro e w' ⟨rfl, t1, t2⟩
  exact ⟨rfl, _, h.turnC hi (st := ((C i).1, setS (C i).1.length (C i).2 x y z)) (Nat.le_refl _) ⟨m, hm, t1.mono (fun q e => .inl e)⟩ t2, K0.turn t2 (by omega)⟩
theorem set_doc (h : Bw w gw M own G n C D L) (hi : i < n) (x y z : Int) :
    Calls Try.prog 33 #[.pointer (some ⟨(G i).2, 0, none⟩), .int .i64 x, .int .i64 y, .int .i64 z] w fun e w' => e = .returned (.int .i64 (atS (D i).1.length (D i).2.length x y)) ∧ ∃ own', Bw w' gw M own' G n C (upd D i ((D i).1, setS (D i).1.length (D i).2 x y z)) L ∧ K0 own w own' w' := by
  have ht : Dt w (Lb own w (4 + 2 * i)) (G i).2 (D i).1 (D i).2 := h.2.1 i hi
  refine (dset_any ht x y z).mono ?_
  rintro e w' ⟨rfl, t1, t2⟩
  exact ⟨rfl, _, h.turnD hi (st := ((D i).1, setS (D i).1.length (D i).2 x y z)) (Dt.mono t1 (fun q e => .inl e)) t2, K0.turn t2 (by omega)⟩
/-- What Row answers. -/
def rowS (s : Ts) (x : Int) : (Int × Int) × List Int × Int := if 0 ≤ x ∧ x < (s.1.length : Int) then (s.1.getD x.toNat (0, 0), rowOf s.2 x.toNat, 0) else ((0, 0), [], 50)
theorem row_code (h : Bw w gw M own G n C D L) (hi : i < n) (x : Int) :
    Calls Try.prog 15 #[.pointer (some ⟨(G i).1, 0, none⟩), .int .i64 x] w fun e w' => ∃ v, e = .returned (.tuple #[.agg #[.int .i64 (rowS (C i) x).1.1, .int .i64 (rowS (C i) x).1.2], v, .int .i64 (rowS (C i) x).2.2]) ∧ w'.ownsRow w.heap.size 2 1 v (rowS (C i) x).2.1.length (zc (rowS (C i) x).2.1) ∧ Below w.heap.size w w' := by
  obtain ⟨m, hm, ht⟩ := h.1 i hi
  unfold rowS
  by_cases hx : 0 ≤ x ∧ x < ((C i).1.length : Int)
  · rw [if_pos hx]
    obtain ⟨k, rfl⟩ : ∃ k : Nat, x = (k : Int) := ⟨x.toNat, by omega⟩
    have hk : k < (C i).1.length := by omega
    simp only [Int.toNat_natCast]
    refine (row_any ht k hk).mono ?_
    rintro e w' ⟨v, rfl, t1, t2⟩
    rw [getD_at _ _ _ hk, rowOf_len]
    exact ⟨v, rfl, t1, t2⟩
  · rw [if_neg hx]
    refine (row_bad ht x hx).mono ?_
    rintro e w' ⟨rfl, hb⟩
    exact ⟨_, rfl, ⟨rfl, .inl ⟨rfl, rfl⟩⟩, hb⟩
theorem row_doc (h : Bw w gw M own G n C D L) (hi : i < n) (x : Int) :
    Calls Try.prog 34 #[.pointer (some ⟨(G i).2, 0, none⟩), .int .i64 x] w fun e w' => ∃ v, e = .returned (.tuple #[.agg #[.int .i64 (rowS (D i) x).1.1, .int .i64 (rowS (D i) x).1.2], v, .int .i64 (rowS (D i) x).2.2]) ∧ w'.ownsRow w.heap.size 2 1 v (rowS (D i) x).2.1.length (zc (rowS (D i) x).2.1) ∧ Below w.heap.size w w' := by
  have ht : Dt w (Lb own w (4 + 2 * i)) (G i).2 (D i).1 (D i).2 := h.2.1 i hi
  unfold rowS
  by_cases hx : 0 ≤ x ∧ x < ((D i).1.length : Int)
  · rw [if_pos hx]
    obtain ⟨k, rfl⟩ : ∃ k : Nat, x = (k : Int) := ⟨x.toNat, by omega⟩
    have hk : k < (D i).1.length := by omega
    simp only [Int.toNat_natCast]
    refine (drow_any ht k hk).mono ?_
    rintro e w' ⟨v, rfl, t1, t2⟩
    rw [getD_at _ _ _ hk, rowOf_len]
    exact ⟨v, rfl, t1, t2⟩
  · rw [if_neg hx]
    refine (drow_bad ht x hx).mono ?_
    rintro e w' ⟨rfl, hb⟩
    exact ⟨_, rfl, ⟨rfl, .inl ⟨rfl, rfl⟩⟩, hb⟩
/-- What Column answers. -/
def colS (s : Ts) (x : Int) : List Int × Int := if 0 ≤ x ∧ x < (s.2.length : Int) then (s.2.getD x.toNat [], 0) else ([], 63)
theorem col_code (h : Bw w gw M own G n C D L) (hi : i < n) (x : Int) :
    Calls Try.prog 16 #[.pointer (some ⟨(G i).1, 0, none⟩), .int .i64 x] w fun e w' => ∃ v, e = .returned (.tuple #[v, .int .i64 (colS (C i) x).2]) ∧ w'.ownsRow w.heap.size 2 1 v (colS (C i) x).1.length (zc (colS (C i) x).1) ∧ Below w.heap.size w w' := by
  obtain ⟨m, hm, ht⟩ := h.1 i hi
  unfold colS
  by_cases hx : 0 ≤ x ∧ x < ((C i).2.length : Int)
  · rw [if_pos hx]
    obtain ⟨k, rfl⟩ : ∃ k : Nat, x = (k : Int) := ⟨x.toNat, by omega⟩
    have hk : k < (C i).2.length := by omega
    simp only [Int.toNat_natCast]
    refine (column_any ht k hk).mono ?_
    rintro e w' ⟨v, rfl, t1, t2⟩
    have hl : (C i).2[k].length = (C i).1.length := by
      obtain ⟨_, _, _, _, _, _, _, _, hcl, -⟩ := ht
      exact hcl _ (List.getElem_mem hk)
    rw [getD_at _ _ _ hk]
    exact ⟨v, rfl, by first | (rw [hl]; exact t1) | exact t1, t2⟩
  · rw [if_neg hx]
    refine (column_bad ht x hx).mono ?_
    rintro e w' ⟨rfl, rfl⟩
    exact ⟨_, rfl, ⟨rfl, .inl ⟨rfl, rfl⟩⟩, Below.refl _ _⟩
theorem col_doc (h : Bw w gw M own G n C D L) (hi : i < n) (x : Int) :
    Calls Try.prog 36 #[.pointer (some ⟨(G i).2, 0, none⟩), .int .i64 x] w fun e w' => ∃ v, e = .returned (.tuple #[v, .int .i64 (colS (D i) x).2]) ∧ w'.ownsRow w.heap.size 2 1 v (colS (D i) x).1.length (zc (colS (D i) x).1) ∧ Below w.heap.size w w' := by
  have ht : Dt w (Lb own w (4 + 2 * i)) (G i).2 (D i).1 (D i).2 := h.2.1 i hi
  unfold colS
  by_cases hx : 0 ≤ x ∧ x < ((D i).2.length : Int)
  · rw [if_pos hx]
    obtain ⟨k, rfl⟩ : ∃ k : Nat, x = (k : Int) := ⟨x.toNat, by omega⟩
    have hk : k < (D i).2.length := by omega
    simp only [Int.toNat_natCast]
    have hl : (D i).2[k].length = (D i).1.length := by
      obtain ⟨_, _, _, hcl, -⟩ := ht
      exact hcl _ (List.getElem_mem hk)
    refine (dcol_any ht k hk).mono ?_
    rintro e w' ⟨v, rfl, t1, t2⟩
    rw [getD_at _ _ _ hk]
    exact ⟨v, rfl, by rw [hl]; exact t1, t2⟩
  · rw [if_neg hx]
    refine (dcol_bad ht x hx).mono ?_
    rintro e w' ⟨rfl, rfl⟩
    exact ⟨_, rfl, ⟨rfl, .inl ⟨rfl, rfl⟩⟩, Below.refl _ _⟩
theorem ts_small (h : Bw w gw M own G n C D L) (hi : i < n) : (C i).1.length ≤ 200 ∧ (C i).2.length ≤ 48 := by
  obtain ⟨m, hm, _, _, _, _, _, _, _, _, _, _, _, hr, hc⟩ := h.1 i hi
  exact ⟨hr, hc⟩
end
end Go.Proofs.Ytlnjphfkinajdaa
