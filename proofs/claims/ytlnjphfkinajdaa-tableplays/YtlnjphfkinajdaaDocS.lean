/-
  The document's Get and Set; the program's, whatever is asked.
-/
import Derived.Test.YtlnjphfkinajdaaFz
import Derived.Test.YtlnjphfkinajdaaSet
namespace Go.Proofs.Ytlnjphfkinajdaa
open Go.RowKit
/-- What Get answers. -/
def getS (r : Nat) (cols : List (List Int)) (x y : Int) : Int := if atS r cols.length x y = 0 then (cols.getD y.toNat []).getD x.toNat 0 else 0
/-- What Set leaves. -/
def setS (r : Nat) (cols : List (List Int)) (x y z : Int) : List (List Int) := if atS r cols.length x y = 0 then cols.set y.toNat ((cols.getD y.toNat []).set x.toNat z) else cols
theorem at_in {r c : Nat} {x y : Int} (h : atS r c x y = 0) : (0 ≤ x ∧ x < (r : Int)) ∧ 0 ≤ y ∧ y < (c : Int) := by
  unfold atS at h
  split at h
  · split at h
    · exact ⟨by assumption, by assumption⟩
    · omega
  · omega
theorem at_cases (r c : Nat) (x y : Int) : (∃ i j : Nat, x = (i : Int) ∧ y = (j : Int) ∧ i < r ∧ j < c ∧ atS r c x y = 0) ∨ (atS r c x y = 50 ∨ atS r c x y = 63) := by
  unfold atS
  by_cases h1 : 0 ≤ x ∧ x < (r : Int)
  · by_cases h2 : 0 ≤ y ∧ y < (c : Int)
    · exact .inl ⟨x.toNat, y.toNat, by omega, by omega, by omega, by omega, by rw [if_pos h1, if_pos h2]⟩
    · exact .inr (.inr (by rw [if_pos h1, if_neg h2]))
  · exact .inr (.inl (by rw [if_neg h1]))
theorem getD_at {α : Type} (l : List α) (d : α) (i : Nat) (h : i < l.length) : l.getD i d = l[i] := by simp [h]
theorem rowOf_put (cols : List (List Int)) (row col : Nat) (x : Int) (hc : col < cols.length) (j : Nat) (hr : row < cols[col].length) : rowOf (cols.set col (cols[col].set row x)) j = if j = row then (rowOf cols j).set col x else rowOf cols j := by
  apply List.ext_getElem
  · split <;> simp [rowOf]
  · intro i h1 h2
    have hi : i < cols.length := by rw [rowOf_len, List.length_set] at h1; exact h1
    simp only [rowOf, List.getElem_map, List.getElem_set]
    by_cases e : j = row
    · subst e
      simp only [if_true, List.getElem_set, List.getElem_map]
      by_cases e2 : col = i
      · subst e2
        simp [hr]
      · simp [e2]
    · simp only [if_neg e, List.getElem_map]
      by_cases e2 : col = i
      · subst e2
        simp only [if_true]
        rw [List.getD_eq_getElem?_getD, List.getD_eq_getElem?_getD, List.getElem?_set_ne (by omega)]
      · simp [e2]
section
variable {w w' : World} {g k : Nat} {vl : Value} {vs : List Value} {rows : List (Int × Int)} {nums : Nat → List Int}
theorem Dm.num_put {gj m c i col : Nat} {x : Int} (h : Dm w g k vl vs rows nums) (hi : i < vs.length) (hv : vs[i] = .slice (some ⟨gj, 0, none⟩) m c) :
    Dm (w.setCell ⟨gj, col, none⟩ (.int .i64 x)) g k vl vs rows (fun j => if j = i then (nums j).set col x else nums j) ∧ Mv w (w.setCell ⟨gj, col, none⟩ (.int .i64 x)) (fun k => k = gj) := by
  have hm : Mv w (w.setCell ⟨gj, col, none⟩ (.int .i64 x)) (fun k => k = gj) := Mv.set (S := fun k => k = gj) (Mv.refl _ _) rfl _ _
  obtain ⟨a1, a2, a3, a4, a5, a6⟩ := h
  have hgj : vs[i].ownBlock = some gj := by rw [hv]; rfl
  refine ⟨⟨hm.at a1 (fun e => (a5 i hi).2.1 (by rw [hgj, e])), hm.own a2 (fun q e e' => (a5 i hi).2.2 q (by rw [hgj, e']) e), a3, a4, fun j hj => ⟨?_, (a5 j hj).2⟩, a6⟩, hm⟩
  by_cases e : j = i
  · subst e
    simp only [if_true, List.length_set]
    have h5 := (a5 j hj).1
    rw [hv] at h5 ⊢
    obtain ⟨_, _, hh⟩ := own_len h5
    simp only [Value.slice.injEq] at hh
    obtain ⟨-, rfl, -⟩ := hh
    have := (h5.stored col (.int .i64 x)).1
    rw [zc_set] at this
    exact this
  · simp only [if_neg e]
    exact hm.own (a5 j hj).1 (fun q e1 e2 => a6 i j hi hj (fun e' => e e'.symm) q (by rw [hgj, e2]) e1)
end
section
variable {w : World} {S : Nat → Prop} {g : Nat} {rows : List (Int × Int)} {cols : List (List Int)}
set_option maxHeartbeats 2000000 in
theorem dget_any (h : Dt w S g rows cols) (x y : Int) : Calls Try.prog 32 #[.pointer (some ⟨g, 0, none⟩), .int .i64 x, .int .i64 y] w fun e w' => e = .returned (.tuple #[.int .i64 (getS rows.length cols x y), .int .i64 (atS rows.length cols.length x y)]) ∧ w' = w := by
  have J := hide (dat_any h x y)
  rcases at_cases rows.length cols.length x y with ⟨i, j, rfl, rfl, hi, hj, e0⟩ | he
  · have e1 : getS rows.length cols (i : Int) (j : Int) = cols[j].getD i 0 := by
      unfold getS
      rw [if_pos e0]
      simp [hj]
    rw [e0] at J
    rw [e0, e1]
    obtain ⟨vl, vs, hm, hcl, -, -⟩ := h
    obtain ⟨c0, c1⟩ := hm.cell
    obtain ⟨gl, c, rfl, -, -⟩ := own_form hm.2.1 (by omega)
    have hvl := hm.2.2.1
    obtain ⟨-, -, e2⟩ := own_rows hm.2.1 hvl i hi
    have hrow := (hm.2.2.2.2.1 i (by omega)).1
    rw [rowOf_len] at hrow
    obtain ⟨gj, cj, hv, -, -⟩ := own_form hrow (by omega)
    rw [hv] at e2 hrow
    have e3 := own_num hrow j (by rw [rowOf_len]; exact hj)
    have e4 : (rowOf cols i)[j]'(by rw [rowOf_len]; exact hj) = cols[j].getD i 0 := by simp [rowOf]
    rw [e4] at e3
    generalize cols[j].getD i 0 = z at *
    have t1 : (i : Int) < (rows.length : Int) := by omega
    have t2 : (j : Int) < (cols.length : Int) := by omega
    clear hm hcl hrow hv e4 hvl c0 e0 e1
    go_enter Try.func32, Try.ntmps32
    go_wp2_with fail
    refine J.out.mono ?_
    rintro e w1 ⟨rfl, rfl⟩
    go_wp2_with fail
    go_ret2
    exact ⟨rfl, rfl⟩
  · have ne : atS rows.length cols.length x y ≠ 0 := by omega
    have e1 : getS rows.length cols x y = 0 := by unfold getS; rw [if_neg ne]
    rw [e1]
    generalize atS rows.length cols.length x y = z at *
    have t1 : (z == 0) = false := by rw [beq_eq_false_iff_ne]; exact ne
    go_enter Try.func32, Try.ntmps32
    go_wp2_with fail
    refine J.out.mono ?_
    rintro e w1 ⟨rfl, rfl⟩
    go_wp2_with fail
    go_ret2
    exact ⟨rfl, rfl⟩
set_option maxHeartbeats 2000000 in
theorem dset_any (h : Dt w S g rows cols) (x y z : Int) : Calls Try.prog 33 #[.pointer (some ⟨g, 0, none⟩), .int .i64 x, .int .i64 y, .int .i64 z] w fun e w' => e = .returned (.int .i64 (atS rows.length cols.length x y)) ∧ Dt w' S g rows (setS rows.length cols x y z) ∧ Mv w w' S := by
  have J := hide (dat_any h x y)
  rcases at_cases rows.length cols.length x y with ⟨i, j, rfl, rfl, hi, hj, e0⟩ | he
  · have e1 : setS rows.length cols (i : Int) (j : Int) z = cols.set j (cols[j].set i z) := by
      unfold setS
      rw [if_pos e0]
      simp [hj]
    rw [e0] at J
    rw [e0, e1]
    obtain ⟨vl, vs, hm, hcl, ⟨s1, s2, s3⟩, h5⟩ := h
    have hlen := hcl _ (List.getElem_mem hj)
    obtain ⟨c0, c1⟩ := hm.cell
    obtain ⟨gl, c, rfl, -, -⟩ := own_form hm.2.1 (by omega)
    have hvl := hm.2.2.1
    obtain ⟨-, -, e2⟩ := own_rows hm.2.1 hvl i hi
    have hrow := (hm.2.2.2.2.1 i (by omega)).1
    rw [rowOf_len] at hrow
    obtain ⟨gj, cj, hv, -, -⟩ := own_form hrow (by omega)
    have hput := hm.num_put (i := i) (col := j) (x := z) (by omega) hv
    have hsj : S gj := s3 _ (List.getElem_mem (by omega : i < vs.length)) gj (by rw [hv]; rfl)
    have hfin : Hid (Dt (w.setCell ⟨gj, j, none⟩ (.int .i64 z)) S g rows (cols.set j (cols[j].set i z)) ∧ Mv w (w.setCell ⟨gj, j, none⟩ (.int .i64 z)) S) := by
      refine ⟨⟨_, vs, ?_, fun c hcm => ?_, ⟨s1, s2, s3⟩, by simpa using h5⟩, hput.2.mono (fun k _ e => e ▸ hsj)⟩
      · have := hput.1.to (nums' := rowOf (cols.set j (cols[j].set i z))) (fun q _ => by
          rw [rowOf_put cols i j z hj q (by omega)])
        rw [List.length_set]
        exact this
      · rcases List.mem_or_eq_of_mem_set hcm with h1 | h1
        · exact hcl c h1
        · rw [h1, List.length_set]; exact hlen
    rw [hv] at e2 hrow
    have e3 := own_num hrow j (by rw [rowOf_len]; exact hj)
    have ef := hrow.frozenAt j
    generalize (rowOf cols i)[j]'(by rw [rowOf_len]; exact hj) = zz at *
    have t1 : (i : Int) < (rows.length : Int) := by omega
    have t2 : (j : Int) < (cols.length : Int) := by omega
    clear hm hcl hrow hv hvl c0 e0 e1 hput s1 s2 s3 hsj hlen
    go_enter Try.func33, Try.ntmps33
    go_wp2_with fail
    refine J.out.mono ?_
    rintro e w1 ⟨rfl, rfl⟩
    go_wp2_with fail
    go_ret
    exact ⟨rfl, hfin.out⟩
  · have ne : atS rows.length cols.length x y ≠ 0 := by omega
    have e1 : setS rows.length cols x y z = cols := by unfold setS; rw [if_neg ne]
    rw [e1]
    generalize atS rows.length cols.length x y = z at *
    have t1 : (z == 0) = false := by rw [beq_eq_false_iff_ne]; exact ne
    have H := hide h
    clear h
    go_enter Try.func33, Try.ntmps33
    go_wp2_with fail
    refine J.out.mono ?_
    rintro e w1 ⟨rfl, rfl⟩
    go_wp2_with fail
    go_ret
    exact ⟨rfl, H.out, Mv.refl _ _⟩
end
section
variable {w : World} {S : Nat → Prop} {g n : Nat} {rows : List (Int × Int)} {cols : List (List Int)}
theorem has_bad (h : Tb w S g n rows cols) (x y : Int) (ha : atS rows.length cols.length x y ≠ 0) : Calls Try.prog 30 #[.pointer (some ⟨g, 0, none⟩), .int .i64 x, .int .i64 y] w fun e w' => e = .returned (.int .i64 (atS rows.length cols.length x y)) ∧ w' = w := by
  have J1 := hide (hasrow_any h x)
  have J2 := hide (hascol_any h y)
  clear h
  go_enter Try.func30, Try.ntmps30
  by_cases h1 : 0 ≤ x ∧ x < (rows.length : Int)
  · by_cases h2 : 0 ≤ y ∧ y < (cols.length : Int)
    · exact absurd (by unfold atS; rw [if_pos h1, if_pos h2]) ha
    · have e : atS rows.length cols.length x y = 63 := by unfold atS; rw [if_pos h1, if_neg h2]
      rw [decide_eq_true h1] at J1
      rw [decide_eq_false h2] at J2
      rw [e]
      clear ha e h1 h2
      go_wp2_with fail
      refine J1.out.mono ?_
      rintro e w1 ⟨rfl, rfl⟩
      go_wp2_with fail
      refine J2.out.mono ?_
      rintro e w1 ⟨rfl, rfl⟩
      go_wp2_with fail
      go_ret
      exact ⟨rfl, rfl⟩
  · have e : atS rows.length cols.length x y = 50 := by unfold atS; rw [if_neg h1]
    rw [decide_eq_false h1] at J1
    rw [e]
    clear ha e h1 J2
    go_wp2_with fail
    refine J1.out.mono ?_
    rintro e w1 ⟨rfl, rfl⟩
    go_wp2_with fail
    go_ret
    exact ⟨rfl, rfl⟩
theorem get_all (h : Tb w S g n rows cols) (x y : Int) : Calls Try.prog 19 #[.pointer (some ⟨g, 0, none⟩), .int .i64 x, .int .i64 y] w fun e w' => e = .returned (.tuple #[.int .i64 (getS rows.length cols x y), .int .i64 (atS rows.length cols.length x y)]) ∧ w' = w := by
  rcases at_cases rows.length cols.length x y with ⟨i, j, rfl, rfl, hi, hj, e0⟩ | he
  · have e1 : getS rows.length cols (i : Int) (j : Int) = cols[j].getD i 0 := by
      unfold getS
      rw [if_pos e0]
      simp [hj]
    have hlen : cols[j].length = rows.length := by
      obtain ⟨_, _, _, _, _, _, _, _, hcl, -⟩ := h
      exact hcl _ (List.getElem_mem hj)
    rw [e0, e1]
    exact get_any h i j hi hj
  · have ne : atS rows.length cols.length x y ≠ 0 := by omega
    have e1 : getS rows.length cols x y = 0 := by unfold getS; rw [if_neg ne]
    have J := hide (has_bad h x y ne)
    rw [e1]
    generalize atS rows.length cols.length x y = z at *
    have t1 : (z == 0) = false := by rw [beq_eq_false_iff_ne]; exact ne
    clear h
    go_enter Try.func19, Try.ntmps19
    go_wp2_with fail
    refine J.out.mono ?_
    rintro e w1 ⟨rfl, rfl⟩
    go_wp2_with fail
    go_ret2
    exact ⟨rfl, rfl⟩
theorem set_all (h : Tb w S g n rows cols) (x y z : Int) : Calls Try.prog 18 #[.pointer (some ⟨g, 0, none⟩), .int .i64 x, .int .i64 y, .int .i64 z] w fun e w' => e = .returned (.int .i64 (atS rows.length cols.length x y)) ∧ Tb w' S g n rows (setS rows.length cols x y z) ∧ Mv w w' S := by
  rcases at_cases rows.length cols.length x y with ⟨i, j, rfl, rfl, hi, hj, e0⟩ | he
  · have e1 : setS rows.length cols (i : Int) (j : Int) z = cols.set j (cols[j].set i z) := by
      unfold setS
      rw [if_pos e0]
      simp [hj]
    rw [e0, e1]
    exact set_any h i j z hi hj
  · have ne : atS rows.length cols.length x y ≠ 0 := by omega
    have e1 : setS rows.length cols x y z = cols := by unfold setS; rw [if_neg ne]
    have J := hide (has_bad h x y ne)
    rw [e1]
    generalize atS rows.length cols.length x y = z at *
    have t1 : (z == 0) = false := by rw [beq_eq_false_iff_ne]; exact ne
    have H := hide h
    clear h
    go_enter Try.func18, Try.ntmps18
    go_wp2_with fail
    refine J.out.mono ?_
    rintro e w1 ⟨rfl, rfl⟩
    go_wp2_with fail
    go_ret
    exact ⟨rfl, H.out, Mv.refl _ _⟩
end
end Go.Proofs.Ytlnjphfkinajdaa
