/-
  Set.
-/
import Derived.Test.YtafmiolehlagkaaGreatTShw
namespace Go.Proofs.YtafmiolehlagkaaGreat
open Go.RowKit
set_option maxRecDepth 100000
section
variable {w W1 W' : World} {lab : Nat → Nat} {gt gm n : Nat} {vr vc v' : Value} {cs : List Value} {f f' : Int × Int → Option Nat} {rows rows' : List (Int × Int)} {cols : List (List Int)}
theorem Tm.num_put {gj m c j row : Nat} {x : Int} (h : Tm w lab gt vr gm n vc cs f rows cols) (hj : j < cs.length) (hj2 : j < cols.length) (hv : cs[j] = .slice (some ⟨gj, 0, none⟩) m c) :
    Tm (w.setCell ⟨gj, row, none⟩ (.int .i64 x)) lab gt vr gm n vc cs f rows (cols.set j (cols[j].set row x)) ∧ Mv w (w.setCell ⟨gj, row, none⟩ (.int .i64 x)) (fun k => k = gj) := by
  have hm : Mv w (w.setCell ⟨gj, row, none⟩ (.int .i64 x)) (fun k => k = gj) := Mv.set (S := fun k => k = gj) (Mv.refl _ _) rfl _ _
  obtain ⟨b1, b2, b3, b4, b5, b6, b7, b8, b9, b10, b11⟩ := h
  have lj : lab gj = 4 + j := b11 j hj gj (by rw [hv]; rfl)
  refine ⟨⟨hm.at b1 (fun e => ?_), hm.own b2 (fun k e e' => ?_), b3.same (hm.2.2.2.2 gm b3.lt (fun e => ?_)), hm.own b4 (fun k e e' => ?_), by simp [b5], fun i hi hi2 => ?_, b7, b8, b9, b10, b11⟩, hm⟩
  · subst e; omega
  · subst e'; have := b8 _ e; omega
  · subst e; omega
  · subst e'; have := b10 _ e; omega
  · have hi2' : i < cols.length := by simpa using hi2
    by_cases e : j = i
    · subst e
      simp only [List.getElem_set_self, List.length_set]
      have h6 := b6 j hj hj2
      rw [hv] at h6 ⊢
      obtain ⟨_, _, hh⟩ := own_len h6
      simp only [Value.slice.injEq] at hh
      obtain ⟨-, rfl, -⟩ := hh
      have := (h6.stored row (.int .i64 x)).1
      rw [zc_set] at this
      exact this
    · simp only [List.getElem_set_ne e]
      refine hm.own (b6 i hi hi2') (fun k e1 e2 => ?_)
      have := b11 i hi k e1
      subst e2; omega
end
section
variable {w : World} {S : Nat → Prop} {g n : Nat} {rows : List (Int × Int)} {cols : List (List Int)}
set_option maxHeartbeats 1000000 in
theorem set_any (h : Tb w S g n rows cols) (row col : Nat) (x : Int) (hr : row < rows.length) (hc : col < cols.length) : Calls Tryz.prog 91 #[.pointer (some ⟨g, 0, none⟩), .int .i64 (row : Int), .int .i64 (col : Int), .int .i64 x] w fun e w' => e = .returned (.int .i64 0) ∧ Tb w' S g n rows (cols.set col (cols[col].set row x)) ∧ Mv w w' S := by
  have J := hide (has_ok h row col hr hc)
  obtain ⟨lab, vr, gm, vc, cs, f, hm, hix, hcl, ⟨s1, s2, s3, s4, s5⟩, hib, hr2, hc48⟩ := h
  obtain ⟨-, -, c2⟩ := hm.cell
  have hcs := hm.2.2.2.2.1
  obtain ⟨gc, cc, rfl, -, -⟩ := own_form hm.2.2.2.1 (by omega)
  have e1 := own_slices hm.2.2.2.1 col (by omega)
  have hrow := hm.2.2.2.2.2.1 col (by omega) hc
  have hlen : cols[col].length = rows.length := hcl _ (List.getElem_mem hc)
  obtain ⟨gj, cj, hv, -, -⟩ := own_form hrow (by omega)
  have hput := hm.num_put (row := row) (x := x) (by omega) hc hv
  have hsj : S gj := s5 _ (List.getElem_mem (by omega : col < cs.length)) gj (by rw [hv]; rfl)
  have hfin : Hid (Tb (w.setCell ⟨gj, row, none⟩ (.int .i64 x)) S g n rows (cols.set col (cols[col].set row x)) ∧ Mv w (w.setCell ⟨gj, row, none⟩ (.int .i64 x)) S) := by
    refine ⟨⟨lab, vr, gm, _, cs, f, hput.1, hix, fun c hcm => ?_, ⟨s1, s2, s3, s4, s5⟩, hib, hr2, by simpa using hc48⟩, hput.2.mono (fun k _ e => e ▸ hsj)⟩
    rcases List.mem_or_eq_of_mem_set hcm with h1 | h1
    · exact hcl c h1
    · rw [h1, List.length_set]; exact hlen
  rw [hv] at e1 hrow
  have e2 := own_num hrow row (by omega)
  have ef := hrow.frozenAt row
  rw [hlen] at e1
  generalize cols[col][row]'(by omega) = y at *
  have t1 : (col : Int) < (cs.length : Int) := by omega
  have t2 : (row : Int) < (rows.length : Int) := by omega
  clear hm hix hcl hrow hv hlen hput s1 s2 s3 s4 s5 hib hsj
  generalize cs.length = nc at *
  clear hcs
  go_enter Tryz.func91, Tryz.ntmps91
  go_wp2_with fail
  refine J.out.mono ?_
  rintro e w1 ⟨rfl, rfl⟩
  go_wp2_with fail
  go_ret
  exact ⟨rfl, hfin.out⟩
end
section
variable {B : Nat} {N N' : Nat → Prop} {W W' : World} {g n n' : Nat} {rows rows' : List (Int × Int)} {cols cols' : List (List Int)}
theorem tf_set (h : Tf B N W g n rows cols) (row col : Nat) (x : Int) (hr : row < rows.length) (hc : col < cols.length) :
    Calls Tryz.prog 91 #[.pointer (some ⟨g, 0, none⟩), .int .i64 (row : Int), .int .i64 (col : Int), .int .i64 x] W fun e w' => e = .returned (.int .i64 0) ∧ Tf B N w' g n rows (cols.set col (cols[col].set row x)) ∧ KeptN N W w' ∧ Below B W w' := by
  obtain ⟨S, h1, h2, h3, h4⟩ := h
  refine (set_any h1 row col x hr hc).mono ?_
  rintro e w' ⟨rfl, t1, t2⟩
  exact ⟨rfl, Tf.turned h2 h3 h4 (t1.mono (fun k e => .inl e)) t2⟩
end
end Go.Proofs.YtafmiolehlagkaaGreat
