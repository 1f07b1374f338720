/-
  Set.
-/
import Derived.Test.YtiolaenkfhcajaaGreatTShw
namespace Go.Proofs.YtiolaenkfhcajaaGreat
open Go.RowKit
set_option maxRecDepth 100000
section
variable {w W1 W' : World} {lab : Nat → Nat} {gt gm n : Nat} {vr vc v' : Value} {cs : List Value} {f f' : Int × Int → Option Nat} {rows rows' : List (Int × Int)} {cols : List (List Int)}
theorem Tm.num_put {gj m c j row : Nat} {x : Int} (h : Tm w lab gt vr gm n vc cs f rows cols) (hj : j < cs.length) (hj2 : j < cols.length) (hv : cs[j] = .slice (some ⟨gj, 0, none⟩) m c) :
    Tm (w.setCell ⟨gj, row, none⟩ (.int .i64 x)) lab gt vr gm n vc cs f rows (cols.set j (cols[j].set row x)) ∧ Mv w (w.setCell ⟨gj, row, none⟩ (.int .i64 x)) (fun k => k = gj) := by
  have hm : Mv w (w.setCell ⟨gj, row, none⟩ (.int .i64 x)) (fun k => k = gj) := Mv.set (S := fun k => k = gj) (Mv.refl _ _) rfl _ _
  obtain ⟨b1, b2, b3, b4, b5, b6, b7, b8, b9, b10, b11⟩ := h
  have lj : lab gj = 4 + j := b11 j hj gj (by rw [hv]; rfl)
  refine ⟨⟨hm.at b1 (fun e => ?_), hm.own b2 (fun k e e' => ?_), b3.same (hm.2.2.2.2 gm b3.lt (fun e => ?_)), hm.own b4 (fun k e e' => ?_), by simp [b5], fun i hi hi2 => ?_, b7, b8, b9, b10, b11⟩, hm⟩
  · subst e; omega
  · subst e'; have := b8 _ e; omega
  · subst e; omega
  · subst e'; have := b10 _ e; omega
  · have hi2' : i < cols.length := by simpa using hi2
    by_cases e : j = i
    · subst e
      simp only [List.getElem_set_self, List.length_set]
      have h6 := b6 j hj hj2
      rw [hv] at h6 ⊢
      obtain ⟨_, _, hh⟩ := own_len h6
      simp only [Value.slice.injEq] at hh
      obtain ⟨-, rfl, -⟩ := hh
      have := (h6.stored row (.int .i64 x)).1
      rw [zc_set] at this
      exact this
    · simp only [List.getElem_set_ne e]
      refine hm.own (b6 i hi hi2') (fun k e1 e2 => ?_)
      have := b11 i hi k e1
      subst e2; omega
end
section
variable {w : World} {S : Nat → Prop} {g n : Nat} {rows : List (Int × Int)} {cols : List (List Int)}
end
section
variable {B : Nat} {N N' : Nat → Prop} {W W' : World} {g n n' : Nat} {rows rows' : List (Int × Int)} {cols cols' : List (List Int)}
end
end Go.Proofs.YtiolaenkfhcajaaGreat
