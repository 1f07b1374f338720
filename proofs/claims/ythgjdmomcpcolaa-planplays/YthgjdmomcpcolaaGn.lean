/-
  Plan's law: given: a system is put in anew.
-/
import Derived.Test.YthgjdmomcpcolaaGm
namespace Go.Proofs.Ythgjdmomcpcolaa
open Go.RowKit
theorem yc_setG (l : List Yc) (i : Nat) (h : i < l.length) (y y' : Yc) (k : Nat) (hk : k < 8) (u : Value) (he : (y8 y).set k u = y8 y') : (yc (l.set i y)).set (i * 8 + k) u = yc (l.set i y') := by
  rw [yc_set (l.set i y) i (by simpa using h) k hk y' u (by simpa using he), List.set_set]
theorem yc_set8 (l : List Yc) (i : Nat) (h : i < l.length) (a b c d : Value) : ((((((((yc l).set (i * 8) a).set (i * 8 + 1) b).set (i * 8 + 2) c).set (i * 8 + 3) d).set (i * 8 + 4) (.string ⟨#[]⟩)).set (i * 8 + 5) (.int .i64 0)).set (i * 8 + 6) (.int .i64 0)).set (i * 8 + 7) (.slice none 0 0) = yc (l.set i (a, b, c, d)) := by
  have e0 : (yc l).set (i * 8) a = yc (l.set i (a, l[i].2.1, l[i].2.2.1, l[i].2.2.2)) := yc_set l i h 0 (by omega) (a, l[i].2.1, l[i].2.2.1, l[i].2.2.2) a rfl
  rw [e0, yc_setG l i h (a, l[i].2.1, l[i].2.2.1, l[i].2.2.2) (a, b, l[i].2.2.1, l[i].2.2.2) 1 (by omega) b rfl, yc_setG l i h (a, b, l[i].2.2.1, l[i].2.2.2) (a, b, c, l[i].2.2.2) 2 (by omega) c rfl, yc_setG l i h (a, b, c, l[i].2.2.2) (a, b, c, d) 3 (by omega) d rfl, yc_setG l i h (a, b, c, d) (a, b, c, d) 4 (by omega) (.string ⟨#[]⟩) rfl, yc_setG l i h (a, b, c, d) (a, b, c, d) 5 (by omega) (.int .i64 0) rfl, yc_setG l i h (a, b, c, d) (a, b, c, d) 6 (by omega) (.int .i64 0) rfl, yc_setG l i h (a, b, c, d) (a, b, c, d) 7 (by omega) (.slice none 0 0) rfl]
/-- Eight cells of a system that is owned, put in. -/
def set8 (W : World) (g i : Nat) (d : Value) : World :=
  (((((((W.setCell ⟨g, i * 8, none⟩ (.slice none 0 0)).setCell ⟨g, i * 8 + 1, none⟩ (.slice none 0 0)).setCell ⟨g, i * 8 + 2, none⟩ (.slice none 0 0)).setCell ⟨g, i * 8 + 3, none⟩ d).setCell ⟨g, i * 8 + 4, none⟩ (.string ⟨#[]⟩)).setCell ⟨g, i * 8 + 5, none⟩ (.int .i64 0)).setCell ⟨g, i * 8 + 6, none⟩ (.int .i64 0)).setCell ⟨g, i * 8 + 7, none⟩ (.slice none 0 0)
theorem set8_own {W : World} {N g n c : Nat} {ys : List Yc} (h : W.ownsRow N 56 8 (.slice (some ⟨g, 0, none⟩) n c) n (yc ys)) (i : Nat) (hi : i < ys.length) (d : Value) : (set8 W g i d).ownsRow N 56 8 (.slice (some ⟨g, 0, none⟩) n c) n (yc (ys.set i (.slice none 0 0, .slice none 0 0, .slice none 0 0, d))) := by
  have := (((((((h.stored (i * 8) (.slice none 0 0)).1.stored (i * 8 + 1) (.slice none 0 0)).1.stored (i * 8 + 2) (.slice none 0 0)).1.stored (i * 8 + 3) d).1.stored (i * 8 + 4) (.string ⟨#[]⟩)).1.stored (i * 8 + 5) (.int .i64 0)).1.stored (i * 8 + 6) (.int .i64 0)).1.stored (i * 8 + 7) (.slice none 0 0)
  rw [yc_set8 ys i hi] at this
  exact this.1
theorem set8_mv {W0 W : World} {T : Nat → Prop} {g : Nat} (h : Mv W0 W T) (hg : T g) (i : Nat) (d : Value) : Mv W0 (set8 W g i d) T :=
  (((((((h.set hg _ _).set hg _ _).set hg _ _).set hg _ _).set hg _ _).set hg _ _).set hg _ _).set hg _ _
end Go.Proofs.Ythgjdmomcpcolaa
