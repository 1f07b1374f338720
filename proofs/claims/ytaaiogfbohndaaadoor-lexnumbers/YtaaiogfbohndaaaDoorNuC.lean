/-
  What Lex says of a number, and of what is none.
-/
import Derived.Test.YtaaiogfbohndaaaDoorShown
import Derived.Test.YtaaiogfbohndaaaDoorNuM
namespace Go.Proofs.YtaaiogfbohndaaaDoor
open Go.RowKit
theorem one_size (c : UInt8) : (⟨#[c]⟩ : ByteArray).size = 1 := rfl
theorem zeros_size : zeros.size = 18 := rfl
/-- A fault. -/
def Flt (s : ByteArray) : Prop := ∀ w, Wd w → Calls Tryd.prog 9 #[.string s] w fun e w' => Below w.heap.size w w' ∧ Wd w' ∧ ∃ N, e = .returned (.tuple #[.slice none 0 0, .iface 32 (.pointer (some ⟨N, 0, none⟩))])
theorem flt_zero {s : ByteArray} (h : Dg s) : Flt (⟨#[48]⟩ ++ s) := fun w hw => lex_no _ _ (by have := h.le; rw [size_app, one_size]; omega) (dg_zero h) w hw
theorem flt_x {s : ByteArray} (h : Dg s) : Flt (s ++ ⟨#[120]⟩) := fun w hw => lex_no _ _ (by have := h.le; rw [size_app, one_size]; omega) (dg_x h) w hw
theorem great_le {s : ByteArray} (h : Dg s) : ((⟨#[49]⟩ ++ s) ++ zeros).size ≤ 8000 := by
  have := h.le
  rw [size_app, size_app, one_size, zeros_size]
  omega
theorem flt_great' {s : ByteArray} (h : Dg s) : Flt ((⟨#[49]⟩ ++ s) ++ zeros) := fun w hw => lex_no _ _ (great_le h) (dg_great h) w hw
theorem flt_great {s : ByteArray} (h : Dg s) : Flt ((⟨#[49]⟩ ++ s) ++ ⟨#[48, 48, 48, 48, 48, 48, 48, 48, 48, 48, 48, 48, 48, 48, 48, 48, 48, 48]⟩) := by
  have h2 := flt_great' h
  unfold zeros at h2
  exact h2
theorem num_one {s : ByteArray} (h : Dg s) (w : World) (hw : Wd w) : Calls Tryd.prog 9 #[.string s] w fun e w' => Below w.heap.size w w' ∧ Wd w' ∧ ∃ g cap, e = .returned (.tuple #[.slice (some ⟨g, 0, none⟩) 2 cap, .nilIface]) ∧
    ∀ W, Below w'.heap.size w' W → W.cell? ⟨g, 0, none⟩ = some (.int .i64 2) ∧ W.cell? ⟨g, 1, none⟩ = some (.string s) := by
  refine (lex_ok s _ (by have := h.le; omega) (dg_one h) (by simp) w hw).mono ?_
  rintro e w' ⟨h1, h2, g, cap, rfl, h3⟩
  refine ⟨h1, h2, g, cap, rfl, fun W hW => ?_⟩
  have h4 := own_later h3 hW
  have e0 := h4.cellAt 0 (by simp)
  have e1 := h4.cellAt 1 (by simp)
  refine ⟨e0, e1.trans ?_⟩
  have : s.extract 0 s.size = s := ByteArray.extract_zero_size
  simp [tz, this]
theorem num_paren {s : ByteArray} (h : Dg s) (w : World) (hw : Wd w) : Calls Tryd.prog 9 #[.string ((⟨#[40]⟩ ++ s) ++ ⟨#[41]⟩)] w fun e w' => Below w.heap.size w w' ∧ Wd w' ∧ ∃ g cap, e = .returned (.tuple #[.slice (some ⟨g, 0, none⟩) 4 cap, .nilIface]) := by
  refine (lex_ok _ _ (by have := h.le; rw [size_app, size_app, one_size, one_size]; omega) (dg_paren h) (by simp) w hw).mono ?_
  rintro e w' ⟨h1, h2, g, cap, rfl, h3⟩
  exact ⟨h1, h2, g, cap, rfl⟩
end Go.Proofs.YtaaiogfbohndaaaDoor
