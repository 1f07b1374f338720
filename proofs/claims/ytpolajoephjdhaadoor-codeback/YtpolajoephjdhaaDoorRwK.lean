/-
  What is laid, as the condition of the walks.
-/
import Derived.Test.YtpolajoephjdhaaDoorRwA
namespace Go.Proofs.YtpolajoephjdhaaDoor
open Go.ChangeShapes Go.WideShapes Go.ChangeAt Go.WideMaps Go.WideElems Go.RowKit
theorem kd_of_laid {l : List (String × DataW Unit)} {W : World} (hp : (l.all fun x => x.2.handleName?.isNone) = true)
    (k1 : l.filter (fun x => x.1 == "strconv.ErrRange") = [("strconv.ErrRange", Rows.laid_strconv_ErrRange)])
    (k2 : l.filter (fun x => x.1 == "strconv.ErrSyntax") = [("strconv.ErrSyntax", Rows.laid_strconv_ErrSyntax)])
    (k3 : l.filter (fun x => x.1 == "internal/strconv.uint64pow10") = [("internal/strconv.uint64pow10", Lib.tabData .u64 Lib.pow10Tab)])
    (k4 : l.filter (fun x => x.1 == "hindcast/code.rows") = [("hindcast/code.rows", Rows.laid_hindcast_code_rows)])
    (h : laidMetH Tryd.prog l W) : Kd W := by
  rw [MakeChecks.laidMetH_plain _ _ _ hp] at h
  refine ⟨tab_of_laid k4 h, pow_of_laid k3 h, fun g hg => ?_⟩
  rcases hg with rfl | rfl
  · obtain ⟨te, pe, e⟩ := err_of_laid gSyn gSynType k2 h
    exact ⟨_, e, .inr ⟨te, pe, rfl⟩⟩
  · obtain ⟨te, pe, e⟩ := err_of_laid gRange gRangeType k1 h
    exact ⟨_, e, .inr ⟨te, pe, rfl⟩⟩
end Go.Proofs.YtpolajoephjdhaaDoor
