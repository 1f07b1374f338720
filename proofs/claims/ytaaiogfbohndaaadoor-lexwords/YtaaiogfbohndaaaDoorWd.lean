/-
  What the rows share: the library's error is laid.
-/
import Derived.Test.YtaaiogfbohndaaaDoorCards
import Derived.Test.YtaaiogfbohndaaaDoorTie
import Derived.Test.YtaaiogfbohndaaaDoorSgn
import Derived.ProofKit
import Derived.LaidMore
import Derived.OpenShut
import Derived.ShutString
import Derived.SizedLaws
import Derived.Stop.Joined
import Derived.Stop.LaidErr
import Derived.Lib.LaidTab
import Derived.LaidSub
import Derived.SevenTiedAt

namespace Go.Proofs.YtaaiogfbohndaaaDoor
open Go.ChangeShapes Go.WideShapes Go.ChangeAt Go.WideMaps Go.WideElems Go.RowKit

theorem own : ownKnob Tryd.prog.godebug = none := by kernel_rfl
theorem gRange : Tryd.prog.globalNamed "strconv.ErrRange" = some 4 := by kernel_rfl
theorem gRangeType : (Tryd.prog.globals[4]?).map (·.type) = some 27 := by kernel_rfl
theorem cells117 : Tryd.prog.cellsOf 117 = 1 := by kernel_rfl
theorem cells9 : Tryd.prog.cellsOf 9 = 1 := by kernel_rfl
theorem star : "*" ++ "errors.errorString" = "*errors.errorString" := by decide
theorem row115 (u : TypeId) (h : Tryd.prog.typeName? 3 u = some "*errors.errorString") : u = 115 :=
  typeName_ptr_named (nm := "errors.errorString") (by rw [star]; kernel_rfl) (by kernel_rfl) (by decide) u (by rw [star]; exact h)
theorem wd_of_laid {l : List (String × DataW Unit)} {W : World} (hp : (l.all fun x => x.2.handleName?.isNone) = true)
    (hk : l.filter (fun x => x.1 == "strconv.ErrRange") = [("strconv.ErrRange", Rows.laid_strconv_ErrRange)]) (h : laidMetH Tryd.prog l W) : Wd W := by
  rw [MakeChecks.laidMetH_plain _ _ _ hp] at h
  have h2 := laidMet.filter (fun x => x.1 == "strconv.ErrRange") h
  rw [hk] at h2
  obtain ⟨a, s, hv, _⟩ := laid_sentinel h2 gRange gRangeType Tryd.underlying27 row115 Tryd.underlying115 Tryd.underlying117 rfl rfl Tryd.underlying9 cells117 cells9
  have h3 := World.var?_cell gRange hv 0
  exact ⟨_, h3.trans rfl, Or.inr ⟨_, _, rfl⟩⟩
end Go.Proofs.YtaaiogfbohndaaaDoor
