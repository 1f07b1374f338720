/-
  Verify: the table of instructions is laid.
-/
import Derived.Test.YtfkhhplcogedmaaGreatDoorCards
import Derived.Test.YtfkhhplcogedmaaGreatDoorTie
import Derived.Test.YtfkhhplcogedmaaGreatDoorMgE
import Derived.ProofKit
import Derived.LaidMore
import Derived.OpenShut
import Derived.ShutString
import Derived.SizedLaws
import Derived.Stop.Joined
import Derived.Stop.LaidErr
import Derived.Lib.LaidTab
import Derived.LaidSub
import Derived.SevenTiedAt
import Derived.Lib.SmallJoins
namespace Go.Proofs.YtfkhhplcogedmaaGreatDoor
open Go.ChangeShapes Go.WideShapes Go.ChangeAt Go.WideMaps Go.WideElems Go.RowKit
set_option maxRecDepth 100000
theorem own : ownKnob Tryz.prog.godebug = none := by kernel_rfl
theorem laidOutD : laidOutB Tryz.prog = true := by kernel_rfl
theorem gRows : Tryz.prog.globalNamed "hindcast/code.rows" = some 0 := by kernel_rfl
theorem gRowsType : (Tryz.prog.globals[0]?).map (·.type) = some 181 := by kernel_rfl
def rowD (k : Nat) : DataW Unit := .agg [.lit (.string (wdL k)), .lit (.bool (numb k)), .lit (.int .i64 (tak k : Int)), .lit (.int .i64 (pts k : Int))]
theorem rowsD : (Rows.laid_hindcast_code_rows : DataW Unit) = .agg ((List.range 40).map rowD) := by kernel_rfl
theorem tab_of_laid {l : List (String × DataW Unit)} {W : World} (hk : l.filter (fun x => x.1 == "hindcast/code.rows") = [("hindcast/code.rows", Rows.laid_hindcast_code_rows)]) (h : laidMet Tryz.prog l W) : Tb W := by
  have h2 := laidMet.filter (fun x => x.1 == "hindcast/code.rows") h
  rw [hk, rowsD] at h2
  obtain ⟨ps, ⟨g', t', cs, fuel, p, q, hg', ht', hvar, hd, _, _⟩, _⟩ := h2
  obtain rfl := Option.some.inj (gRows.symm.trans hg')
  obtain rfl := Option.some.inj (gRowsType.symm.trans ht')
  obtain ⟨xs, m, -, hx, hcl, hxl, hel⟩ := DataW.trod_array Tryz.underlying181 hd
  have hx1 : (List.range 40).map rowD = xs.map (·.1) := by
    have := congrArg Prod.fst hx
    simpa using this
  intro k hk
  have e1 := hel k hk
  have hxk : xs[k]?.map (·.1) = some (rowD k) := by
    rw [← List.getElem?_map, ← hx1, List.getElem?_map, List.getElem?_range hk]; rfl
  obtain ⟨x, hx2, hx3⟩ := Option.map_eq_some_iff.1 hxk
  rw [hx2] at e1
  have c4 : Tryz.prog.cellsOf 162 = 4 := by kernel_rfl
  have cS : Tryz.prog.cellsOf 9 = 1 := by kernel_rfl
  have cB : Tryz.prog.cellsOf 4 = 1 := by kernel_rfl
  have cI : Tryz.prog.cellsOf 3 = 1 := by kernel_rfl
  rw [c4] at e1
  obtain ⟨y0, y1, y2, y3, n, hy, -, f0, f1, f2, f3⟩ := Joins.trod_struct4 Tryz.underlying162 e1
  obtain ⟨s, s1, s2, -⟩ := DataW.trod_string Tryz.underlying9 f0
  obtain ⟨b, b1, b2⟩ := DataW.trod_bool Tryz.underlying4 f1
  obtain ⟨u, u1, u2, -⟩ := DataW.trod_int Tryz.underlying3 f2
  obtain ⟨v, v1, v2, -⟩ := DataW.trod_int Tryz.underlying3 f3
  have hy' : DataW.agg [y0.1, y1.1, y2.1, y3.1] = rowD k := by rw [← hx3, hy]
  rw [s2, b2, u2, v2] at hy'
  simp only [rowD, DataW.agg.injEq, List.cons.injEq, DataW.lit.injEq, Lit.string.injEq, Lit.bool.injEq, Lit.int.injEq, true_and, and_true] at hy'
  obtain ⟨q1, q2, q3, q4⟩ := hy'
  have cell : ∀ j, W.cell? ⟨0, j, none⟩ = cs.toList[j]? := fun j => (World.var?_cell gRows hvar j).trans (by simp)
  have tk : ∀ (o : Nat) (z : Value), o < 4 → (((cs.toList.drop (k * 4)).take 4).drop o).take 1 = [z] → W.cell? ⟨0, k * 4 + o, none⟩ = some z := fun o z ho e => by
    rw [cell]
    have e2 := congrArg (fun l => l[0]?) e
    simp only [List.getElem?_take, List.getElem?_drop, List.getElem?_cons_zero] at e2
    simpa [ho] using e2
  have hs : s = wd k := by
    have : s.data.toList = (wd k).data.toList := q1
    exact ByteArray.ext (Array.toList_inj.1 this)
  refine ⟨?_, ?_, ?_, ?_⟩
  · rw [← hs]; exact tk 0 _ (by omega) s1
  · rw [← q2]; exact tk 1 _ (by omega) b1
  · rw [← q3]; exact tk 2 _ (by omega) u1
  · rw [← q4]; exact tk 3 _ (by omega) v1
end Go.Proofs.YtfkhhplcogedmaaGreatDoor
