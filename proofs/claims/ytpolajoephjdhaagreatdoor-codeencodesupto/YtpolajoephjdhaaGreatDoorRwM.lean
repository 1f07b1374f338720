import Derived.Test.YtpolajoephjdhaaGreatDoorCards
import Derived.Test.YtpolajoephjdhaaGreatDoorTie
import Derived.Test.YtpolajoephjdhaaGreatDoorCoI
import Derived.ProofKit
import Derived.LaidMore
import Derived.OpenShut
import Derived.ShutString
import Derived.SizedLaws
import Derived.Stop.Joined
import Derived.Stop.LaidErr
import Derived.Lib.LaidTab
import Derived.LaidSub
import Derived.SevenTiedAt
import Derived.Lib.SmallJoins
/-
  What the rows share: the package variables are laid.
-/
namespace Go.Proofs.YtpolajoephjdhaaGreatDoor
open Go.ChangeShapes Go.WideShapes Go.ChangeAt Go.WideMaps Go.WideElems Go.RowKit
set_option maxRecDepth 100000
theorem own : ownKnob Tryz.prog.godebug = none := by kernel_rfl
theorem laidOutD : laidOutB Tryz.prog = true := by kernel_rfl
theorem gRange : Tryz.prog.globalNamed "strconv.ErrRange" = some 4 := by kernel_rfl
theorem gRangeType : (Tryz.prog.globals[4]?).map (·.type) = some 29 := by kernel_rfl
theorem gSyn : Tryz.prog.globalNamed "strconv.ErrSyntax" = some 3 := by kernel_rfl
theorem gSynType : (Tryz.prog.globals[3]?).map (·.type) = some 29 := by kernel_rfl
theorem gRows : Tryz.prog.globalNamed "hindcast/code.rows" = some 0 := by kernel_rfl
theorem gRowsType : (Tryz.prog.globals[0]?).map (·.type) = some 116 := by kernel_rfl
theorem gPowType : (Tryz.prog.globals[2]?).map (·.type) = some 163 := by kernel_rfl
theorem cellsErr : Tryz.prog.cellsOf 186 = 1 := by kernel_rfl
theorem cells9 : Tryz.prog.cellsOf 9 = 1 := by kernel_rfl
theorem star : "*" ++ "errors.errorString" = "*errors.errorString" := by decide
theorem rowErr (u : TypeId) (h : Tryz.prog.typeName? 3 u = some "*errors.errorString") : u = 184 :=
  typeName_ptr_named (nm := "errors.errorString") (by rw [star]; kernel_rfl) (by kernel_rfl) (by decide) u (by rw [star]; exact h)
theorem err_of_laid {l : List (String × DataW Unit)} {W : World} {nm : String} {g : Nat} {bs : List UInt8} (hg : Tryz.prog.globalNamed nm = some g) (ht : (Tryz.prog.globals[g]?).map (·.type) = some 29) (hk : l.filter (fun x => x.1 == nm) = [(nm, .iface "*errors.errorString" (.ptr (.agg [.lit (.string bs)])))]) (h : laidMet Tryz.prog l W) : ∃ te pe, W.cell? ⟨g, 0, none⟩ = some (.iface te pe) := by
  have h2 := laidMet.filter (fun x => x.1 == nm) h
  rw [hk] at h2
  obtain ⟨a, s, hv, _⟩ := laid_sentinel h2 hg ht Tryz.underlying29 rowErr Tryz.underlying184 Tryz.underlying186 rfl rfl Tryz.underlying9 cellsErr cells9
  exact ⟨_, _, (World.var?_cell hg hv 0).trans rfl⟩
theorem pow_of_laid {l : List (String × DataW Unit)} {W : World} (hk : l.filter (fun x => x.1 == "internal/strconv.uint64pow10") = [("internal/strconv.uint64pow10", Lib.tabData .u64 Lib.pow10Tab)]) (h : laidMet Tryz.prog l W) : Pw W := by
  have h2 := laidMet.filter (fun x => x.1 == "internal/strconv.uint64pow10") h
  rw [hk] at h2
  exact Lib.tabIs_of_head gPow gPowType Tryz.underlying163 Tryz.underlying87 (by kernel_rfl) (by kernel_rfl) h2
def rowD (k : Nat) : DataW Unit := .agg [.lit (.string (wdL k)), .lit (.bool (numb k)), .lit (.int .i64 (tak k : Int)), .lit (.int .i64 (pts k : Int))]
theorem rowsD : (Rows.laid_hindcast_code_rows : DataW Unit) = .agg ((List.range 40).map rowD) := by kernel_rfl
theorem tab_of_laid {l : List (String × DataW Unit)} {W : World} (hk : l.filter (fun x => x.1 == "hindcast/code.rows") = [("hindcast/code.rows", Rows.laid_hindcast_code_rows)]) (h : laidMet Tryz.prog l W) : Tb W := by
  have h2 := laidMet.filter (fun x => x.1 == "hindcast/code.rows") h
  rw [hk, rowsD] at h2
  obtain ⟨ps, ⟨g', t', cs, fuel, p, q, hg', ht', hvar, hd, _, _⟩, _⟩ := h2
  obtain rfl := Option.some.inj (gRows.symm.trans hg')
  obtain rfl := Option.some.inj (gRowsType.symm.trans ht')
  obtain ⟨xs, m, -, hx, hcl, hxl, hel⟩ := DataW.trod_array Tryz.underlying116 hd
  have hx1 : (List.range 40).map rowD = xs.map (·.1) := by
    have := congrArg Prod.fst hx
    simpa using this
  intro k hk
  have e1 := hel k hk
  have hxk : xs[k]?.map (·.1) = some (rowD k) := by
    rw [← List.getElem?_map, ← hx1, List.getElem?_map, List.getElem?_range hk]; rfl
  obtain ⟨x, hx2, hx3⟩ := Option.map_eq_some_iff.1 hxk
  rw [hx2] at e1
  have c4 : Tryz.prog.cellsOf 112 = 4 := by kernel_rfl
  have cS : Tryz.prog.cellsOf 9 = 1 := by kernel_rfl
  have cB : Tryz.prog.cellsOf 4 = 1 := by kernel_rfl
  have cI : Tryz.prog.cellsOf 3 = 1 := by kernel_rfl
  rw [c4] at e1
  obtain ⟨y0, y1, y2, y3, n, hy, -, f0, f1, f2, f3⟩ := Joins.trod_struct4 Tryz.underlying112 e1
  obtain ⟨s, s1, s2, -⟩ := DataW.trod_string Tryz.underlying9 f0
  obtain ⟨b, b1, b2⟩ := DataW.trod_bool Tryz.underlying4 f1
  obtain ⟨u, u1, u2, -⟩ := DataW.trod_int Tryz.underlying3 f2
  obtain ⟨v, v1, v2, -⟩ := DataW.trod_int Tryz.underlying3 f3
  have hy' : DataW.agg [y0.1, y1.1, y2.1, y3.1] = rowD k := by rw [← hx3, hy]
  rw [s2, b2, u2, v2] at hy'
  simp only [rowD, DataW.agg.injEq, List.cons.injEq, DataW.lit.injEq, Lit.string.injEq, Lit.bool.injEq, Lit.int.injEq, true_and, and_true] at hy'
  obtain ⟨q1, q2, q3, q4⟩ := hy'
  have cell : ∀ j, W.cell? ⟨0, j, none⟩ = cs.toList[j]? := fun j => (World.var?_cell gRows hvar j).trans (by simp)
  have tk : ∀ (o : Nat) (z : Value), o < 4 → (((cs.toList.drop (k * 4)).take 4).drop o).take 1 = [z] → W.cell? ⟨0, k * 4 + o, none⟩ = some z := fun o z ho e => by
    rw [cell]
    have e2 := congrArg (fun l => l[0]?) e
    simp only [List.getElem?_take, List.getElem?_drop, List.getElem?_cons_zero] at e2
    simpa [ho] using e2
  have hs : s = wd k := by
    have : s.data.toList = (wd k).data.toList := q1
    exact ByteArray.ext (Array.toList_inj.1 this)
  refine ⟨?_, ?_, ?_, ?_⟩
  · rw [← hs]; exact tk 0 _ (by omega) s1
  · rw [← q2]; exact tk 1 _ (by omega) b1
  · rw [← q3]; exact tk 2 _ (by omega) u1
  · rw [← q4]; exact tk 3 _ (by omega) v1
end Go.Proofs.YtpolajoephjdhaaGreatDoor

/-
  What is laid, as the condition of the walks.
-/
namespace Go.Proofs.YtpolajoephjdhaaGreatDoor
open Go.ChangeShapes Go.WideShapes Go.ChangeAt Go.WideMaps Go.WideElems Go.RowKit
theorem kd_of_laid {l : List (String × DataW Unit)} {W : World} (hp : (l.all fun x => x.2.handleName?.isNone) = true)
    (k1 : l.filter (fun x => x.1 == "strconv.ErrRange") = [("strconv.ErrRange", Rows.laid_strconv_ErrRange)])
    (k2 : l.filter (fun x => x.1 == "strconv.ErrSyntax") = [("strconv.ErrSyntax", Rows.laid_strconv_ErrSyntax)])
    (k3 : l.filter (fun x => x.1 == "internal/strconv.uint64pow10") = [("internal/strconv.uint64pow10", Lib.tabData .u64 Lib.pow10Tab)])
    (k4 : l.filter (fun x => x.1 == "hindcast/code.rows") = [("hindcast/code.rows", Rows.laid_hindcast_code_rows)])
    (h : laidMetH Tryz.prog l W) : Kd W := by
  rw [MakeChecks.laidMetH_plain _ _ _ hp] at h
  refine ⟨tab_of_laid k4 h, pow_of_laid k3 h, fun g hg => ?_⟩
  rcases hg with rfl | rfl
  · obtain ⟨te, pe, e⟩ := err_of_laid gSyn gSynType k2 h
    exact ⟨_, e, .inr ⟨te, pe, rfl⟩⟩
  · obtain ⟨te, pe, e⟩ := err_of_laid gRange gRangeType k1 h
    exact ⟨_, e, .inr ⟨te, pe, rfl⟩⟩
end Go.Proofs.YtpolajoephjdhaaGreatDoor
