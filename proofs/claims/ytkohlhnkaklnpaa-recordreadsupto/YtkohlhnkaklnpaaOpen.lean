import Derived.Test.YtkohlhnkaklnpaaRows
import Derived.Test.YtkohlhnkaklnpaaShown
import Derived.ProofKit
import Derived.OpenShut
import Derived.ShutString
import Derived.ChangeOld
import Derived.SizedLaws
import Derived.JoinedCond
import Derived.Deep.CondSized
/-
  What came in, opened: a slice of bytes reads as a list of bytes.
-/
namespace Go.Proofs.Ytkohlhnkaklnpaa
open Go.ChangeShapes Go.WideShapes Go.ChangeAt Go.RowKit

theorem own : ownKnob Try.prog.godebug = none := by kernel_rfl
theorem laidOut : laidOutB Try.prog = true := by kernel_rfl
theorem bytes5 : Try.prog.bytesOf 5 = 1 := by kernel_rfl

theorem bytes_of {W : World} {x : Addr} {len cap : Nat} {zs : List Int} (hl : len ≤ cap) (hm : cap ≤ maxLen) (hz : zs.length = cap) (hc : ∀ i, i < zs.length → W.cell? (x.add i) = some (.int .u8 (zs.getD i 0))) (hw : ∀ n ∈ zs, (Lit.int .u8 n).wf = true) :
    ∃ l : List UInt8, l.length = len ∧ Bs W (.slice (some x) len cap) l := by
  refine ⟨(zs.take len).map fun z => UInt8.ofNat z.toNat, by simp; omega, some x, cap, by simp; omega, by simp; omega, hm, fun j hj => ?_⟩
  simp at hj
  obtain ⟨b, o, rfl, hc'⟩ := ints_at hc (by omega)
  refine ⟨b, o, rfl, ?_⟩
  rw [hc' j (by omega)]
  have hb := bounds_u8 (hw zs[j] (List.getElem_mem _))
  have e : (UInt8.ofNat zs[j].toNat).toNat = zs[j].toNat := by simp [UInt8.toNat_ofNat']; omega
  simp only [List.getElem_map, List.getElem_take, e]
  rw [List.getD_eq_getElem?_getD, List.getElem?_eq_getElem (by omega)]
  simp
  omega
end Go.Proofs.Ytkohlhnkaklnpaa
