/-
  Buffer, full: numbers that come in, opened.
-/
import Derived.Test.YtiolaenkfhcajaaGreatFPut
import Derived.Test.YtiolaenkfhcajaaGreatRows
import Derived.ProofKit
import Derived.OpenShut
import Derived.ShutString
import Derived.ChangeOld
import Derived.SizedLaws
import Derived.JoinedCond
import Derived.Deep.CondSized
namespace Go.Proofs.YtiolaenkfhcajaaGreat
open Go.ChangeShapes Go.WideShapes Go.ChangeAt Go.RowKit
set_option maxRecDepth 100000
theorem own : ownKnob Tryz.prog.godebug = none := by kernel_rfl
theorem laidOut : laidOutB Tryz.prog = true := by kernel_rfl
section
variable {H : Type} {enc : TypeId × Value → H} {W : World}
theorem inI_of {n : Int} (h : (Lit.int .i64 n).wf = true) : -9223372036854775808 ≤ n ∧ n ≤ 9223372036854775807 := by
  have m1 : IntKind.i64.min = -9223372036854775808 := by rfl
  have m2 : IntKind.i64.max = 9223372036854775807 := by rfl
  simp [Lit.wf, m1, m2] at h
  omega
theorem nums_arg {a0 : Option Addr} {len0 cap0 : Nat} {d0 : DataW H} {p0 : List MemPlace} (h0 : DataW.Trod enc Tryz.prog W 0 (fun _ => true) true 22 (.slice a0 len0 cap0) d0 p0) : ∃ zs : List Int, zs.length = len0 ∧ Wz W a0 zs := by
  obtain ⟨fuel, hf⟩ := h0
  rcases open_ints Tryz.underlying22 Tryz.underlying3 (by kernel_rfl) hf with ⟨hcs, _⟩ | ⟨x, l, c, zs, hcs, _, hl, hm, hz, hx, hcell, hwz⟩
  · simp [Value.cells] at hcs
    obtain ⟨rfl, rfl, rfl⟩ := hcs
    exact ⟨[], rfl, fun j hj => absurd hj (by simp)⟩
  · simp [Value.cells] at hcs
    obtain ⟨rfl, rfl, rfl⟩ := hcs
    have hz' : zs.length = cap0 := by simpa using hz
    refine ⟨zs.take len0, by simp; omega, fun j hj => ?_⟩
    have hj' : j < len0 := by simp at hj; omega
    obtain ⟨g, o, rfl, hc⟩ := ints_at hcell (by omega)
    have c1 := hc j (by omega)
    have e1 : zs.getD j 0 = zs[j]'(by omega) := by rw [List.getD_eq_getElem?_getD, List.getElem?_eq_getElem (by omega)]; rfl
    rw [e1] at c1
    have e2 : (zs.take len0)[j] = zs[j]'(by omega) := List.getElem_take
    rw [e2]
    exact ⟨inI_of (hwz _ (List.getElem_mem _)), g, o, rfl, World.block_lt_of_cell? W _ c1, c1⟩
end
end Go.Proofs.YtiolaenkfhcajaaGreat
