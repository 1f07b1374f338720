/-
  Buffer: what comes in, opened: pairs of numbers, numbers.
-/
import Derived.Test.YtfjfimmbdnfeiaaBWr
import Derived.Test.YtfjfimmbdnfeiaaRows
import Derived.ProofKit
import Derived.OpenShut
import Derived.ShutString
import Derived.ChangeOld
import Derived.SizedLaws
import Derived.JoinedCond
import Derived.Deep.CondSized
import Derived.Deep.SlicePairs
namespace Go.Proofs.Ytfjfimmbdnfeiaa
open Go.ChangeShapes Go.WideShapes Go.ChangeAt Go.RowKit
set_option maxRecDepth 100000
theorem own : ownKnob Try.prog.godebug = none := by kernel_rfl
theorem laidOut : laidOutB Try.prog = true := by kernel_rfl
section
variable {H : Type} {enc : TypeId × Value → H} {W : World}
theorem inI_of {n : Int} (h : (Lit.int .i64 n).wf = true) : -9223372036854775808 ≤ n ∧ n ≤ 9223372036854775807 := by
  have m1 : IntKind.i64.min = -9223372036854775808 := by rfl
  have m2 : IntKind.i64.max = 9223372036854775807 := by rfl
  simp [Lit.wf, m1, m2] at h
  omega
theorem spot_of {a : Addr} {v : Value} (h : W.cell? (a.add 0) = some v) : ∃ g o, a = ⟨g, o, none⟩ := by
  obtain ⟨g, o, spot⟩ := a
  have hspot : spot = none := by simpa [Addr.add] using World.cell?_spot h
  exact ⟨g, o, by rw [hspot]⟩
theorem nums_arg {a0 : Option Addr} {len0 cap0 : Nat} {d0 : DataW H} {p0 : List MemPlace} (h0 : DataW.Trod enc Try.prog W 0 (fun _ => true) true 23 (.slice a0 len0 cap0) d0 p0) : ∃ zs : List Int, zs.length = len0 ∧ Wz W a0 zs := by
  obtain ⟨fuel, hf⟩ := h0
  rcases open_ints Try.underlying23 Try.underlying3 (by kernel_rfl) hf with ⟨hcs, _⟩ | ⟨x, l, c, zs, hcs, _, hl, hm, hz, hx, hcell, hwz⟩
  · simp [Value.cells] at hcs
    obtain ⟨rfl, rfl, rfl⟩ := hcs
    exact ⟨[], rfl, fun j hj => absurd hj (by simp)⟩
  · simp [Value.cells] at hcs
    obtain ⟨rfl, rfl, rfl⟩ := hcs
    have hz' : zs.length = cap0 := by simpa using hz
    refine ⟨zs.take len0, by simp; omega, fun j hj => ?_⟩
    have hj' : j < len0 := by simp at hj; omega
    obtain ⟨g, o, rfl, hc⟩ := ints_at hcell (by omega)
    have c1 := hc j (by omega)
    have e1 : zs.getD j 0 = zs[j]'(by omega) := by rw [List.getD_eq_getElem?_getD, List.getElem?_eq_getElem (by omega)]; rfl
    rw [e1] at c1
    have e2 : (zs.take len0)[j] = zs[j]'(by omega) := List.getElem_take
    rw [e2]
    exact ⟨inI_of (hwz _ (List.getElem_mem _)), g, o, rfl, World.block_lt_of_cell? W _ c1, c1⟩
theorem wants_arg {a0 : Option Addr} {len0 cap0 : Nat} {d0 : DataW H} {p0 : List MemPlace} (h0 : DataW.Trod enc Try.prog W 0 (fun _ => true) true 22 (.slice a0 len0 cap0) d0 p0) : ∃ g o ws, ws.length = len0 ∧ Wr W a0 g o ws := by
  obtain ⟨fuel, hf⟩ := h0
  rcases Go.Deep.open_slice_pairs Try.underlying22 Try.underlying31 (by kernel_rfl) (by kernel_rfl) (by kernel_rfl) (by kernel_rfl) (by kernel_rfl) hf with ⟨hcs, _⟩ | ⟨a, len, cap, m, n, V0, V1, D0, D1, P0, P1, hcs, hb, hl, hm, hmm, hx, hcell⟩
  · simp [Value.cells] at hcs
    obtain ⟨rfl, rfl, rfl⟩ := hcs
    exact ⟨0, 0, [], rfl, fun h => absurd h (by simp), fun j hj => absurd hj (by simp)⟩
  · simp [Value.cells] at hcs
    obtain ⟨rfl, rfl, rfl⟩ := hcs
    have hmc : m = cap0 := by rw [hmm]; rfl
    rcases Nat.eq_zero_or_pos len0 with hz | hp
    · exact ⟨0, 0, [], by rw [hz]; rfl, fun h => absurd h (by simp), fun j hj => absurd hj (by simp)⟩
    · obtain ⟨g, o, rfl⟩ := spot_of (W := W) (a := a) (by simpa using (hcell 0 (by omega)).1)
      have hb0 := World.block_lt_of_cell? W _ (hcell 0 (by omega)).1
      refine ⟨g, o, (List.range len0).map (fun j => (intOf (V0 j), intOf (V1 j))), by simp, fun _ => ⟨rfl, hb0⟩, fun j hj => ?_⟩
      have hj' : j < len0 := by simpa using hj
      obtain ⟨c0, c1, k0, k1⟩ := hcell j (by omega)
      obtain ⟨x, x1, -, x3⟩ := DataW.trod_int Try.underlying3 k0
      obtain ⟨y, y1, -, y3⟩ := DataW.trod_int Try.underlying3 k1
      simp only [List.cons.injEq, and_true] at x1 y1
      rw [x1, Go.WideShapes.add_plain] at c0
      rw [y1, Go.WideShapes.add_plain] at c1
      simp only [List.getElem_map, List.getElem_range, x1, y1, intOf]
      exact ⟨⟨inI_of x3, inI_of y3⟩, c0, c1⟩
end
end Go.Proofs.Ytfjfimmbdnfeiaa
