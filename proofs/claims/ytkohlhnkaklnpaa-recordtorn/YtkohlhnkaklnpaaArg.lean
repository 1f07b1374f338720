/-
  A slice of bytes that came in, opened.
-/
import Derived.Test.YtkohlhnkaklnpaaOpen
namespace Go.Proofs.Ytkohlhnkaklnpaa
open Go.ChangeShapes Go.WideShapes Go.ChangeAt Go.RowKit
theorem bytes_arg {H : Type} {enc : TypeId × Value → H} {W : World} {a0 : Option Addr} {len0 cap0 : Nat} {d0 : DataW H} {p0 : List MemPlace} (h0 : DataW.Trod enc Try.prog W 0 (fun _ => true) true 22 (.slice a0 len0 cap0) d0 p0) :
    ∃ l : List UInt8, l.length = len0 ∧ Bs W (.slice a0 len0 cap0) l ∧ NilOr (.slice a0 len0 cap0) := by
  obtain ⟨fuel, hf⟩ := h0
  rcases open_ints Try.underlying22 Try.underlying5 (by kernel_rfl) hf with ⟨hcs, _⟩ | ⟨x, l, c, zs, hcs, _, hl, hm, hz, hx, hcell, hwz⟩
  · simp [Value.cells] at hcs
    obtain ⟨rfl, rfl, rfl⟩ := hcs
    exact ⟨[], rfl, Bs.nil W, .inl rfl⟩
  · simp [Value.cells] at hcs
    obtain ⟨rfl, rfl, rfl⟩ := hcs
    have hz' : zs.length = cap0 := by simpa using hz
    obtain ⟨l0, hl0, hb0⟩ := bytes_of hl hm hz' hcell hwz
    exact ⟨l0, hl0, hb0, .inr ⟨_, _, _, rfl⟩⟩
end Go.Proofs.Ytkohlhnkaklnpaa
