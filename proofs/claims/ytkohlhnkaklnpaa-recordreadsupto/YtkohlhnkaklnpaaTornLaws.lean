/-
  What RecordTorn's walks share.
-/
import Derived.Test.YtkohlhnkaklnpaaScan
import Derived.Test.YtkohlhnkaklnpaaConv
namespace Go.Proofs.Ytkohlhnkaklnpaa
open Go.RowKit
/-- Ends of a test on a length. -/
theorem fit_tests {a : List UInt8} (h : Rc.fits a) : ((a.length : Int) == 0) = false ∧ ¬ (a.length : Int) > 100000 := by
  have h1 : a.length ≠ 0 := fun e => h.1 (List.eq_nil_of_length_eq_zero e)
  have h2 := h.2
  exact ⟨by rw [beq_eq_false_iff_ne]; omega, by omega⟩
theorem made_small {d : List UInt8} (h : Rc.fits d) : (Rc.made d).length ≤ 200000 := by
  have h1 := h.2
  have h2 := Lib.uvarint_length64 (x := d.length) (by omega)
  rw [Rc.made_length]
  omega
theorem below_drawn (w : World) : ∀ n, Below w.heap.size w (w.drewN n)
  | 0 => Below.refl _ _
  | n + 1 => by
    have := below_drawn w n
    simpa using this.drew
/-- What has been scanned, and is not nothing. -/
theorem Scanned.some {w : World} {B : Nat} {v : Value} {ds : List (List UInt8)} (h : Scanned w B v ds) (h0 : ds ≠ []) :
    ∃ g c, v = .slice (some ⟨g, 0, none⟩) ds.length c ∧ ds.length ≤ c ∧ c ≤ maxLen ∧ B ≤ g ∧ ∀ i (hi : i < ds.length), ∃ ao n k, w.cell? ⟨g, i, none⟩ = some (.slice ao n k) ∧ Piece w B (.slice ao n k) ds[i] := by
  obtain ⟨vs, h1, h2, _⟩ := h
  rcases h1.2 with ⟨rfl, hz⟩ | ⟨g, cap, cur, rfl, hb, hg, hnc, hcm, hcs, htake⟩
  · exact absurd (List.eq_nil_of_length_eq_zero hz) h0
  · refine ⟨g, cap, rfl, hnc, hcm, hb, fun i hi => ?_⟩
    have hv : i < vs.length := by rw [h2.1]; exact hi
    obtain ⟨hp, _⟩ := h2.2.1 i hv hi
    obtain ⟨ao, n, k, e⟩ := hp.shape
    rw [e] at hp
    refine ⟨ao, n, k, ?_, hp⟩
    rw [h1.cellAt i (by omega), List.getElem?_eq_getElem hv, e]
theorem turned_byte (y : UInt8) {q : Nat} (hq : q < 255) : ∃ x : UInt8, x ≠ y ∧ IntKind.u8.wrap (IntKind.i64.wrap (IntKind.i64.wrap (IntKind.i64.wrap (y.toNat : Int) + 1) + (q : Int))) = ((x.toNat : Nat) : Int) := by
  have hy := y.toNat_lt
  refine ⟨UInt8.ofNat (y.toNat + 1 + q), fun e => ?_, ?_⟩
  · have := congrArg UInt8.toNat e
    rw [UInt8.toNat_ofNat'] at this
    omega
  · rw [UInt8.toNat_ofNat', IntKind.wrap_u8, IntKind.wrap_i64, IntKind.wrap_i64, IntKind.wrap_i64]
    omega
theorem turned_row {w w5 : World} {B g c n j q : Nat} {l : List UInt8} (h : w.ownsRow B 5 1 (.slice (some ⟨g, 0, none⟩) n c) n (Lib.byteCells l)) (y : UInt8) (hq : q < 255) (hb : Below B w5 w) :
    ∃ x : UInt8, x ≠ y ∧ Hid ((w.setCell ⟨g, j, none⟩ (.int .u8 (IntKind.u8.wrap (IntKind.i64.wrap (IntKind.i64.wrap (IntKind.i64.wrap (y.toNat : Int) + 1) + (q : Int)))))).drew.ownsRow B 5 1 (.slice (some ⟨g, 0, none⟩) n c) n (Lib.byteCells (l.set j x))) ∧
      Hid (Below B w5 (w.setCell ⟨g, j, none⟩ (.int .u8 (IntKind.u8.wrap (IntKind.i64.wrap (IntKind.i64.wrap (IntKind.i64.wrap (y.toNat : Int) + 1) + (q : Int)))))).drew) := by
  obtain ⟨x, hx, e⟩ := turned_byte y hq
  rw [e]
  refine ⟨x, hx, ?_, ((hb.setCell ((h.lt g rfl).1) _).drew)⟩
  have := (h.stored j (.int .u8 x.toNat)).1
  rw [show (Lib.byteCells l).set j (.int .u8 x.toNat) = Lib.byteCells (l.set j x) by simp [Lib.byteCells, List.map_set]] at this
  exact this
theorem conv_drawn {w : World} {v : Value} {l : List UInt8} (h : Bs w v l) : ∀ m, (convert 22 9 v).run Try.prog (w.drewN m) = .ok (.string ⟨l.toArray⟩) (w.drewN m) :=
  fun m => conv_bs (h.below (below_drawn w m) (Nat.le_refl _))
end Go.Proofs.Ytkohlhnkaklnpaa
