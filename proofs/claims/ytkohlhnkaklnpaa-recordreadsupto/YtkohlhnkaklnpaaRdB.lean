/-
  RecordReads: small laws, and how its pieces of code follow one another.
-/
import Derived.Test.YtkohlhnkaklnpaaRdA
import Derived.Test.YtkohlhnkaklnpaaConv
namespace Go.Proofs.Ytkohlhnkaklnpaa
open Go.RowKit Go.Shelf
theorem get_sevens (n : Nat) : Rc.get (List.replicate n 77) = ([], 0) := by
  refine Rc.get_neg (fun h => ?_)
  have h0 := h.1.1
  rw [List.getElem?_replicate] at h0
  split at h0
  · exact absurd (Option.some.inj h0) (by decide)
  · cases h0
theorem get_len (b : List UInt8) : (Rc.get b).1.length ≤ b.length := by
  by_cases h : (Rc.get b).2 = 0
  · by_cases hw : Rc.whole b ∧ Rc.sum4 (b.take (1 + Rc.siz b) ++ Rc.data b) = (b.drop (1 + Rc.siz b)).take 4
    · rw [Rc.get_pos hw.1 hw.2] at h
      have h1 := hw.1.2.1
      simp only at h
      omega
    · rw [Rc.get_neg hw]
      simp
  · obtain ⟨hw, _, e⟩ := Rc.get_whole h
    rw [e]
    have h1 := Rc.data_length hw
    have h2 := hw.2.2.2
    show (Rc.data b).length ≤ b.length
    omega
theorem Piece.low {w : World} {B B' : Nat} {v : Value} {l : List UInt8} (h : Piece w B v l) (hB : B' ≤ B) : Piece w B' v l := by
  rcases h with h0 | ⟨g, o, cur, rfl, a1, a2⟩
  · exact .inl h0
  · exact .inr ⟨g, o, cur, rfl, Nat.le_trans hB a1, a2⟩
theorem Scanned.on {w w' : World} {B : Nat} {v : Value} {ds : List (List UInt8)} (h : Scanned w B v ds) (hs : ∀ k, B ≤ k → k < w.heap.size → w'.heap[k]? = w.heap[k]?) : Scanned w' B v ds := by
  obtain ⟨vs, h1, ⟨h2, h3, h4⟩, h5⟩ := h
  exact ⟨vs, own_on h1 (fun k e => hs k (h1.lt k e).1 (h1.lt k e).2), ⟨h2, fun i i1 i2 => ⟨(h3 i i1 i2).1.on (fun k e => hs k ((h3 i i1 i2).1.block k e).1 ((h3 i i1 i2).1.block k e).2), (h3 i i1 i2).2⟩, h4⟩, h5⟩
theorem row_elem {w : World} {B n i : Nat} {ao : Option Addr} {c : Nat} {us : List Value} (h : w.ownsRow B 22 1 (.slice ao n c) n us) (hi : i < n) : ∃ g, ao = some ⟨g, 0, none⟩ ∧ ∃ hu : i < us.length, w.cell? ⟨g, i, none⟩ = some us[i] := by
  have hul : us.length = n := by have := h.1; omega
  obtain ⟨g, rfl⟩ : ∃ g, ao = some ⟨g, 0, none⟩ := by
    rcases h.2 with ⟨_, e⟩ | ⟨g, c', cur, e, _⟩
    · omega
    · simp only [Value.slice.injEq] at e
      exact ⟨g, e.1⟩
  refine ⟨g, rfl, by omega, ?_⟩
  rw [h.cellAt i (by omega), List.getElem?_eq_getElem (by omega)]
theorem scanned_elem {w : World} {B : Nat} {ao : Option Addr} {c : Nat} {ds : List (List UInt8)} (h : Scanned w B (Value.slice ao ds.length c) ds) (i : Nat) (hi : i < ds.length) : ∃ g u1 u2 u3, ao = some ⟨g, 0, none⟩ ∧ w.cell? ⟨g, i, none⟩ = some (Value.slice u1 u2 u3) ∧ Bs w (Value.slice u1 u2 u3) (ds[i]'hi) := by
  obtain ⟨us, h1, ⟨h2, h3, _⟩, _⟩ := h
  obtain ⟨g, e, hu, hc⟩ := row_elem h1 hi
  have hp := (h3 i hu hi).1
  obtain ⟨u1, u2, u3, eu⟩ := hp.shape
  rw [eu] at hc hp
  exact ⟨g, u1, u2, u3, e, hc, hp.bs⟩
theorem listed_elem {w : World} {B : Nat} {ao : Option Addr} {c : Nat} {ds : List (List UInt8)} (h : Listed w B (.slice ao ds.length c) ds) (i : Nat) (hi : i < ds.length) : ∃ g u1 u2 u3, ao = some ⟨g, 0, none⟩ ∧ w.cell? ⟨g, i, none⟩ = some (Value.slice u1 u2 u3) ∧ Bs w (Value.slice u1 u2 u3) (ds[i]'hi) := by
  obtain ⟨us, h1, h2, h3⟩ := h
  obtain ⟨g, e, hu, hc⟩ := row_elem h1 hi
  have hp := h3 i hu hi
  obtain ⟨u1, u3, eu⟩ := own_len hp
  rw [eu] at hc hp
  exact ⟨g, u1, _, u3, e, hc, own_bs hp⟩
theorem own_cap2 {w : World} {B n c : Nat} {ao : Option Addr} (h : ∃ us, w.ownsRow B 22 1 (.slice ao n c) n us) : n ≤ c ∧ c ≤ 9223372036854775807 := by
  obtain ⟨us, h⟩ := h
  rcases h.2 with ⟨e, h0⟩ | ⟨g, c', cur, e, _, _, h1, h2, _⟩
  · simp only [Value.slice.injEq] at e
    obtain ⟨_, _, rfl⟩ := e
    exact ⟨by omega, by omega⟩
  · simp only [Value.slice.injEq] at e
    obtain ⟨_, _, rfl⟩ := e
    unfold maxLen at h2
    exact ⟨h1, by omega⟩
theorem lt_of_block2 {w : World} {g : Nat} {o : Obj} (h : w.heap[g]? = some o) : g < w.heap.size := (Array.getElem?_eq_some_iff.1 h).1
theorem listed_on {w w' : World} {B : Nat} {v : Value} {ds : List (List UInt8)} (h : Listed w B v ds) (hs : ∀ k, B ≤ k → k < w.heap.size → w'.heap[k]? = w.heap[k]?) : Listed w' B v ds := by
  obtain ⟨vs, h1, h2, h3⟩ := h
  exact ⟨vs, own_on h1 (fun k e => hs k (h1.lt k e).1 (h1.lt k e).2), h2, fun i i1 i2 => own_on (h3 i i1 i2) (fun k e => hs k ((h3 i i1 i2).lt k e).1 ((h3 i i1 i2).lt k e).2)⟩
theorem pieces_on {w w' : World} {B : Nat} {vs : List Value} {ds : List (List UInt8)} (h : Pieces w B vs ds) (hs : ∀ k, B ≤ k → k < w.heap.size → ∀ u ∈ vs, u.ownBlock = some k → w'.heap[k]? = w.heap[k]?) : Pieces w' B vs ds :=
  ⟨h.1, fun i i1 i2 => ⟨(h.2.1 i i1 i2).1.on (fun k e => hs k ((h.2.1 i i1 i2).1.block k e).1 ((h.2.1 i i1 i2).1.block k e).2 _ (List.getElem_mem i1) e), (h.2.1 i i1 i2).2⟩, h.2.2⟩
theorem on_bs {w w' : World} {v : Value} {l : List UInt8} (h : Bs w v l) (hb : Below w.heap.size w w') : Bs w' v l := h.below hb (Nat.le_refl _)
/-- From statement k on. -/
def Goes (k : Nat) (w0 : World) (A : Act) (W : World) : Prop := Code.wp Try.prog (tailN k body16) (QR w0) A W
theorem goes_seq {k : Nat} {w0 : World} {c : Code} {A : Act} {W : World} (h : c.wp Try.prog (Exit.then (Goes k w0) (QR w0)) A W) : (c.seq (tailN k body16)).wp Try.prog (QR w0) A W := wp_seq h
/-- The list of all that is told, in its box. -/
def Al (aB : Nat) (va : Value) (ds : List (List UInt8)) (V : World) : Prop := V.heap[aB]? = some (.cells #[va] 34 (0, 0)) ∧ Listed V 0 va ds
theorem Al.form {aB : Nat} {va : Value} {ds : List (List UInt8)} {V : World} (h : Al aB va ds V) : ∃ a c, va = .slice a ds.length c ∧ ds.length ≤ c ∧ c ≤ 9223372036854775807 := by
  obtain ⟨_, us, h1, _⟩ := h
  obtain ⟨a, c, rfl⟩ := own_len h1
  exact ⟨a, c, rfl, own_cap2 ⟨us, h1⟩⟩
theorem Al.box {aB : Nat} {va : Value} {ds : List (List UInt8)} {V : World} (h : Al aB va ds V) : V.cell? ⟨aB, 0, none⟩ = some va := (cell_of_row _ _ 0 _ 34 (0, 0) h.1).trans rfl
theorem Al.at {aB : Nat} {a : Option Addr} {c : Nat} {ds : List (List UInt8)} {V : World} (h : Al aB (.slice a ds.length c) ds V) (i : Nat) (hi : i < ds.length) : ∃ g u1 u2 u3, a = some ⟨g, 0, none⟩ ∧ V.cell? ⟨g, i, none⟩ = some (Value.slice u1 u2 u3) ∧ Bs V (Value.slice u1 u2 u3) (ds[i]'hi) := listed_elem h.2 i hi
end Go.Proofs.Ytkohlhnkaklnpaa
