/-
  List.
-/
import Derived.Test.YtpolajoephjdhaaGreatDoorCoI
namespace Go.Proofs.YtpolajoephjdhaaGreatDoor
open Go.RowKit
set_option maxRecDepth 100000
def lineL (i : Ins) : List UInt8 := (lineB i).data.toList ++ [10]
def headL (nm : ByteArray) (pa lo : Int) : List UInt8 := (headB nm pa lo).data.toList ++ [10]
def codeL (l : List Ins) : List UInt8 := l.flatMap lineL
/-- The lines of a routine. -/
def listL (r : Rt) : List UInt8 := if lstOk r then headL r.name r.pa r.lo ++ codeL r.code else []
def listB (r : Rt) : ByteArray := ⟨(listL r).toArray⟩
theorem codeL_snoc {l : List Ins} {k : Nat} (h : k < l.length) : codeL (l.take (k + 1)) = codeL (l.take k) ++ lineL l[k] := by
  unfold codeL
  rw [List.take_add_one, List.getElem?_eq_getElem h, List.flatMap_append]
  simp
theorem lineB_size {i : Ins} (h : I6 i.a) : (lineB i).size ≤ 27 := by
  have h1 := wd_size (opk i.op)
  have h2 := itB_size h
  unfold lineB
  split
  · rw [ByteArray.size_append, ByteArray.size_append]
    show _ + 1 + _ ≤ 27
    omega
  · omega
theorem lineL_len {i : Ins} (h : I6 i.a) : (lineL i).length ≤ 28 := by
  have := lineB_size h
  unfold lineL
  rw [List.length_append, Array.length_toList]
  show (lineB i).size + 1 ≤ 28
  omega
theorem headB_size {nm : ByteArray} {pa lo : Int} (h1 : I6 pa) (h2 : I6 lo) : (headB nm pa lo).size ≤ nm.size + 44 := by
  have := itB_size h1
  have := itB_size h2
  unfold headB
  rw [ByteArray.size_append, ByteArray.size_append, ByteArray.size_append, ByteArray.size_append]
  show _ + 1 + _ + 1 + _ ≤ _
  omega
theorem headL_len {nm : ByteArray} {pa lo : Int} (h1 : I6 pa) (h2 : I6 lo) : (headL nm pa lo).length ≤ nm.size + 45 := by
  have := headB_size (nm := nm) h1 h2
  unfold headL
  rw [List.length_append, Array.length_toList]
  show (headB nm pa lo).size + 1 ≤ _
  omega
theorem codeL_len : ∀ {l : List Ins}, (∀ i ∈ l, I6 i.a) → (codeL l).length ≤ 28 * l.length
  | [], _ => by simp [codeL]
  | i :: l, h => by
    have h1 := lineL_len (h i (by simp))
    have h2 := codeL_len (l := l) (fun j hj => h j (by simp [hj]))
    unfold codeL at h2 ⊢
    rw [List.flatMap_cons, List.length_append, List.length_cons]
    omega
theorem bld_later {T e B b : Nat} {p : Value} {bs : List Value} {w w' : World} (h : Lib.BuilderAt T e B b p bs w) (hb : Below w.heap.size w w') : Lib.BuilderAt T e B b p bs w' := by
  obtain ⟨h1, v, h2, h3, h4⟩ := h
  exact ⟨h1, v, (hb.block b (lt_of_block h2)).trans h2, own_later h3 hb, h4⟩
theorem bld_lt {T e B b : Nat} {p : Value} {bs : List Value} {w : World} (h : Lib.BuilderAt T e B b p bs w) : b < w.heap.size := by
  obtain ⟨h1, v, h2, h3, h4⟩ := h
  exact lt_of_block h2
theorem str_bytes (s : ByteArray) : Lib.strCells s = Lib.byteCells s.data.toList := by rfl
theorem Il.i6 {Q : Nat → Prop} {W : World} {v : Value} {l : List Ins} (h : Il Q W v l) : ∀ i ∈ l, I6 i.a := by
  obtain ⟨ao, c, h1, h2, h3, h4⟩ := h
  intro i hi
  obtain ⟨k, hk, rfl⟩ := List.getElem_of_mem hi
  obtain ⟨g, o, -, -, h5⟩ := h4 (by omega)
  exact (h5 k hk).2.1
end Go.Proofs.YtpolajoephjdhaaGreatDoor
