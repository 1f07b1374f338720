/-
  strings.Cut at one byte.
-/
import Derived.Test.YtpolajoephjdhaaGreatDoorCoK
import Derived.Lib.IndexLaws
namespace Go.Proofs.YtpolajoephjdhaaGreatDoor
open Go.RowKit
set_option maxRecDepth 100000
def bs (l : List UInt8) : ByteArray := ⟨l.toArray⟩
theorem bs_toList (s : ByteArray) : bs s.data.toList = s := rfl
theorem toList_bs (l : List UInt8) : (bs l).data.toList = l := rfl
theorem bs_inj {a b : List UInt8} (h : bs a = bs b) : a = b := by
  have := congrArg (fun x : ByteArray => x.data.toList) h
  simpa [bs] using this
theorem bs_ext {a b : ByteArray} (h : a.data.toList = b.data.toList) : a = b := by rw [← bs_toList a, ← bs_toList b, h]
theorem bs_size (l : List UInt8) : (bs l).size = l.length := by simp [bs, ByteArray.size]
theorem bs_append (a b : List UInt8) : bs a ++ bs b = bs (a ++ b) := bs_ext (by rw [toList_bs, ByteArray.data_append, Array.toList_append]; rfl)
/-- What stands ahead of a byte, and behind it. -/
def bef (c : UInt8) : List UInt8 → List UInt8
  | [] => []
  | b :: l => if b == c then [] else b :: bef c l
def aft (c : UInt8) : List UInt8 → List UInt8
  | [] => []
  | b :: l => if b == c then l else aft c l
def hasC (c : UInt8) : List UInt8 → Bool
  | [] => false
  | b :: l => if b == c then true else hasC c l
theorem cut_no (c : UInt8) : ∀ l : List UInt8, Lib.indexByte l c = -1 → bef c l = l ∧ aft c l = [] ∧ hasC c l = false
  | [], _ => ⟨rfl, rfl, rfl⟩
  | b :: l, h => by
    rw [Lib.indexByte] at h
    by_cases hb : (b == c) = true
    · rw [if_pos hb] at h; omega
    · rw [if_neg hb] at h
      have h1 : Lib.indexByte l c = -1 := by
        by_cases h2 : (Lib.indexByte l c == -1) = true
        · simpa using h2
        · rw [if_neg h2] at h
          have := Lib.indexByte_ge l c
          have h3 : Lib.indexByte l c ≠ -1 := by simpa using h2
          omega
      obtain ⟨e1, e2, e3⟩ := cut_no c l h1
      exact ⟨by rw [bef, if_neg hb, e1], by rw [aft, if_neg hb, e2], by rw [hasC, if_neg hb, e3]⟩
theorem cut_yes (c : UInt8) : ∀ (l : List UInt8) (o : Nat), Lib.indexByte l c = (o : Int) → o < l.length ∧ bef c l = l.take o ∧ aft c l = l.drop (o + 1) ∧ hasC c l = true
  | [], o, h => by rw [Lib.indexByte] at h; omega
  | b :: l, o, h => by
    rw [Lib.indexByte] at h
    by_cases hb : (b == c) = true
    · rw [if_pos hb] at h
      obtain rfl : o = 0 := by omega
      exact ⟨by simp, by rw [bef, if_pos hb]; rfl, by rw [aft, if_pos hb]; rfl, by rw [hasC, if_pos hb]⟩
    · rw [if_neg hb] at h
      by_cases h2 : (Lib.indexByte l c == -1) = true
      · rw [if_pos h2] at h; omega
      · rw [if_neg h2] at h
        have := Lib.indexByte_ge l c
        have h3 : Lib.indexByte l c ≠ -1 := by simpa using h2
        obtain ⟨o', rfl⟩ : ∃ o', o = o' + 1 := ⟨o - 1, by omega⟩
        obtain ⟨e0, e1, e2, e3⟩ := cut_yes c l o' (by omega)
        exact ⟨by simp; omega, by rw [bef, if_neg hb, e1]; rfl, by rw [aft, if_neg hb, e2]; rfl, by rw [hasC, if_neg hb, e3]⟩
theorem ext_list (s : ByteArray) (a b : Nat) : s.extract a b = bs ((s.data.toList.take b).drop a) := by
  refine bs_ext ?_
  rw [toList_bs, ByteArray.data_extract, Array.toList_extract, List.extract_eq_take_drop, List.drop_take]
set_option maxHeartbeats 1000000 in
theorem scut_any (s : ByteArray) (c : UInt8) (hs : s.size ≤ 9223372036854775800) (w : World) : Calls Tryz.prog 81 #[.string s, .string ⟨#[c]⟩] w fun e w' => e = .returned (.tuple #[.string (bs (bef c s.data.toList)), .string (bs (aft c s.data.toList)), .bool (hasC c s.data.toList)]) ∧ Below w.heap.size w w' := by
  have J := hide (Tryz.stringslite_Index_one s c w)
  have hg := Lib.indexByte_ge s.data.toList c
  rcases (show Lib.indexByte s.data.toList c = -1 ∨ 0 ≤ Lib.indexByte s.data.toList c by omega) with h | h
  · obtain ⟨e1, e2, e3⟩ := cut_no c _ h
    rw [e1, e2, e3, bs_toList]
    rw [h] at J
    clear hg h e1 e2 e3
    go_enter Tryz.func81, Tryz.ntmps81
    go_wp2_with fail
    refine J.out.mono ?_
    rintro e w' ⟨rfl, rfl⟩
    go_wp2_with fail
    go_ret3
    exact ⟨rfl, Below.refl _ _⟩
  · obtain ⟨o, ho⟩ : ∃ o : Nat, Lib.indexByte s.data.toList c = (o : Int) := ⟨(Lib.indexByte s.data.toList c).toNat, by omega⟩
    obtain ⟨e0, e1, e2, e3⟩ := cut_yes c _ o ho
    rw [e1, e2, e3]
    rw [ho] at J
    rw [Array.length_toList] at e0
    have e0' : o < s.size := e0
    have x1 : s.extract 0 o = bs (s.data.toList.take o) := by rw [ext_list]; rfl
    have x2 : s.extract (o + 1) s.size = bs (s.data.toList.drop (o + 1)) := by
      rw [ext_list, List.take_of_length_le (by rw [Array.length_toList]; exact Nat.le_refl _)]
    rw [← x1, ← x2]
    have c1 : (0 : Int) ≤ (o : Int) := by omega
    have c2 : (o : Int) ≤ (s.size : Int) := by omega
    have c3 : (0 : Int) ≤ (o : Int) + 1 := by omega
    have c4 : (o : Int) + 1 ≤ (s.size : Int) := by omega
    have c5 : IntKind.i64.wrap ((o : Int) + 1) = (o : Int) + 1 := by rw [IntKind.wrap_i64]; omega
    clear hg h ho e1 e2 e3 e0 x1 x2
    go_enter Tryz.func81, Tryz.ntmps81
    go_wp2_with fail
    refine J.out.mono ?_
    rintro e w' ⟨rfl, rfl⟩
    go_upto_region 3 with fail
    go_quiet (fail)
    go_wp2_with fail
    go_ret3
    exact ⟨rfl, below_drawn _ _⟩
theorem cut_any (s : ByteArray) (c : UInt8) (hs : s.size ≤ 9223372036854775800) (w : World) : Calls Tryz.prog 50 #[.string s, .string ⟨#[c]⟩] w fun e w' => e = .returned (.tuple #[.string (bs (bef c s.data.toList)), .string (bs (aft c s.data.toList)), .bool (hasC c s.data.toList)]) ∧ Below w.heap.size w w' := by
  have J := hide (scut_any s c hs w)
  generalize bs (bef c s.data.toList) = x at *
  generalize bs (aft c s.data.toList) = y at *
  generalize hasC c s.data.toList = z at *
  go_enter Tryz.func50, Tryz.ntmps50
  go_wp2_with fail
  refine J.out.mono ?_
  rintro e w' ⟨rfl, hb⟩
  go_wp2_with fail
  go_ret3
  exact ⟨rfl, hb⟩
end Go.Proofs.YtpolajoephjdhaaGreatDoor
