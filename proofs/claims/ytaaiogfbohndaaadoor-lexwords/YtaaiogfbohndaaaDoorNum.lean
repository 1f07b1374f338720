import Derived.Test.YtaaiogfbohndaaaDoorMath
import Derived.Lib.ParseIntB
import Derived.Lib.Bytealg
namespace Go.Proofs.YtaaiogfbohndaaaDoor

def valW : List UInt8 → Nat → Nat
  | [], acc => acc
  | c :: r, acc => valW r (acc * 10 + (c.toNat - 48))
def valL (acc : Nat) (l : List UInt8) : Nat := valW l acc
theorem valL_nil (acc : Nat) : valL acc [] = acc := by unfold valL; rw [valW]
theorem valL_cons (acc : Nat) (c : UInt8) (r : List UInt8) : valL acc (c :: r) = valL (acc * 10 + (c.toNat - 48)) r := by unfold valL; rw [valW]
theorem valL_ge (l : List UInt8) : ∀ acc : Nat, acc ≤ valL acc l := by
  induction l with
  | nil => intro acc; rw [valL_nil]; exact Nat.le_refl _
  | cons c r ih =>
    intro acc
    have := ih (acc * 10 + (c.toNat - 48))
    rw [valL_cons]
    omega
def Dig (l : List UInt8) : Prop := ∀ c ∈ l, isDi c.toNat = true
theorem isDi_iff (c : Nat) : isDi c = true ↔ 48 ≤ c ∧ c ≤ 57 := by simp [isDi]

theorem uintM_dig (l : List UInt8) : ∀ (acc : Nat), Dig l → acc ≤ 18446744073709551615 →
    Lib.parseUintM 18446744073709551615 acc l = if valL acc l ≤ 18446744073709551615 then .ok (valL acc l) else .range := by
  induction l with
  | nil => intro acc hd ha; rw [valL_nil, if_pos ha, Lib.parseUintM]
  | cons c r ih =>
    intro acc hd ha
    have hc := (isDi_iff _).1 (hd c (by simp))
    have hr : Dig r := fun x hx => hd x (by simp [hx])
    have hg := valL_ge r (acc * 10 + (c.toNat - 48))
    rw [valL_cons, Lib.parseUintM]
    rw [if_pos hc]
    by_cases h1 : 1844674407370955162 ≤ acc
    · rw [if_pos h1, if_neg (by omega)]
    · rw [if_neg h1]
      by_cases h2 : 18446744073709551615 < acc * 10 + (c.toNat - 48)
      · rw [if_pos h2, if_neg (by omega)]
      · rw [if_neg h2]
        exact ih _ hr (by omega)

theorem parseInt_dig (l : List UInt8) (hd : Dig l) (h0 : l ≠ []) :
    Lib.parseIntB 64 l = if valL 0 l < 9223372036854775808 then .ok (valL 0 l : Int) else .range := by
  cases l with
  | nil => exact absurd rfl h0
  | cons c r =>
    have hc := (isDi_iff _).1 (hd c (by simp))
    unfold Lib.parseIntB
    simp only []
    rw [if_neg (by omega)]
    have hu : Lib.parseUintB 64 (c :: r) = if valL 0 (c :: r) ≤ 18446744073709551615 then .ok (valL 0 (c :: r)) else .range := by
      unfold Lib.parseUintB
      rw [if_neg (by simp)]
      exact uintM_dig (c :: r) 0 hd (by omega)
    rw [hu]
    have hne : ¬ c.toNat = 45 := by omega
    generalize valL 0 (c :: r) = v
    by_cases h1 : v ≤ 18446744073709551615
    · rw [if_pos h1]
      simp only [hne, false_and, not_false_eq_true, true_and, if_false]
      by_cases h2 : 2 ^ (64 - 1) ≤ v
      · rw [if_pos h2, if_neg (by omega)]
      · rw [if_neg h2, if_pos (by omega)]
    · rw [if_neg h1, if_neg (by omega)]

theorem drop_cons (s : ByteArray) (i : Nat) (h : i < s.size) : s.data.toList.drop i = s[i] :: s.data.toList.drop (i + 1) := by
  have h' : i < s.data.toList.length := by simpa [← ByteArray.size_data] using h
  rw [List.drop_eq_getElem_cons h']
  rfl
theorem ext_data (s : ByteArray) (a b : Nat) : (s.extract a b).data.toList = (s.data.toList.drop a).take (b - a) := by
  rw [← Lib.toList_data, Lib.extract_toList]
theorem numV_val (s : ByteArray) : ∀ (k i acc : Nat), i + k ≤ s.size → numV (bt s) acc k i = valL acc ((s.data.toList.drop i).take k)
  | 0, i, acc, h => by rw [numV_zero, List.take_zero, valL_nil]
  | k + 1, i, acc, h => by
    rw [drop_cons s i (by omega)]
    rw [numV_succ, bt_at s i (by omega)]
    rw [List.take_succ_cons, valL_cons]
    exact numV_val s k (i + 1) _ (by omega)

theorem bt_ext (s : ByteArray) (a e i : Nat) (_he : e ≤ s.size) : bt (s.extract a e) i = if a + i < e then bt s (a + i) else 0 := by
  unfold bt
  rw [ext_data]
  simp only [List.getD_eq_getElem?_getD]
  by_cases h : a + i < e
  · rw [if_pos h, List.getElem?_take, if_pos (by omega), List.getElem?_drop]
  · rw [if_neg h, List.getElem?_take, if_neg (by omega)]
    rfl

theorem hasPrefix_two (l : List UInt8) (c d : UInt8) (hc : c ≠ 0) (hd : d ≠ 0) : Lib.hasPrefix l [c, d] = (l.getD 0 0 == c && l.getD 1 0 == d) := by
  unfold Lib.hasPrefix
  match l with
  | [] =>
    rw [Bool.eq_iff_iff]
    simp
    intro h
    exact absurd h.symm hc
  | [x] =>
    rw [Bool.eq_iff_iff]
    simp [List.isPrefixOf]
    intro _ h
    exact absurd h.symm hd
  | x :: y :: r =>
    rw [Bool.eq_iff_iff]
    simp [List.isPrefixOf]
    constructor
    · rintro ⟨rfl, rfl⟩; exact ⟨rfl, rfl⟩
    · rintro ⟨rfl, rfl⟩; exact ⟨rfl, rfl⟩

end Go.Proofs.YtaaiogfbohndaaaDoor
