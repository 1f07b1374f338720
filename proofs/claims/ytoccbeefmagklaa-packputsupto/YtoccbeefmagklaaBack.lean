/-
  A1 TO A4, THERE AND BACK, AS PLAIN MATHEMATICS: what is written is read as it was, whatever stands behind it; what is read is written so. No program in this text.
-/
import Derived.Test.YtoccbeefmagklaaRead
namespace Go.Proofs.Ytoccbeefmagklaa
open Go.RowKit

/-! ### Numbers -/
theorem byte_small {y : Nat} (h : y < 256) : (y.toUInt8).toNat = y := by simp [Nat.toUInt8, UInt8.toNat_ofNat']; omega
theorem getFrom_put : ∀ (f y k acc : Nat) (b : List UInt8), y ≤ f → y * 2 ^ (7 * k) < 18446744073709551616 → k < 10 → (0 < k → 0 < y) → Dec.getFrom k acc (Lib.uvarint y ++ b) = (acc + y * 2 ^ (7 * k), k + (Lib.uvarint y).length)
  | f, y, k, acc, b, hf, hy, hk, hpos => by
    by_cases hs : y < 128
    · rw [Lib.uvarint_small hs]
      have e := byte_small (show y < 256 by omega)
      have h9 : k = 9 → y ≤ 1 := by
        rintro rfl
        have : 2 ^ (7 * 9) = 9223372036854775808 := by decide
        omega
      show Dec.getFrom k acc (y.toUInt8 :: b) = _
      rw [Dec.getFrom_last hk (by omega) (by omega), e]
      rfl
    · have hb : (y % 128 + 128).toUInt8.toNat = y % 128 + 128 := byte_small (by omega)
      have hpow : 2 ^ (7 * (k + 1)) = 128 * 2 ^ (7 * k) := by rw [show 7 * (k + 1) = 7 * k + 7 by omega, Nat.pow_add, Nat.mul_comm]
      have hk8 : k < 9 := by
        refine Classical.byContradiction fun h => ?_
        have e : k = 9 := by omega
        subst e
        have : 2 ^ (7 * 9) = 9223372036854775808 := by decide
        omega
      have hm : y * 2 ^ (7 * k) = y % 128 * 2 ^ (7 * k) + y / 128 * 2 ^ (7 * (k + 1)) := by
        rw [hpow, ← Nat.mul_assoc, ← Nat.add_mul]
        congr 1
        omega
      rw [Lib.uvarint_big (by omega), List.cons_append, Dec.getFrom_more hk (by omega)]
      cases f with
      | zero => omega
      | succ f =>
        rw [getFrom_put f (y / 128) (k + 1) _ b (by omega) (by omega) (by omega) (by omega), hb]
        simp only [List.length_cons, Prod.mk.injEq]
        constructor
        · rw [show (y % 128 + 128) % 128 = y % 128 by omega, hm]
          omega
        · omega
theorem getN_put {n : Nat} (h : n < 18446744073709551616) (b : List UInt8) : Dec.getN (Lib.uvarint n ++ b) = (n, (Lib.uvarint n).length) := by
  have := getFrom_put n n 0 0 b (Nat.le_refl _) (by simpa using h) (by omega) (by omega)
  simpa [Dec.getN] using this
theorem getFrom_back : ∀ (b : List UInt8) (k acc : Nat), k ≤ 10 → (Dec.getFrom k acc b).2 ≠ 0 → ∃ y, (Dec.getFrom k acc b).1 = acc + y * 2 ^ (7 * k) ∧ (Dec.getFrom k acc b).2 = k + (Lib.uvarint y).length ∧ b.take (Lib.uvarint y).length = Lib.uvarint y ∧ (0 < k → 0 < y)
  | [], k, acc, _, h => by rw [Dec.getFrom_nil] at h; simp at h
  | c :: b, k, acc, hk, h => by
    by_cases h10 : 10 ≤ k
    · rw [Dec.getFrom_ten k acc _ h10] at h; simp at h
    by_cases hc : 128 ≤ c.toNat
    · rw [Dec.getFrom_more (by omega) hc] at h ⊢
      obtain ⟨y, h1, h2, h3, h4⟩ := getFrom_back b (k + 1) _ (by omega) h
      have hy := h4 (by omega)
      have hlt := c.toNat_lt
      have hpow : 2 ^ (7 * (k + 1)) = 128 * 2 ^ (7 * k) := by rw [show 7 * (k + 1) = 7 * k + 7 by omega, Nat.pow_add, Nat.mul_comm]
      have e1 : (c.toNat % 128 + 128 * y) / 128 = y := by omega
      have e2 : (c.toNat % 128 + 128 * y) % 128 + 128 = c.toNat := by omega
      have e3 : c.toNat.toUInt8 = c := by simp [Nat.toUInt8]
      have eu : Lib.uvarint (c.toNat % 128 + 128 * y) = c :: Lib.uvarint y := by rw [Lib.uvarint_big (by omega), e1, e2, e3]
      refine ⟨c.toNat % 128 + 128 * y, ?_, ?_, ?_, by omega⟩
      · rw [h1, hpow, Nat.add_mul, Nat.mul_assoc 128, ← Nat.mul_assoc y, Nat.mul_comm y 128, Nat.mul_assoc 128]
        omega
      · rw [h2, eu, List.length_cons]
        omega
      · rw [eu, List.length_cons, List.take_succ_cons, h3]
    · by_cases hbad : (0 < k ∧ c.toNat = 0) ∨ (k = 9 ∧ 1 < c.toNat)
      · rw [Dec.getFrom_bad (by omega) (by omega) hbad] at h; simp at h
      · rw [Dec.getFrom_last (by omega) (by omega) hbad] at h ⊢
        have e3 : c.toNat.toUInt8 = c := by simp [Nat.toUInt8]
        have eu : Lib.uvarint c.toNat = [c] := by rw [Lib.uvarint_small (by omega), e3]
        exact ⟨c.toNat, rfl, by rw [eu]; rfl, by rw [eu]; rfl, by omega⟩
theorem getN_back {b : List UInt8} {n s : Nat} (h : Dec.getN b = (n, s)) (hs : s ≠ 0) : b.take s = Lib.uvarint n ∧ s = (Lib.uvarint n).length := by
  have h0 : (Dec.getFrom 0 0 b).2 ≠ 0 := by show (Dec.getN b).2 ≠ 0; rw [h]; exact hs
  obtain ⟨y, h1, h2, h3, _⟩ := getFrom_back b 0 0 (by omega) h0
  have h1' : (Dec.getN b).1 = 0 + y * 2 ^ (7 * 0) := h1
  have h2' : (Dec.getN b).2 = 0 + (Lib.uvarint y).length := h2
  rw [h] at h1' h2'
  simp at h1' h2'
  subst h1'
  exact ⟨by rw [h2']; exact h3, h2'⟩
/-- The bytes begin with the number. -/
theorem getN_split {b : List UInt8} {n s : Nat} (h : Dec.getN b = (n, s)) (hs : s ≠ 0) : b = Lib.uvarint n ++ b.drop s := by
  rw [← (getN_back h hs).1, List.take_append_drop]
theorem getN_ivar {z : Int} (hz : Rw.Fits z) (b : List UInt8) : Dec.getN (Rw.ivar z ++ b) = (Lib.zigzag z, (Rw.ivar z).length) := getN_put (Lib.zigzag_lt hz.1 hz.2) b

/-! ### Numbers one by one -/
def flat (zs : List Int) : List UInt8 := zs.flatMap Rw.ivar
theorem nums_put : ∀ (zs : List Int) (b : List UInt8), Rw.AllFit zs → Rd.nums zs.length (flat zs ++ b) = some (zs, (flat zs).length)
  | [], b, _ => rfl
  | z :: r, b, h => by
    have hz := h z List.mem_cons_self
    have hg := getN_ivar hz (flat r ++ b)
    have e : flat (z :: r) ++ b = Rw.ivar z ++ (flat r ++ b) := by simp [flat]
    have hp : (Rw.ivar z).length ≠ 0 := by have := Lib.uvarint_pos (Lib.zigzag z); unfold Rw.ivar; omega
    rw [e, List.length_cons, Rd.nums, hg]
    simp only
    rw [if_neg hp, List.drop_left, nums_put r b (fun x hx => h x (List.mem_cons_of_mem _ hx))]
    simp [flat, Dec.unzig_zigzag]
theorem nums_back : ∀ (k : Nat) (b : List UInt8) (zs : List Int) (t : Nat), Rd.nums k b = some (zs, t) → b.take t = flat zs
  | 0, b, zs, t, h => by
    simp [Rd.nums] at h
    obtain ⟨rfl, rfl⟩ := h
    rfl
  | k + 1, b, zs, t, h => by
    unfold Rd.nums at h
    split at h
    · cases h
    · rename_i hs
      obtain ⟨⟨zr, tr⟩, hr, he⟩ := Option.map_eq_some_iff.1 h
      obtain ⟨rfl, rfl⟩ := Prod.mk.inj he
      have ih := nums_back k _ zr tr hr
      obtain ⟨h1, h2⟩ := getN_back (b := b) (n := (Dec.getN b).1) (s := (Dec.getN b).2) rfl hs
      show b.take ((Dec.getN b).2 + tr) = Rw.ivar (Dec.unzig (Dec.getN b).1) ++ flat zr
      rw [List.take_add, h1, ih, Rw.ivar, Dec.zigzag_unzig]
theorem bodyTo_eq (l : List Int) (f : Nat) : ∀ k, Rw.bodyTo l f k = flat ((List.range k).map fun i => Rw.entry l i f)
  | 0 => rfl
  | k + 1 => by
    rw [Rw.bodyTo, bodyTo_eq l f k, List.range_succ, List.map_append]
    simp [flat]
def ent (l : List Int) (f : Nat) : List Int := (List.range l.length).map fun i => Rw.entry l i f
theorem ent_zero (l : List Int) : ent l 0 = l := by
  apply List.ext_getElem?
  intro i
  unfold ent
  by_cases h : i < l.length
  · rw [List.getElem?_map, List.getElem?_range h, List.getElem?_eq_getElem h]
    simp [Rw.entry, List.getElem?_eq_getElem h]
  · rw [List.getElem?_eq_none (by simp; omega), List.getElem?_eq_none (by omega)]
theorem ent_length (l : List Int) (f : Nat) : (ent l f).length = l.length := by simp [ent]
theorem ent_fit {l : List Int} (h : Rw.AllFit l) (f : Nat) : Rw.AllFit (ent l f) := by
  intro z hz
  simp only [ent, List.mem_map] at hz
  obtain ⟨i, _, rfl⟩ := hz
  exact Rw.entry_fits h i f
def stepsFrom : Int → List Int → List Int
  | _, [] => []
  | p, z :: r => wrap64 (z - p) :: stepsFrom z r
def stepsL : List Int → List Int
  | [] => []
  | z :: r => z :: stepsFrom z r
theorem stepsFrom_at : ∀ (p : Int) (l : List Int) (i : Nat), (stepsFrom p l)[i]? = l[i]?.map fun z => wrap64 (z - if i = 0 then p else l.getD (i - 1) 0)
  | p, [], i => by simp [stepsFrom]
  | p, z :: r, 0 => by simp [stepsFrom]
  | p, z :: r, i + 1 => by
    simp only [stepsFrom, List.getElem?_cons_succ]
    rw [stepsFrom_at z r i]
    cases i with
    | zero => simp
    | succ i => simp
theorem ent_one (l : List Int) : ent l 1 = stepsL l := by
  apply List.ext_getElem?
  intro i
  unfold ent
  cases l with
  | nil => simp [stepsL]
  | cons z r =>
    cases i with
    | zero => simp [stepsL, Rw.entry]
    | succ i =>
      simp only [stepsL, List.getElem?_cons_succ]
      rw [stepsFrom_at]
      by_cases h : i < r.length
      · rw [List.getElem?_map, List.getElem?_range (by simp; omega), List.getElem?_eq_getElem h]
        cases i with
        | zero => simp [Rw.entry, List.getElem?_eq_getElem h]
        | succ i => simp [Rw.entry, List.getElem?_eq_getElem h]
      · rw [List.getElem?_eq_none (by simp; omega), List.getElem?_eq_none (l := r) (by omega)]
        rfl
theorem wrap_back {z p : Int} (h : Rw.Fits z) : wrap64 (wrap64 (z - p) + p) = z := by unfold Rw.Fits at h; unfold wrap64; omega
theorem wrap_on {z p : Int} (h : Rw.Fits z) : wrap64 (wrap64 (z + p) - p) = z := by unfold Rw.Fits at h; unfold wrap64; omega
theorem sumsFrom_steps : ∀ (p : Int) (l : List Int), Rw.AllFit l → Rd.sumsFrom p (stepsFrom p l) = l
  | _, [], _ => rfl
  | p, z :: r, h => by
    simp only [stepsFrom, Rd.sumsFrom]
    rw [wrap_back (h z List.mem_cons_self), sumsFrom_steps z r (fun x hx => h x (List.mem_cons_of_mem _ hx))]
theorem sums_steps {l : List Int} (h : Rw.AllFit l) : Rd.sums (ent l 1) = l := by
  rw [ent_one]
  cases l with
  | nil => rfl
  | cons z r => simp only [stepsL, Rd.sums]; rw [sumsFrom_steps z r (fun x hx => h x (List.mem_cons_of_mem _ hx))]
theorem stepsFrom_sums : ∀ (p : Int) (l : List Int), Rw.AllFit l → stepsFrom p (Rd.sumsFrom p l) = l
  | _, [], _ => rfl
  | p, z :: r, h => by
    simp only [stepsFrom, Rd.sumsFrom]
    rw [wrap_on (h z List.mem_cons_self), stepsFrom_sums _ r (fun x hx => h x (List.mem_cons_of_mem _ hx))]
theorem steps_sums {l : List Int} (h : Rw.AllFit l) : ent (Rd.sums l) 1 = l := by
  rw [ent_one]
  cases l with
  | nil => rfl
  | cons z r => simp only [stepsL, Rd.sums]; rw [stepsFrom_sums z r (fun x hx => h x (List.mem_cons_of_mem _ hx))]
end Go.Proofs.Ytoccbeefmagklaa
