/-
  A4 READ, AS PLAIN MATHEMATICS: numbers one by one, runs, a whole row. No program in this text.
-/
import Derived.Test.YtoccbeefmagklaaDec
import Derived.Test.YtoccbeefmagklaaRow
namespace Go.Proofs.Ytoccbeefmagklaa.Rd
open Go.RowKit

/-- So many numbers from the front. -/
def nums : Nat → List UInt8 → Option (List Int × Nat)
  | 0, _ => some ([], 0)
  | k + 1, b => if (Dec.getN b).2 = 0 then none else (nums k (b.drop (Dec.getN b).2)).map fun r => (Dec.unzig (Dec.getN b).1 :: r.1, (Dec.getN b).2 + r.2)
/-- So many runs from the front, 'left' numbers in all; the number ahead is not taken again. -/
def runs : Nat → Nat → Option Int → List UInt8 → Option (List Int × Nat)
  | 0, left, _, _ => if left = 0 then some ([], 0) else none
  | m + 1, left, last, b =>
    if (Dec.getN b).2 = 0 ∨ (Dec.getN b).1 = 0 ∨ left < (Dec.getN b).1 then none
    else if (Dec.getN (b.drop (Dec.getN b).2)).2 = 0 ∨ last = some (Dec.unzig (Dec.getN (b.drop (Dec.getN b).2)).1) then none
    else (runs m (left - (Dec.getN b).1) (some (Dec.unzig (Dec.getN (b.drop (Dec.getN b).2)).1)) (b.drop ((Dec.getN b).2 + (Dec.getN (b.drop (Dec.getN b).2)).2))).map
      fun r => (List.replicate (Dec.getN b).1 (Dec.unzig (Dec.getN (b.drop (Dec.getN b).2)).1) ++ r.1, (Dec.getN b).2 + (Dec.getN (b.drop (Dec.getN b).2)).2 + r.2)
/-- Sums of steps: each number is added to the one ahead. -/
def sumsFrom : Int → List Int → List Int
  | _, [] => []
  | p, z :: r => wrap64 (z + p) :: sumsFrom (wrap64 (z + p)) r
def sums : List Int → List Int
  | [] => []
  | z :: r => z :: sumsFrom z r
/-- Count numbers in a form: the numbers and how many bytes they have. -/
def form (b : List UInt8) (f count : Nat) : Option (List Int × Nat) :=
  if f = 2 then
    (if (Dec.getN b).2 = 0 then none else (runs (Dec.getN b).1 count none (b.drop (Dec.getN b).2)).map fun r => (r.1, (Dec.getN b).2 + r.2))
  else (nums count b).map fun r => (if f = 1 then sums r.1 else r.1, r.2)
/-- What GetRow tells. -/
def row (b : List UInt8) (most : Int) : List Int × Nat :=
  if (Dec.getN b).2 = 0 ∨ most < 0 ∨ (min most 100000) < ((Dec.getN b).1 : Int) then ([], 0)
  else if (Dec.getN b).1 = 0 then ([], (Dec.getN b).2)
  else if (Dec.getN b).2 = b.length ∨ 3 ≤ (b.getD (Dec.getN b).2 0).toNat then ([], 0)
  else match form (b.drop ((Dec.getN b).2 + 1)) (b.getD (Dec.getN b).2 0).toNat (Dec.getN b).1 with
    | none => ([], 0)
    | some (zs, s) => if Rw.best zs ≠ (b.getD (Dec.getN b).2 0).toNat then ([], 0) else (zs, (Dec.getN b).2 + 1 + s)

theorem unzig_fits (b : List UInt8) : Rw.Fits (Dec.unzig (Dec.getN b).1) := Dec.unzig_bounds (Dec.getN_lt b)

theorem nums_facts : ∀ (k : Nat) (b : List UInt8) (zs : List Int) (t : Nat), nums k b = some (zs, t) → zs.length = k ∧ t ≤ b.length ∧ k ≤ t ∧ Rw.AllFit zs
  | 0, b, zs, t, h => by
    simp [nums] at h
    obtain ⟨rfl, rfl⟩ := h
    exact ⟨rfl, Nat.zero_le _, Nat.le_refl _, fun z hz => by simp at hz⟩
  | k + 1, b, zs, t, h => by
    unfold nums at h
    split at h
    · cases h
    · rename_i hs
      obtain ⟨⟨zr, tr⟩, hr, he⟩ := Option.map_eq_some_iff.1 h
      obtain ⟨rfl, rfl⟩ := Prod.mk.inj he
      obtain ⟨h1, h2, h3, h4⟩ := nums_facts k _ zr tr hr
      have hle := Dec.getN_le b
      simp at h2
      refine ⟨by simp [h1], by simp; omega, by simp; omega, fun z hz => ?_⟩
      rcases List.mem_cons.1 hz with rfl | hz
      · exact unzig_fits b
      · exact h4 z hz
theorem runs_facts : ∀ (m left : Nat) (last : Option Int) (b : List UInt8) (zs : List Int) (t : Nat), runs m left last b = some (zs, t) → zs.length = left ∧ t ≤ b.length ∧ Rw.AllFit zs
  | 0, left, last, b, zs, t, h => by
    unfold runs at h
    split at h
    · simp at h
      obtain ⟨rfl, rfl⟩ := h
      exact ⟨by simp_all, Nat.zero_le _, fun z hz => by simp at hz⟩
    · cases h
  | m + 1, left, last, b, zs, t, h => by
    unfold runs at h
    split at h
    · cases h
    · rename_i hs
      split at h
      · cases h
      · rename_i hs2
        obtain ⟨⟨zr, tr⟩, hr, he⟩ := Option.map_eq_some_iff.1 h
        obtain ⟨rfl, rfl⟩ := Prod.mk.inj he
        obtain ⟨h1, h2, h4⟩ := runs_facts m _ _ _ zr tr hr
        have hle := Dec.getN_le b
        have hle2 := Dec.getN_le (b.drop (Dec.getN b).2)
        simp at h2 hle2
        refine ⟨by simp [h1]; omega, by simp; omega, fun z hz => ?_⟩
        rcases List.mem_append.1 hz with hz | hz
        · rw [List.eq_of_mem_replicate hz]
          exact unzig_fits _
        · exact h4 z hz
theorem sumsFrom_facts : ∀ (p : Int) (zs : List Int), (sumsFrom p zs).length = zs.length ∧ Rw.AllFit (sumsFrom p zs)
  | _, [] => ⟨rfl, fun z hz => by simp [sumsFrom] at hz⟩
  | p, z :: r => by
    obtain ⟨h1, h2⟩ := sumsFrom_facts (wrap64 (z + p)) r
    refine ⟨by simp [sumsFrom, h1], fun x hx => ?_⟩
    simp only [sumsFrom] at hx
    rcases List.mem_cons.1 hx with rfl | hx
    · exact Rw.wrap64_fits _
    · exact h2 x hx
theorem sums_facts (zs : List Int) (h : Rw.AllFit zs) : (sums zs).length = zs.length ∧ Rw.AllFit (sums zs) := by
  cases zs with
  | nil => exact ⟨rfl, h⟩
  | cons z r =>
    obtain ⟨h1, h2⟩ := sumsFrom_facts z r
    refine ⟨by simp [sums, h1], fun x hx => ?_⟩
    rcases List.mem_cons.1 hx with rfl | hx
    · exact h _ List.mem_cons_self
    · exact h2 x hx
theorem form_facts {b : List UInt8} {f count : Nat} {zs : List Int} {t : Nat} (h : form b f count = some (zs, t)) : zs.length = count ∧ t ≤ b.length ∧ Rw.AllFit zs := by
  unfold form at h
  split at h
  · split at h
    · cases h
    · obtain ⟨⟨zr, tr⟩, hr, he⟩ := Option.map_eq_some_iff.1 h
      obtain ⟨rfl, rfl⟩ := Prod.mk.inj he
      obtain ⟨h1, h2, h3⟩ := runs_facts _ _ _ _ zr tr hr
      have hle := Dec.getN_le b
      simp at h2
      exact ⟨h1, by simp; omega, h3⟩
  · obtain ⟨⟨zr, tr⟩, hr, he⟩ := Option.map_eq_some_iff.1 h
    obtain ⟨rfl, rfl⟩ := Prod.mk.inj he
    obtain ⟨h1, h2, _, h3⟩ := nums_facts _ _ zr tr hr
    split
    · exact ⟨(sums_facts zr h3).1.trans h1, h2, (sums_facts zr h3).2⟩
    · exact ⟨h1, h2, h3⟩
end Go.Proofs.Ytoccbeefmagklaa.Rd
