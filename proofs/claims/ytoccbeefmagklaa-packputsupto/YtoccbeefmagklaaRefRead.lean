/-
  A4 as the document reads it: where its one loop stands, held against the reading of Read. No program in this text.
-/
import Derived.Test.YtoccbeefmagklaaReadRuns
import Derived.Test.YtoccbeefmagklaaBackRow
namespace Go.Proofs.Ytoccbeefmagklaa
open Go.RowKit
namespace Rd
def acc (f : Nat) (last : Int) (zs : List Int) : List Int := if f = 1 then sumsFrom last zs else zs
theorem sums_zero {zs : List Int} (h : Rw.AllFit zs) : sums zs = sumsFrom 0 zs := by
  cases zs with
  | nil => rfl
  | cons z r =>
    have hz : wrap64 (z + 0) = z := by
      have := h z List.mem_cons_self
      unfold Rw.Fits at this
      unfold wrap64
      omega
    simp only [sums, sumsFrom, hz]
theorem form_nums {l : List UInt8} {n f : Nat} (hf : f ≤ 1) : form l f n = (nums n l).map fun r => (acc f 0 r.1, r.2) := by
  unfold form
  rw [if_neg (by omega)]
  cases h : nums n l with
  | none => rfl
  | some r =>
    obtain ⟨zs, t⟩ := r
    have hz := (nums_facts n l zs t h).2.2.2
    simp only [Option.map_some, acc]
    split
    · rw [sums_zero hz]
    · rfl
/-- Where the reader of numbers one by one stands. -/
def Num (l : List UInt8) (n f : Nat) (pre : List Int) (a : Nat) (last : Int) : Prop := form l f n = (nums (n - pre.length) (l.drop a)).map fun r => (pre ++ acc f last r.1, a + r.2)
theorem Num.start {l : List UInt8} {n f : Nat} (hf : f ≤ 1) : Num l n f [] 0 0 := by
  unfold Num
  rw [form_nums hf]
  simp
theorem Num.stop {l : List UInt8} {n f : Nat} {pre : List Int} {a : Nat} {last : Int} (h : Num l n f pre a last) (hp : pre.length < n) (hs : (Dec.getN (l.drop a)).2 = 0) : form l f n = none := by
  unfold Num at h
  rw [h, show n - pre.length = (n - pre.length - 1) + 1 by omega, nums_stop hs]
  rfl
theorem Num.step {l : List UInt8} {n f : Nat} {pre : List Int} {a x s : Nat} {last y last' : Int} (h : Num l n f pre a last) (hp : pre.length < n) (hg : Dec.getN (l.drop a) = (x, s)) (hs : s ≠ 0)
    (hy : (f = 1 ∧ y = wrap64 (Dec.unzig x + last) ∧ last' = y) ∨ (f ≠ 1 ∧ y = Dec.unzig x)) : Num l n f (pre ++ [y]) (a + s) last' := by
  unfold Num at *
  rw [h, show n - pre.length = (n - (pre ++ [y]).length) + 1 by simp; omega, nums_step (by rw [hg]; exact hs), hg, List.drop_drop, Option.map_map]
  congr 1
  funext r
  simp only [Function.comp, Prod.mk.injEq]
  refine ⟨?_, by omega⟩
  rcases hy with ⟨rfl, rfl, rfl⟩ | ⟨hf, rfl⟩
  · simp [acc, sumsFrom]
  · simp [acc, hf]
theorem Num.done {l : List UInt8} {n f : Nat} {pre : List Int} {a : Nat} {last : Int} (h : Num l n f pre a last) (hp : pre.length = n) : form l f n = some (pre, a) := by
  unfold Num at h
  rw [h, hp, Nat.sub_self]
  simp [nums, acc, sumsFrom]
theorem form_two {l : List UInt8} {n many a0 : Nat} (hg : Dec.getN l = (many, a0)) (h0 : a0 ≠ 0) : form l 2 n = (runs many n none (l.drop a0)).map fun r => (r.1, a0 + r.2) := by
  unfold form
  rw [if_pos rfl, hg, if_neg h0]
theorem form_none {l : List UInt8} {n : Nat} (h0 : (Dec.getN l).2 = 0) : form l 2 n = none := by
  unfold form
  rw [if_pos rfl, if_pos h0]
theorem form_many {l : List UInt8} {n many a0 : Nat} (hg : Dec.getN l = (many, a0)) (h0 : a0 ≠ 0) (hm : n < many) : form l 2 n = none := by
  rw [form_two hg h0]
  cases h : runs many n none (l.drop a0) with
  | none => rfl
  | some r =>
    obtain ⟨zs, t⟩ := r
    obtain ⟨rl, h1, h2, h3⟩ := runs_back _ _ _ _ _ _ h
    have h4 := (runs_facts _ _ _ _ _ _ h).1
    have h5 := valid_length h3.2
    rw [← h2] at h5
    omega
/-- Where the reader of runs stands: the document asks at the end alone whether two runs join. -/
def Lax (l : List UInt8) (n many a0 i a : Nat) (pre : List Int) : Prop := form l 2 n = none ∨ At l many n a0 i a pre
theorem Lax.none1 {l : List UInt8} {n many a0 i a : Nat} {pre : List Int} (hg : Dec.getN l = (many, a0)) (h0 : a0 ≠ 0) (h : Lax l n many a0 i a pre) (hi : i < many)
    (hb : (Dec.getN (l.drop a)).2 = 0 ∨ (Dec.getN (l.drop a)).1 = 0 ∨ n - pre.length < (Dec.getN (l.drop a)).1) : form l 2 n = none := by
  rcases h with h | h
  · exact h
  · rw [form_two hg h0, h.none1 hi hb]
    rfl
theorem Lax.none2 {l : List UInt8} {n many a0 i a m h' : Nat} {pre : List Int} (hg : Dec.getN l = (many, a0)) (h0 : a0 ≠ 0) (h : Lax l n many a0 i a pre) (hi : i < many) (h1 : Dec.getN (l.drop a) = (m, h'))
    (hb : (Dec.getN (l.drop (a + h'))).2 = 0) : form l 2 n = none := by
  rcases h with h | h
  · exact h
  · rw [form_two hg h0, h.none2 hi h1 (.inl hb)]
    rfl
theorem Lax.step {l : List UInt8} {n many a0 i a m h' x s : Nat} {pre : List Int} (hg : Dec.getN l = (many, a0)) (h0 : a0 ≠ 0) (h : Lax l n many a0 i a pre) (hi : i < many) (haa : a0 ≤ a) (h1 : Dec.getN (l.drop a) = (m, h')) (h2 : Dec.getN (l.drop (a + h')) = (x, s))
    (hh : h' ≠ 0) (hn : m ≠ 0) (hl : m ≤ n - pre.length) (hs : s ≠ 0) : Lax l n many a0 (i + 1) (a + h' + s) (pre ++ List.replicate m (Dec.unzig x)) := by
  rcases h with h | h
  · exact .inl h
  · by_cases hx : pre.getLast? = some (Dec.unzig x)
    · refine .inl ?_
      rw [form_two hg h0, h.none2 hi h1 (.inr (by rw [h2]; exact hx))]
      rfl
    · rw [Nat.add_assoc]
      exact .inr (h.step hi haa h1 h2 hh hn hl hs hx)
theorem Lax.full {l : List UInt8} {n many a0 i a : Nat} {pre : List Int} (hg : Dec.getN l = (many, a0)) (h0 : a0 ≠ 0) (h : Lax l n many a0 i a pre) (hi : i < many) (hp : pre.length = n) : form l 2 n = none :=
  h.none1 hg h0 hi (by omega)
theorem Lax.done {l : List UInt8} {n many a0 a : Nat} {pre : List Int} (hg : Dec.getN l = (many, a0)) (h0 : a0 ≠ 0) (h : Lax l n many a0 many a pre) (haa : a0 ≤ a) (hp : pre.length ≤ n) : form l 2 n = none ∨ (pre.length = n ∧ form l 2 n = some (pre, a)) := by
  rcases h with h | h
  · exact .inl h
  · have := h.done hp
    by_cases hc : pre.length = n
    · rw [if_pos hc] at this
      refine .inr ⟨hc, ?_⟩
      rw [form_two hg h0, this]
      simp
      omega
    · rw [if_neg hc] at this
      refine .inl ?_
      rw [form_two hg h0, this]
      rfl
theorem Lax.done' {l : List UInt8} {n many a0 i a : Nat} {pre : List Int} (hg : Dec.getN l = (many, a0)) (h0 : a0 ≠ 0) (h : Lax l n many a0 i a pre) (hi : i = many) (haa : a0 ≤ a) (hp : pre.length < n) : form l 2 n = none := by
  subst hi
  rcases h.done hg h0 haa (by omega) with h | h
  · exact h
  · omega
theorem unzig_fit {l : List UInt8} {x s : Nat} (h : Dec.getN l = (x, s)) : Rw.Fits (Dec.unzig x) := by
  have := unzig_fits l
  rwa [h] at this
theorem fit_more {pre : List Int} {z : Int} (h : Rw.AllFit pre) (hz : Rw.Fits z) (m : Nat) : Rw.AllFit (pre ++ List.replicate m z) := by
  intro x hx
  rcases List.mem_append.1 hx with hx | hx
  · exact h x hx
  · rw [List.eq_of_mem_replicate hx]
    exact hz
end Rd
end Go.Proofs.Ytoccbeefmagklaa
