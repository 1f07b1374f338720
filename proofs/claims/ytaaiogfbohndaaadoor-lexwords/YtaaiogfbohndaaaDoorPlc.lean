/-
  Place, the program's and the document's.
-/
import Derived.Test.YtaaiogfbohndaaaDoorLex
import Derived.Lib.LastIndexByte
namespace Go.Proofs.YtaaiogfbohndaaaDoor
open Go.RowKit
set_option maxRecDepth 1000000

/-- Line and column behind k bytes. -/
def pl (f : Nat → Nat) : Nat → Nat × Nat
  | 0 => (1, 1)
  | k + 1 => if f k = 10 then ((pl f k).1 + 1, 1) else ((pl f k).1, (pl f k).2 + 1)
theorem pl_le (f : Nat → Nat) : ∀ k, (pl f k).1 ≤ k + 1 ∧ (pl f k).2 ≤ k + 1 ∧ 1 ≤ (pl f k).2
  | 0 => by simp [pl]
  | k + 1 => by
    have := pl_le f k
    simp only [pl]
    split <;> simp <;> omega
theorem pl_succ (f : Nat → Nat) (k : Nat) : pl f (k + 1) = if f k = 10 then ((pl f k).1 + 1, 1) else ((pl f k).1, (pl f k).2 + 1) := by rw [pl]

theorem count_pl (s : ByteArray) : ∀ k, k ≤ s.size → ((s.data.toList.take k).count 10) + 1 = (pl (bt s) k).1
  | 0, h => by simp [pl]
  | k + 1, h => by
    have ih := count_pl s k (by omega)
    have hk : k < s.data.toList.length := by rw [Array.length_toList]; exact h
    rw [List.take_succ_eq_append_getElem hk, List.count_append, pl_succ]
    have hb : bt s k = (s.data.toList[k]).toNat := by
      unfold bt
      rw [List.getD_eq_getElem?_getD, List.getElem?_eq_getElem hk]
      rfl
    by_cases h10 : bt s k = 10
    · have e : s.data.toList[k] = 10 := UInt8.toNat_inj.1 (by rw [← hb, h10]; rfl)
      rw [if_pos h10, e]
      simp
      omega
    · have e : ¬ s.data.toList[k] = 10 := fun e => h10 (by rw [hb, e]; rfl)
      rw [if_neg h10]
      have : List.count 10 [s.data.toList[k]] = 0 := List.count_eq_zero.2 (by rw [List.mem_singleton]; exact fun h => e h.symm)
      rw [this]
      omega
theorem last_pl (s : ByteArray) (a : Nat) (ha : a ≤ s.size) : ∀ k, k ≤ a → Lib.lastIdx (s.extract 0 a) 10 k = (k : Int) - ((pl (bt s) k).2 : Int)
  | 0, h => by simp [Lib.lastIdx, pl]
  | k + 1, h => by
    have ih := last_pl s a ha k (by omega)
    have hz : (s.extract 0 a).size = a := by rw [ByteArray.size_extract]; omega
    have hb : bt s k = ((s.extract 0 a)[k]'(by omega)).toNat := by
      rw [← bt_at (s.extract 0 a) k (by omega), bt_ext s 0 a k ha, if_pos (by omega), Nat.zero_add]
    have hg : (s.extract 0 a).data[k]! = (s.extract 0 a)[k]'(by omega) := byte_at _ _ _
    have := pl_le (bt s) k
    rw [Lib.lastIdx, pl_succ, hg, ← hb, ih]
    by_cases h10 : bt s k = 10
    · rw [if_pos (by rw [h10]; rfl), if_pos h10]
      simp
    · rw [if_neg (by omega), if_neg h10]
      simp
      omega

def plA (s : ByteArray) (x : Int) : Nat := if x < 0 then 0 else if (s.size : Int) < x then s.size else x.toNat
theorem plA_le (s : ByteArray) (x : Int) : plA s x ≤ s.size := by unfold plA; split <;> (try split) <;> omega

theorem place_any (s : ByteArray) (x : Int) (hs : s.size ≤ 140737488355328) (w : World) :
    Calls Tryd.prog 16 #[.string s, .int .i64 x] w fun e w' => e = .returned (.tuple #[.int .i64 ((pl (bt s) (plA s x)).1 : Nat), .int .i64 ((pl (bt s) (plA s x)).2 : Nat)]) ∧ w' = w := by
  obtain ⟨a, ha⟩ : ∃ a, a = plA s x := ⟨_, rfl⟩
  have hle := plA_le s x
  rw [← ha] at hle ⊢
  have hmm : min (max x 0) (s.size : Int) = (a : Int) := by
    rw [ha]; unfold plA; split <;> (try split) <;> omega
  clear ha
  have hz : (s.extract 0 a).size = a := by rw [ByteArray.size_extract]; omega
  have c21 := Tryd.strings_LastIndexByte (s.extract 0 a) 10 (by omega)
  have e21 : Lib.lastIndexByte (s.extract 0 a) 10 = (a : Int) - ((pl (bt s) a).2 : Int) := by
    unfold Lib.lastIndexByte
    rw [hz]
    exact last_pl s a hle a (Nat.le_refl _)
  rw [e21] at c21
  have c22 := Tryd.strings_Count_one (s.extract 0 a) 10
  have e22 : Lib.countByte (s.extract 0 a).data.toList 10 + 1 = (pl (bt s) a).1 := by
    unfold Lib.countByte
    rw [ext_data, List.drop_zero, Nat.sub_zero]
    exact count_pl s a hle
  have hpl := pl_le (bt s) a
  generalize Lib.countByte (s.extract 0 a).data.toList 10 = cn at c22 e22
  clear e21
  generalize (pl (bt s) a).1 = p1 at *
  generalize (pl (bt s) a).2 = p2 at *
  have hcn' : cn ≤ a := by omega
  have HE := hide e22
  clear e22
  go_enter Tryd.func16, Tryd.ntmps16
  go_wp2_with (first | (go_at_call 21; refine (c21 _).mono ?_; rintro e w' ⟨rfl, rfl⟩) | (go_at_call 22; refine (c22 _).mono ?_; rintro e w' ⟨rfl, rfl⟩))
  have := HE.out
  rw [show (a : Int) - ((a : Int) - (p2 : Int) + 1) + 1 = (p2 : Int) by omega, show (cn : Int) + 1 = (p1 : Int) by omega]
  go_ret2
  exact ⟨rfl, rfl⟩

def dpF (s : ByteArray) (a i : Nat) (u : Nat → Value) : Act := { tmps := #[.string s, .int .i64 (a : Nat), undef, undef, .int .i64 0, .int .i64 0, .int .i64 ((pl (bt s) i).1 : Nat), .int .i64 ((pl (bt s) i).2 : Nat), .int .i64 (i : Nat), u 9, u 10, u 11, u 12, u 13, u 14, u 15, u 16, u 17, u 18, u 19, u 20, u 21, u 22, u 23, u 24, u 25, u 26, u 27, u 28], defers := [] }
def DpI (s : ByteArray) (a : Nat) (w : World) (m : Nat) (A : Act) (W : World) : Prop := W = w ∧ ∃ i : Nat, A = dpF s a i (fun k => A.tmps.getD k undef) ∧ i ≤ a ∧ m = a - i
theorem dplace_any (s : ByteArray) (x : Int) (hs : s.size ≤ 140737488355328) (w : World) :
    Calls Tryd.prog 17 #[.string s, .int .i64 x] w fun e w' => e = .returned (.tuple #[.int .i64 ((pl (bt s) (plA s x)).1 : Nat), .int .i64 ((pl (bt s) (plA s x)).2 : Nat)]) ∧ w' = w := by
  obtain ⟨a, ha⟩ : ∃ a, a = plA s x := ⟨_, rfl⟩
  have hle := plA_le s x
  rw [← ha] at hle ⊢
  have hmm : max 0 (min x (s.size : Int)) = (a : Int) := by
    rw [ha]; unfold plA; split <;> (try split) <;> omega
  clear ha
  go_enter Tryd.func17, Tryd.ntmps17
  go_wp2
  refine loop_ghost (DpI s a w) a ⟨rfl, 0, rfl, by omega, rfl⟩ ?_
  rintro m A W ⟨rfl, i, hA, hi, hm⟩
  generalize (fun k => A.tmps.getD k undef) = u at hA
  subst hA
  simp only [dpF]
  have hpl := pl_le (bt s) i
  have hps := pl_succ (bt s) i
  have HS := hide hps
  clear hps
  generalize hq1 : (pl (bt s) i).1 = q1 at *
  generalize hq2 : (pl (bt s) i).2 = q2 at *
  have H1 := hide hq1
  have H2 := hide hq2
  clear hq1 hq2
  go_wp2
  · rename_i h3 h2 h1
    rw [← bt_at s i h2] at h1
    have h1' : bt s i = 10 := by simp only [beq_iff_eq] at h1; omega
    have e1 : pl (bt s) (i + 1) = (q1 + 1, 1) := by rw [HS.out, if_pos h1']
    refine ⟨a - (i + 1), by omega, rfl, i + 1, ?_, by omega, rfl⟩
    unfold dpF
    rw [e1]
    rfl
  · have h3 : i < a := by assumption
    have h2 : i < s.size := by assumption
    have h1 : (((s[i]'h2).toNat : Int) == 10) = false := by assumption
    rw [← bt_at s i h2] at h1
    have h1' : bt s i ≠ 10 := by simp only [beq_eq_false_iff_ne, ne_eq] at h1; omega
    have e1 : pl (bt s) (i + 1) = (q1, q2 + 1) := by rw [HS.out, if_neg h1']
    refine ⟨a - (i + 1), by omega, rfl, i + 1, ?_, by omega, rfl⟩
    unfold dpF
    rw [e1]
    rfl
  · have e : i = a := by omega
    have e1 := H1.out
    have e2 := H2.out
    rw [e] at e1 e2
    rw [e1, e2]
    go_ret2
    exact ⟨rfl, rfl⟩
end Go.Proofs.YtaaiogfbohndaaaDoor
