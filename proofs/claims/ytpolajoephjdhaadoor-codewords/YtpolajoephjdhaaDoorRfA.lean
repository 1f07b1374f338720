/-
  The document's IsOp, Name, Number.
-/
import Derived.Test.YtpolajoephjdhaaDoorRfT
namespace Go.Proofs.YtpolajoephjdhaaDoor
open Go.RowKit
set_option maxRecDepth 100000
theorem disop_any (op : Int) (w : World) : Calls Tryd.prog 22 #[.int .i64 op] w fun e w' => e = .returned (.bool (decide (1 ≤ op ∧ op ≤ 39))) ∧ w' = w := by
  by_cases h : 1 ≤ op
  · go_enter Tryd.func22, Tryd.ntmps22
    go_wp2_with fail
    go_ret
    exact ⟨ret_bool (by simp [h]), rfl⟩
  · go_enter Tryd.func22, Tryd.ntmps22
    go_wp2_with fail
    go_ret
    exact ⟨ret_bool (by simp; omega), rfl⟩
theorem dname_any (op : Int) (w : World) : Calls Tryd.prog 9 #[.int .i64 op] w fun e w' => e = .returned (.string (wd (opk op))) ∧ Below w.heap.size w w' := by
  have i1 := hide (disop_any op)
  by_cases h : 1 ≤ op ∧ op ≤ 39
  · rw [opk_in h]
    have t1 : decide (1 ≤ op ∧ op ≤ 39) = true := by simp [h]
    rw [t1] at i1
    go_enter Tryd.func9, Tryd.ntmps9
    go_wp2_with fail
    refine (i1.out _).mono ?_
    rintro e w' ⟨rfl, rfl⟩
    go_wp2_with fail
    refine (table_any w').mono ?_
    rintro e w2 ⟨rfl, hb, ht⟩
    obtain ⟨c0, -, -, -⟩ := ht op.toNat (by omega)
    go_wp2_with fail
    go_ret
    exact ⟨rfl, hb⟩
  · rw [opk_out h]
    have t1 : decide (1 ≤ op ∧ op ≤ 39) = false := by simp; omega
    rw [t1] at i1
    go_enter Tryd.func9, Tryd.ntmps9
    go_wp2_with fail
    refine (i1.out _).mono ?_
    rintro e w' ⟨rfl, rfl⟩
    go_wp2_with fail
    go_ret
    exact ⟨rfl, Below.refl _ _⟩
theorem dnumber_any (s : ByteArray) (w : World) : Calls Tryd.prog 11 #[.string s] w fun e w' => e = .returned (.int .i64 (numOf s : Int)) ∧ Below w.heap.size w w' := by
  go_enter Tryd.func11, Tryd.ntmps11
  go_wp2
  go_loopw [3] (fun v wr => ∃ k : Nat, v = .int .i64 (k : Int) ∧ 1 ≤ k ∧ k ≤ 40 ∧ Hid (∀ j, 1 ≤ j → j < k → wd j ≠ s) ∧ Hid (Below w.heap.size w wr)) (fun v _ => 41 - (intOf v).toNat)
  case atStart => exact ⟨1, rfl, by omega, by omega, fun j h1 h2 => by omega, Below.refl _ _⟩
  case round =>
    obtain ⟨k, rfl, h1, h2, h3, hbw⟩ := hrel
    by_cases hk : k < 40
    · go_wp2_with fail
      refine (table_any wr).mono ?_
      rintro e w2 ⟨rfl, hb, ht⟩
      obtain ⟨c0, -, -, -⟩ := ht k hk
      have HB := hide (below_on hbw.out hb)
      clear hb ht hbw
      by_cases he : wd k = s
      · have hb : ((wd k).toList == s.toList) = true := by rw [beq_list]; simp [he]
        have HE := hide (numOf_at h1 hk he h3.out)
        clear he
        go_wp2_with fail
        go_ret
        rw [HE.out]
        exact ⟨rfl, HB.out⟩
      · have hb : ((wd k).toList == s.toList) = false := by rw [beq_list]; simp [he]
        have HE : Hid (∀ j, 1 ≤ j → j < k + 1 → wd j ≠ s) := fun j a b => by
          by_cases hj : j = k
          · subst hj; exact he
          · exact h3.out j a (by omega)
        clear he
        go_wp2_with fail
        refine ⟨⟨k + 1, by go_num, by omega, by omega, HE, HB⟩, by simp [intOf]; omega⟩
    · have HE := hide (numOf_no (s := s) (fun j a b => h3.out j a (by omega)))
      go_wp2_with fail
      go_ret
      rw [HE.out]
      exact ⟨rfl, hbw.out⟩
end Go.Proofs.YtpolajoephjdhaaDoor
