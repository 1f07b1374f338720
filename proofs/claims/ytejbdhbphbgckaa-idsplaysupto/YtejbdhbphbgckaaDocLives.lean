/-
  The document's Lives, and whether a number is free.
-/
import Derived.Test.YtejbdhbphbgckaaDoc
namespace Go.Proofs.Ytejbdhbphbgckaa
open Go.RowKit
set_option maxHeartbeats 2000000 in
set_option maxRecDepth 100000 in
theorem dlives_any {w : World} {S : Nat → Prop} {g n : Nat} {gs fr : List Nat} (a b : Int) (h : Dl w S g n gs fr) :
    Calls Try.prog 32 #[.pointer (some ⟨g, 0, none⟩), .agg #[.int .i64 a, .int .i64 b]] w fun e w' => e = .returned (.bool (livesOf gs fr a b)) ∧ Below w.heap.size w w' := by
  obtain ⟨⟨vg, vo, vf, hp, _⟩, ho⟩ := h
  have c1 : ∀ o, (w.alloc o).cell? ⟨g, 1, none⟩ = some vg := fun o => (hp.later (below_alloc w o)).cell.2.1
  have c2 : ∀ o, (w.alloc o).cell? ⟨g, 2, none⟩ = some vo := fun o => (hp.later (below_alloc w o)).cell.2.2.1
  obtain ⟨aog, cg, rfl⟩ := own_len hp.2.1
  by_cases h0 : 0 ≤ a
  · obtain ⟨i, rfl⟩ : ∃ i : Nat, a = (i : Int) := ⟨a.toNat, by omega⟩
    have d0 : decide ((0 : Int) ≤ (i : Int)) = true := by simp
    rw [hsOf_len] at c1
    by_cases h1 : i < gs.length
    · have t1 : (i : Int) < (gs.length : Int) := by omega
      have d1 : decide ((i : Int) < (gs.length : Int)) = true := by simp; omega
      obtain ⟨gg, cg', ee, -, -⟩ := own_form hp.2.1 (by rw [hsOf_len]; omega)
      simp only [Value.slice.injEq] at ee
      obtain ⟨rfl, -, rfl⟩ := ee
      obtain ⟨go, co, rfl, -, -⟩ := own_form hp.2.2.1 (by rw [osOf_len]; omega)
      have e1 : ∀ o, (w.alloc o).cell? ⟨gg, i, none⟩ = some (.int .i64 ((min (gs.getD i 0) 1000000 : Nat) : Int)) := fun o => by
        rw [own_int (hp.later (below_alloc w o)).2.1 i (by rw [hsOf_len]; exact h1), hsOf_at gs i h1]
      have e2 : ∀ o, (w.alloc o).cell? ⟨go, i, none⟩ = some (.bool (on gs fr i)) := fun o => by
        rw [own_bool (hp.later (below_alloc w o)).2.2.1 i (by rw [osOf_len]; exact h1), osOf_at gs fr i h1]
      rw [osOf_len] at c2
      cases hon : on gs fr i with
      | true =>
        have hle := on_le hon
        have HR : Hid (livesOf gs fr (i : Int) b = decide (((gs.getD i 0 : Nat) : Int) = b)) := by simp [Hid, livesOf, isOn, hon, h1]
        rw [hon] at e2
        rw [Nat.min_eq_left hle] at e1
        generalize gs.getD i 0 = y at *
        clear hp ho hon hle
        by_cases hyb : (y : Int) = b
        · have d2 : ((y : Int) == b) = true := by simp [hyb]
          have HR2 : Hid (livesOf gs fr (i : Int) b = true) := by rw [Hid, HR.out]; simp [hyb]
          subst hyb
          clear HR
          go_enter Try.func32, Try.ntmps32
          go_wp2_with fail
          go_quiet (fail)
          go_wp2_with fail
          go_ret
          rw [HR2.out]
          exact ⟨rfl, below_on (below_alloc w _) (below_drawn _ _)⟩
        · have d2 : ((y : Int) == b) = false := by rw [beq_eq_false_iff_ne]; exact hyb
          have HR2 : Hid (livesOf gs fr (i : Int) b = false) := by rw [Hid, HR.out]; simp [hyb]
          clear HR hyb
          go_enter Try.func32, Try.ntmps32
          go_wp2_with fail
          go_quiet (fail)
          go_wp2_with fail
          go_ret
          rw [HR2.out]
          exact ⟨rfl, below_on (below_alloc w _) (below_drawn _ _)⟩
      | false =>
        have HR : Hid (livesOf gs fr (i : Int) b = false) := by simp [Hid, livesOf, isOn, hon]
        rw [hon] at e2
        clear hp ho hon e1
        go_enter Try.func32, Try.ntmps32
        go_wp2_with fail
        go_quiet (fail)
        go_wp2_with fail
        go_ret
        rw [HR.out]
        exact ⟨rfl, below_on (below_alloc w _) (below_drawn _ _)⟩
    · have d1 : decide ((i : Int) < (gs.length : Int)) = false := by simp; omega
      have d2 : decide (i < gs.length) = false := by simp; omega
      have HR : Hid (livesOf gs fr (i : Int) b = false) := by simp [Hid, livesOf, isOn, h1]
      clear hp ho
      go_enter Try.func32, Try.ntmps32
      go_wp2_with fail
      go_quiet (fail)
      go_wp2_with fail
      go_ret
      rw [HR.out]
      exact ⟨rfl, below_on (below_alloc w _) (below_drawn _ _)⟩
  · have d0 : decide ((0 : Int) ≤ a) = false := by simp; omega
    have HR : Hid (livesOf gs fr a b = false) := by simp [Hid, livesOf, isOn, h0]
    clear hp ho
    go_enter Try.func32, Try.ntmps32
    go_wp2_with fail
    go_quiet (fail)
    go_wp2_with fail
    go_ret
    rw [HR.out]
    exact ⟨rfl, below_on (below_alloc w _) (below_drawn _ _)⟩
set_option maxHeartbeats 2000000 in
theorem dfree_any {w : World} {g n : Nat} {vg vo vf : Value} {hs fr : List Nat} {os : List Bool} (i : Nat) (h : Dm w g n vg vo vf hs os fr) :
    Calls Try.prog 36 #[.pointer (some ⟨g, 0, none⟩), .int .i64 (i : Int)] w fun e w' => e = .returned (.bool (decide (i ∈ fr))) ∧ w' = w := by
  obtain ⟨c0, c1, c2, c3⟩ := h.cell
  have HF := hide h.2.2.2.1
  obtain ⟨ao, c, rfl, hc1, hc2⟩ := h.2.2.2.1.len
  clear h
  go_enter Try.func36, Try.ntmps36
  go_wp2_with fail
  go_loopw [5] (fun v5 wr => ∃ k : Nat, k ≤ fr.length ∧ v5 = .int .i64 (k : Int) ∧ wr = w ∧ Hid (i ∉ fr.take k)) (fun v5 _ => fr.length - (intOf v5).toNat)
  case atStart => exact ⟨0, Nat.zero_le _, rfl, rfl, by simp [Hid]⟩
  case round =>
    obtain ⟨k, hk, rfl, rfl, HK⟩ := hrel
    by_cases hlt : k < fr.length
    · have t1 : (k : Int) < (fr.length : Int) := by omega
      obtain ⟨gf, o, c', ee, -, -⟩ := HF.out.form (by omega)
      simp only [Value.slice.injEq] at ee
      obtain ⟨rfl, -, rfl⟩ := ee
      have e1 := HF.out.at k hlt
      have hs := List.take_add_one (l := fr) (i := k)
      rw [List.getElem?_eq_getElem hlt] at hs
      by_cases hx : fr[k] = i
      · have HR : Hid (decide (i ∈ fr) = true) := by simp only [Hid, decide_eq_true_eq]; exact hx ▸ List.getElem_mem hlt
        rw [hx] at e1
        clear hs hx HK
        go_wp2_with fail
        go_ret
        rw [HR.out]
        exact ⟨rfl, rfl⟩
      · have HR : Hid (i ∉ fr.take (k + 1)) := by
          simp only [Hid, hs, List.mem_append, Option.toList_some, List.mem_singleton]
          rintro (h | h)
          · exact HK.out h
          · exact hx h.symm
        have d1 : (((fr[k] : Nat) : Int) == (i : Int)) = false := by rw [beq_eq_false_iff_ne]; omega
        clear hs
        go_wp2_with fail
        go_roundw
        case rel => exact ⟨k + 1, by omega, by go_num, by first | rfl | trivial, HR⟩
        case measure => simp [intOf]; omega
    · obtain rfl : k = fr.length := by omega
      have t1 : ¬ (fr.length : Int) < (fr.length : Int) := by omega
      have HR : Hid (decide (i ∈ fr) = false) := by have := HK.out; rw [List.take_length] at this; simp only [Hid, decide_eq_false_iff_not]; exact this
      clear HK
      go_wp2_with fail
      go_ret
      rw [HR.out]
      exact ⟨rfl, rfl⟩
end Go.Proofs.Ytejbdhbphbgckaa
