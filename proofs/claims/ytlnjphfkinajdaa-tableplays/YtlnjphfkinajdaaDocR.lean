/-
  The document's Find, Get, Set.
-/
import Derived.Test.YtlnjphfkinajdaaFz
namespace Go.Proofs.Ytlnjphfkinajdaa
open Go.RowKit
section
variable {w : World} {S : Nat → Prop} {g : Nat} {rows : List (Int × Int)} {cols : List (List Int)}
set_option maxHeartbeats 2000000 in
theorem dfind_any (h : Dt w S g rows cols) (a b : Int) : Calls Try.prog 37 #[.pointer (some ⟨g, 0, none⟩), .agg #[.int .i64 a, .int .i64 b]] w fun e w' => ∃ r, e = .returned (.int .i64 r) ∧ Fnd rows (a, b) r ∧ Below w.heap.size w w' := by
  obtain ⟨vl, vs, hm, -, -, hr2, -⟩ := h
  obtain ⟨ao, c, rfl⟩ := own_len hm.2.1
  have HM := hide hm
  clear hm
  go_enter Try.func37, Try.ntmps37
  go_wp2_with fail
  obtain ⟨w1, hw1⟩ : ∃ X, X = w.alloc (.cells #[.int .i64 a, .int .i64 b] 32) := ⟨_, rfl⟩
  have B1 : Below w.heap.size w w1 := hw1 ▸ below_alloc w _
  have hx1 : w1.heap[w.heap.size]? = some (.cells #[.int .i64 a, .int .i64 b] 32 (0, 0)) := hw1 ▸ heap_alloc_new w _
  rw [← hw1]
  obtain ⟨kx, hkx⟩ : ∃ k, k = w.heap.size := ⟨_, rfl⟩
  rw [← hkx] at hx1 ⊢
  have HX : Hid (∀ W, Below w1.heap.size w1 W → W.cell? ⟨kx, 0, none⟩ = some (.int .i64 a) ∧ W.cell? ⟨kx, 1, none⟩ = some (.int .i64 b)) := fun W hW => by
    have := (hW.block kx (lt_of_block hx1)).trans hx1
    exact ⟨by rw [cell_of_row W kx _ _ 32 (0, 0) this]; rfl, by rw [cell_of_row W kx _ _ 32 (0, 0) this]; rfl⟩
  clear hw1 hx1 hkx
  go_loopw [5] (fun v5 wr => ∃ k : Nat, k ≤ rows.length ∧ v5 = .int .i64 (k : Int) ∧ Hid (Below w1.heap.size w1 wr) ∧ Hid ((a, b) ∉ rows.take k)) (fun v5 _ => rows.length - (intOf v5).toNat)
  case atStart => exact ⟨0, Nat.zero_le _, rfl, Below.refl _ _, by simp [Hid]⟩
  case round =>
    obtain ⟨k, hk, rfl, HW, HK⟩ := hrel
    have hb1 := below_on B1 HW.out
    obtain ⟨-, c1⟩ := (HM.out.later hb1).cell
    by_cases hlt : k < rows.length
    · have t1 : (k : Int) < (rows.length : Int) := by omega
      have hown := (HM.out.later hb1).2.1
      obtain ⟨gl, c', ee, -, -⟩ := own_form hown (by omega)
      simp only [Value.slice.injEq] at ee
      obtain ⟨rfl, -, rfl⟩ := ee
      obtain ⟨e0, e1, -⟩ := own_rows hown (HM.out.2.2.1) k hlt
      obtain ⟨x0, x1⟩ := HX.out wr HW.out
      have hs := List.take_add_one (l := rows) (i := k)
      rw [List.getElem?_eq_getElem hlt] at hs
      obtain ⟨p1, p2⟩ : ∃ p q, rows[k] = (p, q) := ⟨_, _, rfl⟩
      obtain ⟨q2, hp⟩ := p2
      rw [hp] at e0 e1
      have HP := hide hp
      clear hp hown
      go_upto_region 4 with fail
      by_cases hx : p1 = a ∧ q2 = b
      · obtain ⟨rfl, rfl⟩ := hx
        go_region_held3 (fun W => W.cell? ⟨g, 1, none⟩ = some (.slice (some ⟨gl, 0, none⟩) rows.length c) ∧ W.cell? ⟨gl, k * 3, none⟩ = some (.int .i64 p1) ∧ W.cell? ⟨gl, k * 3 + 1, none⟩ = some (.int .i64 q2) ∧ W.cell? ⟨kx, 0, none⟩ = some (.int .i64 p1) ∧ W.cell? ⟨kx, 1, none⟩ = some (.int .i64 q2)) (go_keep) (fail)
        go_wp2_with fail
        go_ret
        exact ⟨_, rfl, .inr ⟨k, hlt, rfl, HP.out⟩, below_on hb1 (below_drew _)⟩
      · have HR : Hid ((a, b) ∉ rows.take (k + 1)) := by
          simp only [Hid, hs, List.mem_append, Option.toList_some, List.mem_singleton]
          rintro (h | h)
          · exact HK.out h
          · rw [HP.out] at h
            simp only [Prod.mk.injEq] at h
            exact hx ⟨h.1.symm, h.2.symm⟩
        clear hs
        by_cases h1 : p1 = a
        · subst h1
          have h2 : ¬ q2 = b := fun e => hx ⟨rfl, e⟩
          have t2 : (q2 == b) = false := by rw [beq_eq_false_iff_ne]; exact h2
          clear hx
          go_region_held3 (fun W => W.cell? ⟨g, 1, none⟩ = some (.slice (some ⟨gl, 0, none⟩) rows.length c) ∧ W.cell? ⟨gl, k * 3, none⟩ = some (.int .i64 p1) ∧ W.cell? ⟨gl, k * 3 + 1, none⟩ = some (.int .i64 q2) ∧ W.cell? ⟨kx, 0, none⟩ = some (.int .i64 p1) ∧ W.cell? ⟨kx, 1, none⟩ = some (.int .i64 b)) (go_keep) (fail)
          go_wp2_with fail
          go_roundw
          case rel => exact ⟨k + 1, by omega, by go_num, below_on HW.out (below_drew _), HR⟩
          case measure => simp [intOf]; omega
        · have t2 : (p1 == a) = false := by rw [beq_eq_false_iff_ne]; exact h1
          clear hx
          go_region_held3 (fun W => W.cell? ⟨g, 1, none⟩ = some (.slice (some ⟨gl, 0, none⟩) rows.length c) ∧ W.cell? ⟨gl, k * 3, none⟩ = some (.int .i64 p1) ∧ W.cell? ⟨gl, k * 3 + 1, none⟩ = some (.int .i64 q2) ∧ W.cell? ⟨kx, 0, none⟩ = some (.int .i64 a) ∧ W.cell? ⟨kx, 1, none⟩ = some (.int .i64 b)) (go_keep) (fail)
          go_wp2_with fail
          go_roundw
          case rel => exact ⟨k + 1, by omega, by go_num, below_on HW.out (below_drew _), HR⟩
          case measure => simp [intOf]; omega
    · obtain rfl : k = rows.length := by omega
      have t1 : ¬ (rows.length : Int) < (rows.length : Int) := by omega
      have HN : Hid ((a, b) ∉ rows) := by have := HK.out; rw [List.take_of_length_le (Nat.le_refl _)] at this; exact this
      go_wp2_with fail
      go_ret
      exact ⟨_, rfl, .inl ⟨rfl, HN.out⟩, hb1⟩
end
end Go.Proofs.Ytlnjphfkinajdaa
