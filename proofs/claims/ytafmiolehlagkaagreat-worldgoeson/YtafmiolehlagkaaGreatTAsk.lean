/-
  New, Find, Len, and what is asked of a place.
-/
import Derived.Test.YtafmiolehlagkaaGreatTTab
namespace Go.Proofs.YtafmiolehlagkaaGreat
open Go.RowKit
set_option maxRecDepth 100000
theorem new_bad (x : Int) (w : World) (h : x < 0 ∨ x > 48) : Calls Tryz.prog 138 #[.int .i64 x] w fun e w' => e = .returned (.tuple #[.pointer none, .int .i64 1]) ∧ w' = w := by
  go_enter Tryz.func138, Tryz.ntmps138
  by_cases h1 : x < 0
  · go_wp2_with fail
    go_ret2
    exact ⟨rfl, rfl⟩
  · have h2 : x > 48 := by omega
    go_wp2_with fail
    go_ret2
    exact ⟨rfl, rfl⟩
theorem new_any (k : Nat) (w : World) (h : k ≤ 48) : Calls Tryz.prog 138 #[.int .i64 (k : Int)] w fun e w' => ∃ g, e = .returned (.tuple #[.pointer (some ⟨g, 0, none⟩), .int .i64 0]) ∧ Tb w' (fun q => w.heap.size ≤ q) g 0 [] (List.replicate k []) ∧ Below w.heap.size w w' := by
  have t1 : ¬ (k : Int) < 0 := by omega
  have t2 : ¬ (k : Int) > 48 := by omega
  have hmm := @run_makeMap Tryz.prog
  obtain ⟨i0, hi, hz0, hz1, hz2⟩ := info_parts info27
  go_enter Tryz.func138, Tryz.ntmps138
  go_wp2_with (at_make; refine wpList_make_full _ rfl _ _ 42 rfl w.heap.size 30 i0 (.slice none 0 0) 1 Tryz.underlying42 hi hz0 hz1 .i64 .i64 _ _ k rfl rfl ?c1 ?c2 ?c3 ?c4 ?c5 ?_)
  case c1 => omega
  case c2 => omega
  case c3 => omega
  case c4 => unfold maxLen; omega
  intro w1 hown hgrow
  rw [toList_madeCells_one] at hown
  have hmp : Mp w1 w.heap.size 0 (fun _ => none) := (Mp.made w).kept hgrow (by simp)
  have hb1 : Below w.heap.size w w1 := (below_alloc w (.map #[] 0)).grown hgrow (by simp) (by intro k hk; cases hk)
  have hs1 : w.heap.size + 1 < w1.heap.size := by
    have := (hown.lt (w.heap.size + 1) rfl).2
    exact this
  have HO := hide hown
  have HMP := hide hmp
  have HB := hide hb1
  clear hown hgrow hmp hb1
  go_wp2_with fail
  go_ret2
  have hb2 := below_alloc w1 (.cells #[.slice none 0 0, .map (some w.heap.size), .slice (some ⟨w.heap.size + 1, 0, none⟩) k k] 197)
  refine ⟨_, rfl, ⟨fun q => if q = w.heap.size then 2 else if q = w.heap.size + 1 then 3 else 0, .slice none 0 0, w.heap.size, .slice (some ⟨w.heap.size + 1, 0, none⟩) k k, List.replicate k (.slice none 0 0), fun _ => none, ⟨heap_alloc_new w1 _, ⟨rfl, .inl ⟨rfl, rfl⟩⟩, HMP.out.same (hb2.block _ (by omega)), ?_, by simp, fun j hj hj2 => ?_, ?_, fun q e => by simp [Value.ownBlock] at e, by simp, fun q e => ?_, fun j hj q e => ?_⟩, ⟨fun i hi => by simp at hi, fun e i he => by cases he⟩, fun c hc => ?_, ⟨HB.out.size, In.nil _, Nat.le_refl _, fun q e => ?_, fun v hv => ?_⟩, fun e he => by simp at he, by simp, by simp; omega⟩, below_on HB.out hb2⟩
  · have := own_lower (own_later HO.out hb2) (Nat.zero_le _)
    simpa using this
  · simp only [List.getElem_replicate]
    exact ⟨rfl, .inl ⟨rfl, rfl⟩⟩
  · dsimp only; rw [if_neg (by omega), if_neg (by omega)]
  · simp only [Value.ownBlock, Option.some.injEq] at e
    subst e
    simp
  · simp [Value.ownBlock] at e
  · rw [List.eq_of_mem_replicate hc]; rfl
  · simp only [Value.ownBlock, Option.some.injEq] at e
    omega
  · rw [List.eq_of_mem_replicate hv]
    exact In.nil _
theorem len_any {w : World} {S : Nat → Prop} {g n : Nat} {rows : List (Int × Int)} {cols : List (List Int)} (h : Tb w S g n rows cols) : Calls Tryz.prog 85 #[.pointer (some ⟨g, 0, none⟩)] w fun e w' => e = .returned (.int .i64 (rows.length : Int)) ∧ w' = w := by
  obtain ⟨lab, vr, gm, vc, cs, f, hm, -⟩ := h
  obtain ⟨c0, c1, c2⟩ := hm.cell
  obtain ⟨ao, c, rfl⟩ := own_len hm.2.1
  clear hm
  go_enter Tryz.func85, Tryz.ntmps85
  go_wp2_with fail
  go_ret
  exact ⟨rfl, rfl⟩
theorem hasrow_any {w : World} {S : Nat → Prop} {g n : Nat} {rows : List (Int × Int)} {cols : List (List Int)} (h : Tb w S g n rows cols) (x : Int) : Calls Tryz.prog 183 #[.pointer (some ⟨g, 0, none⟩), .int .i64 x] w fun e w' => e = .returned (.bool (decide (0 ≤ x ∧ x < (rows.length : Int)))) ∧ w' = w := by
  obtain ⟨lab, vr, gm, vc, cs, f, hm, -⟩ := h
  obtain ⟨c0, c1, c2⟩ := hm.cell
  obtain ⟨ao, c, rfl⟩ := own_len hm.2.1
  clear hm
  go_enter Tryz.func183, Tryz.ntmps183
  by_cases h1 : 0 ≤ x
  · have t1 : x ≥ 0 := h1
    by_cases h2 : x < (rows.length : Int)
    · rw [decide_eq_true ⟨h1, h2⟩]
      go_wp2_with fail
      go_ret
      exact ⟨rfl, rfl⟩
    · rw [decide_eq_false (fun e => h2 e.2)]
      go_wp2_with fail
      go_ret
      exact ⟨rfl, rfl⟩
  · rw [decide_eq_false (fun e => h1 e.1)]
    have t1 : ¬ x ≥ 0 := h1
    go_wp2_with fail
    go_ret
    exact ⟨rfl, rfl⟩
theorem hascol_any {w : World} {S : Nat → Prop} {g n : Nat} {rows : List (Int × Int)} {cols : List (List Int)} (h : Tb w S g n rows cols) (x : Int) : Calls Tryz.prog 193 #[.pointer (some ⟨g, 0, none⟩), .int .i64 x] w fun e w' => e = .returned (.bool (decide (0 ≤ x ∧ x < (cols.length : Int)))) ∧ w' = w := by
  obtain ⟨lab, vr, gm, vc, cs, f, hm, -⟩ := h
  obtain ⟨c0, c1, c2⟩ := hm.cell
  obtain ⟨ao, c, rfl⟩ := own_len hm.2.2.2.1
  have hl := hm.2.2.2.2.1
  rw [hl] at c2
  clear hm
  go_enter Tryz.func193, Tryz.ntmps193
  by_cases h1 : 0 ≤ x
  · have t1 : x ≥ 0 := h1
    by_cases h2 : x < (cols.length : Int)
    · rw [decide_eq_true ⟨h1, h2⟩]
      go_wp2_with fail
      go_ret
      exact ⟨rfl, rfl⟩
    · rw [decide_eq_false (fun e => h2 e.2)]
      go_wp2_with fail
      go_ret
      exact ⟨rfl, rfl⟩
  · rw [decide_eq_false (fun e => h1 e.1)]
    have t1 : ¬ x ≥ 0 := h1
    go_wp2_with fail
    go_ret
    exact ⟨rfl, rfl⟩
/-- What Find tells. -/
def Fnd (rows : List (Int × Int)) (e : Int × Int) (r : Int) : Prop := (r = -1 ∧ e ∉ rows) ∨ ∃ (i : Nat) (hi : i < rows.length), r = (i : Int) ∧ rows[i] = e
set_option maxHeartbeats 1000000 in
theorem find_any {w : World} {S : Nat → Prop} {g n : Nat} {rows : List (Int × Int)} {cols : List (List Int)} (h : Tb w S g n rows cols) (a b : Int) (hb : InB (a, b)) : Calls Tryz.prog 150 #[.pointer (some ⟨g, 0, none⟩), .agg #[.int .i64 a, .int .i64 b]] w fun e w' => ∃ r, e = .returned (.int .i64 r) ∧ Fnd rows (a, b) r ∧ Below w.heap.size w w' := by
  obtain ⟨lab, vr, gm, vc, cs, f, hm, hix, -⟩ := h
  obtain ⟨c0, c1, c2⟩ := hm.cell
  have HM := hide hm
  have HIX := hide hix
  obtain ⟨kl, hkl⟩ := key_of (a, b) hb
  clear hm hix
  go_enter Tryz.func150, Tryz.ntmps150
  go_upto_region 1 with fail
  obtain ⟨w1, hw1⟩ : ∃ X, X = w.alloc (.cells #[.int .i64 a, .int .i64 b] 29) := ⟨_, rfl⟩
  have B1 : Below w.heap.size w w1 := hw1 ▸ below_alloc w _
  have hx1 : w1.heap[w.heap.size]? = some (.cells #[.int .i64 a, .int .i64 b] 29 (0, 0)) := hw1 ▸ heap_alloc_new w _
  rw [← hw1]
  have p0 : w1.cell? ⟨w.heap.size, 0, none⟩ = some (.int .i64 a) := by rw [cell_of_row w1 _ _ _ 29 (0, 0) hx1]; rfl
  have p1 : w1.cell? ⟨w.heap.size, 1, none⟩ = some (.int .i64 b) := by rw [cell_of_row w1 _ _ _ 29 (0, 0) hx1]; rfl
  have d1 := (HM.out.later B1).cell.2.1
  obtain ⟨c, hlk, hc⟩ := (HM.out.later (below_on B1 (below_drew w1))).2.2.1.look (a, b) hb
  have HC := hide hc
  clear hx1 hw1 hc c0 c1 c2
  go_region_law (fail)
  all_goals
    cases hf : f (a, b) with
    | none =>
      simp only [Option.isSome_none]
      go_wp2_with fail
      go_ret
      exact ⟨-1, rfl, .inl ⟨rfl, HIX.out.off.1 hf⟩, below_on B1 (below_drew _)⟩
    | some i =>
      obtain rfl := HC.out i hf
      simp only [Option.isSome_some]
      go_wp2_with fail
      go_ret
      obtain ⟨hi, hx⟩ := HIX.out.2 _ _ hf
      exact ⟨_, rfl, .inr ⟨i, hi, rfl, hx⟩, below_on B1 (below_drew _)⟩
end Go.Proofs.YtafmiolehlagkaaGreat
