/-
  World: its kinds, as they are read; what may come.
-/
import Derived.Test.YtiolaenkfhcajaaGreatWBase
namespace Go.Proofs.YtiolaenkfhcajaaGreat
open Go.RowKit
set_option maxRecDepth 100000
abbrev Kind := ByteArray × List ByteArray
/-- Texts that are read. -/
def Sr (w : World) (v : Value) (l : List ByteArray) : Prop :=
  ∃ ao c, v = .slice ao l.length c ∧ l.length ≤ c ∧ c ≤ maxLen ∧ ∀ j (hj : j < l.length), ∃ g o, ao = some ⟨g, o, none⟩ ∧ w.cell? ⟨g, o + j, none⟩ = some (.string l[j])
/-- Kinds that are read. -/
def Kr (w : World) (v : Value) (ks : List Kind) : Prop :=
  ∃ ao c, v = .slice ao ks.length c ∧ ks.length ≤ c ∧ c ≤ maxLen ∧ ∀ i (hi : i < ks.length), ∃ g o vf, ao = some ⟨g, o, none⟩ ∧ w.cell? ⟨g, o + i * 2, none⟩ = some (.string ks[i].1) ∧ w.cell? ⟨g, o + i * 2 + 1, none⟩ = some vf ∧ Sr w vf ks[i].2
section
variable {w w' : World} {v : Value} {ks : List Kind} {l : List ByteArray}
theorem Sr.on (h : Sr w v l) (hc : ∀ (a : Addr) (x : Value), w.cell? a = some x → w'.cell? a = some x) : Sr w' v l := by
  obtain ⟨ao, c, rfl, h1, h2, h3⟩ := h
  refine ⟨ao, c, rfl, h1, h2, fun j hj => ?_⟩
  obtain ⟨g, o, rfl, h4⟩ := h3 j hj
  exact ⟨g, o, rfl, hc _ _ h4⟩
theorem Kr.later (h : Kr w v ks) (hb : Below w.heap.size w w') : Kr w' v ks := by
  have hc : ∀ (a : Addr) (x : Value), w.cell? a = some x → w'.cell? a = some x := fun a x e => (hb.cell (p := a) (World.block_lt_of_cell? w _ e)).trans e
  obtain ⟨ao, c, rfl, h1, h2, h3⟩ := h
  refine ⟨ao, c, rfl, h1, h2, fun i hi => ?_⟩
  obtain ⟨g, o, vf, rfl, h4, h5, h6⟩ := h3 i hi
  exact ⟨g, o, vf, rfl, hc _ _ h4, hc _ _ h5, h6.on hc⟩
end
/-- A world's block: its kinds lie at vk, its pool at gp, its two maps at gs and gt. -/
def Wc (w : World) (gw : Nat) (vk : Value) (gp gs gt : Nat) : Prop := w.heap[gw]? = some (.cells #[vk, .pointer (some ⟨gp, 0, none⟩), .map (some gs), .map (some gt)] 63 (0, 0))
section
variable {w w' : World} {gw gp gs gt : Nat} {vk : Value} {ks : List Kind}
theorem Wc.cell (h : Wc w gw vk gp gs gt) : w.cell? ⟨gw, 0, none⟩ = some vk ∧ w.cell? ⟨gw, 1, none⟩ = some (.pointer (some ⟨gp, 0, none⟩)) ∧ w.cell? ⟨gw, 2, none⟩ = some (.map (some gs)) ∧ w.cell? ⟨gw, 3, none⟩ = some (.map (some gt)) := by
  refine ⟨?_, ?_, ?_, ?_⟩ <;> rw [cell_of_row w gw _ _ 63 (0, 0) h] <;> rfl
theorem Wc.later (h : Wc w gw vk gp gs gt) (hb : Below w.heap.size w w') : Wc w' gw vk gp gs gt := (hb.block gw (lt_of_block h)).trans h
theorem iskind_any (h : Wc w gw vk gp gs gt) (hk : Kr w vk ks) (x : Int) : Calls Tryz.prog 75 #[.pointer (some ⟨gw, 0, none⟩), .int .i64 x] w fun e w' => e = .returned (.bool (decide (1 ≤ x ∧ x ≤ (ks.length : Int)))) ∧ w' = w := by
  obtain ⟨c0, c1, c2, c3⟩ := h.cell
  obtain ⟨ao, c, rfl, -⟩ := hk
  clear h
  generalize ks.length = n at *
  go_enter Tryz.func75, Tryz.ntmps75
  by_cases h1 : 1 ≤ x
  · have t1 : x ≥ 1 := h1
    by_cases h2 : x ≤ (n : Int)
    · rw [decide_eq_true ⟨h1, h2⟩]
      go_wp2_with fail
      go_ret
      exact ⟨rfl, rfl⟩
    · rw [decide_eq_false (fun e => h2 e.2)]
      go_wp2_with fail
      go_ret
      exact ⟨rfl, rfl⟩
  · rw [decide_eq_false (fun e => h1 e.1)]
    have t1 : ¬ x ≥ 1 := h1
    go_wp2_with fail
    go_ret
    exact ⟨rfl, rfl⟩
theorem fields_any (h : Wc w gw vk gp gs gt) (hk : Kr w vk ks) (k : Nat) (hk1 : 1 ≤ k) (hk2 : k ≤ ks.length) (hks : ks.length ≤ 12) : Calls Tryz.prog 41 #[.pointer (some ⟨gw, 0, none⟩), .int .i64 (k : Int)] w fun e w' => e = .returned (.int .i64 ((ks[k - 1]'(by omega)).2.length : Int)) ∧ w' = w := by
  obtain ⟨c0, c1, c2, c3⟩ := h.cell
  obtain ⟨ao, c, rfl, hc1, hc2, h3⟩ := hk
  obtain ⟨g, o, vf, rfl, e1, e2, e3⟩ := h3 (k - 1) (by omega)
  obtain ⟨af, cf, rfl, -⟩ := e3
  obtain ⟨j, rfl⟩ : ∃ j, k = j + 1 := ⟨k - 1, by omega⟩
  simp only [Nat.add_sub_cancel] at *
  have t1 : IntKind.i64.wrap (((j + 1 : Nat) : Int) - 1) = (j : Int) := by rw [IntKind.wrap_i64]; omega
  obtain ⟨K, hK⟩ : ∃ K : Int, K = ((j + 1 : Nat) : Int) := ⟨_, rfl⟩
  rw [← hK] at t1 ⊢
  have t2 : (j : Int) < (ks.length : Int) := by omega
  clear h h3 hK e1
  generalize (ks[j]'(by omega)).2.length = m at *
  generalize ks.length = n at *
  go_enter Tryz.func41, Tryz.ntmps41
  go_wp2_with fail
  go_ret
  exact ⟨rfl, rfl⟩
/-- What is wrong with a part that is to come to a set. -/
def comeS (ks : List Kind) (s : Nat) (k : Int) (m : Nat) : Int :=
  if 1 ≤ k ∧ k ≤ (ks.length : Int) then (if s.testBit k.toNat then 61 else if m = (ks.getD (k.toNat - 1) (ByteArray.empty, [])).2.length then 0 else 63) else 60
set_option maxHeartbeats 2000000 in
theorem maycome_any (h : Wc w gw vk gp gs gt) (hk : Kr w vk ks) (hks : ks.length ≤ 12) (s : Nat) (hs : s < 8192) (x : Int) (av : Option Addr) (nv cv : Nat) : Calls Tryz.prog 51 #[.pointer (some ⟨gw, 0, none⟩), .int .i64 (s : Int), .agg #[.int .i64 x, .slice av nv cv]] w fun e w' => e = .returned (.int .i64 (comeS ks s x nv)) ∧ Below w.heap.size w w' := by
  have J1 : Hid (∀ W, Below w.heap.size w W → Calls Tryz.prog 75 #[.pointer (some ⟨gw, 0, none⟩), .int .i64 x] W fun e w' => e = .returned (.bool (decide (1 ≤ x ∧ x ≤ (ks.length : Int)))) ∧ w' = W) := fun W hW => iskind_any (h.later hW) (hk.later hW) x
  have J3 : Hid (∀ (k : Nat) (hk1 : 1 ≤ k) (hk2 : k ≤ ks.length) W, Below w.heap.size w W → Calls Tryz.prog 41 #[.pointer (some ⟨gw, 0, none⟩), .int .i64 (k : Int)] W fun e w' => e = .returned (.int .i64 ((ks[k - 1]'(by omega)).2.length : Int)) ∧ w' = W) := fun k hk1 hk2 W hW => fields_any (h.later hW) (hk.later hW) k hk1 hk2 hks
  clear h hk
  go_enter Tryz.func51, Tryz.ntmps51
  go_upto_region 1 with fail
  obtain ⟨w1, hw1⟩ : ∃ X, X = w.alloc (.cells #[.int .i64 x, .slice av nv cv] 50) := ⟨_, rfl⟩
  have B1 : Below w.heap.size w w1 := hw1 ▸ below_alloc w _
  have hx1 : w1.heap[w.heap.size]? = some (.cells #[.int .i64 x, .slice av nv cv] 50 (0, 0)) := hw1 ▸ heap_alloc_new w _
  rw [← hw1]
  obtain ⟨kx, hkx⟩ : ∃ k, k = w.heap.size := ⟨_, rfl⟩
  rw [← hkx] at hx1 ⊢
  have p0 : w1.cell? ⟨kx, 0, none⟩ = some (.int .i64 x) := by rw [cell_of_row w1 kx _ _ 50 (0, 0) hx1]; rfl
  have p1 : w1.cell? ⟨kx, 1, none⟩ = some (.slice av nv cv) := by rw [cell_of_row w1 kx _ _ 50 (0, 0) hx1]; rfl
  have HB1 := hide B1
  have J1a := hide (J1.out w1 B1)
  clear hw1 hx1 hkx B1 J1
  by_cases h1 : 1 ≤ x ∧ x ≤ (ks.length : Int)
  · obtain ⟨k, rfl⟩ : ∃ k : Nat, x = (k : Int) := ⟨x.toNat, by omega⟩
    have hk1 : 1 ≤ k := by omega
    have hk2 : k ≤ ks.length := by omega
    rw [decide_eq_true h1] at J1a
    have H1 := hide h1
    clear h1
    have ec : ∀ (m : Nat), (ks[k - 1]'(by omega)).2.length = m → comeS ks s (k : Int) nv = if s.testBit k then 61 else if nv = m then 0 else 63 := fun m hm => by
      unfold comeS
      rw [if_pos H1.out]
      simp only [Int.toNat_natCast]
      have e2 : (ks.getD (k - 1) (ByteArray.empty, [])).2.length = m := by
        rw [List.getD_eq_getElem?_getD, List.getElem?_eq_getElem (by omega)]
        exact hm
      simp only [e2]
    have EC := hide (ec _ rfl)
    clear ec H1
    have J2 := hide (has_any s k w1 hs (by omega))
    have J3a := hide (J3.out k hk1 hk2 w1.drew (below_on HB1.out (below_drew w1)))
    generalize (ks[k - 1]'(by omega)).2.length = m at *
    clear J3
    cases hb : s.testBit k with
    | true =>
      rw [hb] at J2
      simp only [hb, if_true] at EC
      go_wp2_with fail
      refine J1a.out.mono ?_
      rintro e w2 ⟨rfl, rfl⟩
      go_wp2_with fail
      refine J2.out.mono ?_
      rintro e w2 ⟨rfl, rfl⟩
      go_wp2_with fail
      go_ret
      exact ⟨ret_int EC.out.symm, HB1.out⟩
    | false =>
      rw [hb] at J2
      simp only [hb, Bool.false_eq_true, if_false] at EC
      go_wp2_with fail
      refine J1a.out.mono ?_
      rintro e w2 ⟨rfl, rfl⟩
      go_wp2_with fail
      refine J2.out.mono ?_
      rintro e w2 ⟨rfl, rfl⟩
      obtain ⟨w1, rfl⟩ : ∃ X, X = w2 := ⟨_, rfl⟩
      by_cases hm : nv = m
      · subst hm
        simp only [if_true] at EC
        go_upto_region 5 with fail
        go_region_held3 (fun W => W.cell? ⟨kx, 0, none⟩ = some (.int .i64 (k : Int)) ∧ W.cell? ⟨kx, 1, none⟩ = some (.slice av nv cv)) (go_keep) (first | (go_at_call 41; refine J3a.out.mono ?_; rintro e w3 ⟨rfl, rfl⟩))
        go_wp2_with fail
        go_ret
        exact ⟨ret_int EC.out.symm, below_on HB1.out (below_drew _)⟩
      · simp only [if_neg hm] at EC
        have t1 : ((nv : Int) == (m : Int)) = false := by rw [beq_eq_false_iff_ne]; omega
        have t2 : ¬ (nv : Int) = (m : Int) := by omega
        go_upto_region 5 with fail
        go_region_held3 (fun W => W.cell? ⟨kx, 0, none⟩ = some (.int .i64 (k : Int)) ∧ W.cell? ⟨kx, 1, none⟩ = some (.slice av nv cv)) (go_keep) (first | (go_at_call 41; refine J3a.out.mono ?_; rintro e w3 ⟨rfl, rfl⟩))
        go_wp2_with fail
        go_ret
        exact ⟨ret_int EC.out.symm, below_on HB1.out (below_drew _)⟩
  · rw [decide_eq_false h1] at J1a
    have ec : comeS ks s x nv = 60 := by unfold comeS; rw [if_neg h1]
    have EC := hide ec
    clear ec h1 J3
    go_wp2_with fail
    refine J1a.out.mono ?_
    rintro e w2 ⟨rfl, rfl⟩
    go_wp2_with fail
    go_ret
    exact ⟨ret_int EC.out.symm, HB1.out⟩
end
end Go.Proofs.YtiolaenkfhcajaaGreat
