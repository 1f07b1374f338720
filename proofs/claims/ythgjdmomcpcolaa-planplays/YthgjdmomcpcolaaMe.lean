/-
  Plan: meet: have two rising sets a kind in common?
-/
import Derived.Test.YthgjdmomcpcolaaSe
namespace Go.Proofs.Ythgjdmomcpcolaa
open Go.RowKit
/-- Numbers that are read. -/
def Rl (w : World) (v : Value) (l : List Int) : Prop := ∃ ao c, v = .slice ao l.length c ∧ l.length ≤ c ∧ c ≤ 9223372036854775807 ∧ (0 < l.length → ∃ g o, ao = some ⟨g, o, none⟩ ∧ ∀ i (h : i < l.length), w.cell? ⟨g, o + i, none⟩ = some (.int .i64 l[i]))
theorem Rl.of {w : World} {B : Nat} {v : Value} {l : List Int} (h : Rw w B v l) : Rl w v l := by
  obtain ⟨ao, c, rfl⟩ := own_len h
  obtain ⟨h1, h2⟩ := own_cap h
  refine ⟨ao, c, rfl, h1, h2, fun h0 => ?_⟩
  obtain ⟨g, c', e, -⟩ := own_form h h0
  simp only [Value.slice.injEq, true_and] at e
  obtain ⟨rfl, rfl⟩ := e
  exact ⟨g, 0, rfl, fun i hi => by rw [Nat.zero_add]; exact h.at i hi⟩
theorem Rl.later {w w' : World} {v : Value} {l : List Int} (h : Rl w v l) (hb : Below w.heap.size w w') : Rl w' v l := by
  obtain ⟨ao, c, h1, h2, h3, h4⟩ := h
  refine ⟨ao, c, h1, h2, h3, fun h0 => ?_⟩
  obtain ⟨g, o, rfl, h5⟩ := h4 h0
  exact ⟨g, o, rfl, fun i hi => (World.cell?_of_block (hb.block g (World.block_lt_of_cell? w _ (h5 i hi)))).trans (h5 i hi)⟩
def slen : Value → Nat
  | .slice _ n _ => n
  | _ => 0
theorem meets_nil (b : List Int) : meets [] b = false := rfl
theorem meets_nil' (a : List Int) : meets a [] = false := by
  rw [Bool.eq_false_iff]
  intro h
  obtain ⟨x, _, h⟩ := meets_iff.1 h
  cases h
theorem meets_lt {x y : Int} {a b : List Int} (h : x < y) (hb : (y :: b).Pairwise (· < ·)) : meets (x :: a) (y :: b) = meets a (y :: b) := by
  rw [Bool.eq_iff_iff, meets_iff, meets_iff]
  constructor
  · rintro ⟨z, h1, h2⟩
    rcases List.mem_cons.1 h1 with rfl | h1
    · rcases List.mem_cons.1 h2 with rfl | h2
      · omega
      · have := (List.pairwise_cons.1 hb).1 z h2
        omega
    · exact ⟨z, h1, h2⟩
  · rintro ⟨z, h1, h2⟩
    exact ⟨z, List.mem_cons_of_mem _ h1, h2⟩
theorem meets_symm (a b : List Int) : meets a b = meets b a := by
  rw [Bool.eq_iff_iff, meets_iff, meets_iff]
  exact ⟨fun ⟨x, h1, h2⟩ => ⟨x, h2, h1⟩, fun ⟨x, h1, h2⟩ => ⟨x, h2, h1⟩⟩
theorem meets_gt {x y : Int} {a b : List Int} (h : y < x) (ha : (x :: a).Pairwise (· < ·)) : meets (x :: a) (y :: b) = meets (x :: a) b := by
  rw [meets_symm, meets_lt h ha, meets_symm]
theorem Rl.tail {w : World} {ao : Option Addr} {n c : Nat} {x : Int} {l : List Int} (h : Rl w (.slice ao n c) (x :: l)) : ∃ g o, ao = some ⟨g, o, none⟩ ∧ n = l.length + 1 ∧ l.length + 1 ≤ c ∧ c ≤ 9223372036854775807 ∧ w.cell? ⟨g, o, none⟩ = some (.int .i64 x) ∧ (∀ ao' : Option Addr, (l.length ≠ 0 → ao' = some ⟨g, o + 1, none⟩) → Rl w (.slice ao' l.length (c - 1)) l) := by
  obtain ⟨ao1, c1, e, h2, h3, h4⟩ := h
  simp only [Value.slice.injEq, List.length_cons] at e h2 h4
  obtain ⟨rfl, rfl, rfl⟩ := e
  obtain ⟨g, o, rfl, h5⟩ := h4 (by omega)
  refine ⟨g, o, rfl, rfl, h2, h3, h5 0 (by simp), fun ao' ha => ⟨ao', c - 1, rfl, by omega, by omega, fun h0 => ⟨g, o + 1, ha (by omega), fun i hi => ?_⟩⟩⟩
  have := h5 (i + 1) (by omega)
  rw [show o + 1 + i = o + (i + 1) by omega, this]
  simp
set_option maxHeartbeats 4000000 in
theorem meet_any {w : World} {va vb : Value} {a b : List Int} (ha : Rl w va a) (hb : Rl w vb b) (pa : a.Pairwise (· < ·)) (pb : b.Pairwise (· < ·)) :
    Calls Try.prog 38 #[va, vb] w fun e w' => e = .returned (.bool (meets a b)) ∧ Below w.heap.size w w' := by
  have H0 : Hid (∃ la lb, Rl w va la ∧ Rl w vb lb ∧ la.Pairwise (· < ·) ∧ lb.Pairwise (· < ·) ∧ meets la lb = meets a b) := ⟨a, b, ha, hb, pa, pb, rfl⟩
  clear ha hb pa pb
  go_enter Try.func38, Try.ntmps38
  go_wp2_with fail
  go_loopw [0, 1] (fun v0 v1 W => Hid ((∃ la lb, Rl W v0 la ∧ Rl W v1 lb ∧ la.Pairwise (· < ·) ∧ lb.Pairwise (· < ·) ∧ meets la lb = meets a b) ∧ Below w.heap.size w W)) (fun v0 v1 _ => slen v0 + slen v1)
  case atStart => exact ⟨H0.out, Below.refl _ _⟩
  case round =>
    obtain ⟨⟨la, lb, ra, rb, pa, pb, hm⟩, hB⟩ := hrel
    clear H0
    have HB := hide hB
    have HM := hide hm
    have PA := hide pa
    have PB := hide pb
    clear hB hm pa pb
    cases la with
    | nil =>
      obtain ⟨aa, ca, rfl, -⟩ := ra
      obtain ⟨ab, cb, rfl, -⟩ := rb
      go_wp2_with fail
      go_ret
      rw [← HM.out]
      exact ⟨rfl, HB.out⟩
    | cons x ta =>
      cases lb with
      | nil =>
        obtain ⟨aa, ca, rfl, -⟩ := ra
        obtain ⟨ab, cb, rfl, -⟩ := rb
        have t1 : ((x :: ta).length : Int) > 0 := by simp
        generalize hn : (x :: ta).length = n at *
        go_wp2_with fail
        go_ret
        rw [← HM.out, meets_nil']
        exact ⟨rfl, HB.out⟩
      | cons y tb =>
        have RA := hide ra
        have RB := hide rb
        obtain ⟨aa, ca, rfl, -⟩ := ra
        obtain ⟨ab, cb, rfl, -⟩ := rb
        simp only [List.length_cons] at RA RB
        obtain ⟨ga, oa, rfl, -, a1, a2, a3, a4⟩ := RA.out.tail
        obtain ⟨gb, ob, rfl, -, b1, b2, b3, b4⟩ := RB.out.tail
        have A4 := hide a4
        have B4 := hide b4
        clear a4 b4
        simp only [List.length_cons]
        have t1 : (ta.length : Int) + 1 > 0 := by omega
        have t2 : (tb.length : Int) + 1 > 0 := by omega
        by_cases c1 : x < y
        · go_wp2_with fail
          go_quiet (fail)
          go_wp2_with fail
          have hbd := below_drawn wr nq
          refine ⟨⟨⟨ta, y :: tb, (A4.out _ (fun h0 => ?_)).later hbd, by simpa using RB.out.later hbd, (List.pairwise_cons.1 PA.out).2, PB.out, ?_⟩, below_on HB.out hbd⟩, by simp only [slen]; omega⟩
          · rw [if_neg (by omega)]
          · rw [← meets_lt c1 PB.out]
            exact HM.out
        · by_cases c2 : x > y
          · go_wp2_with fail
            go_quiet (fail)
            go_wp2_with fail
            go_quiet (fail)
            have hbd : Hid (∀ k, Below wr.heap.size wr (wr.drewN k)) := below_drawn wr
            go_wp2_with fail
            refine ⟨⟨⟨x :: ta, tb, by simpa using RA.out.later (hbd.out _), (B4.out _ (fun h0 => ?_)).later (hbd.out _), PA.out, (List.pairwise_cons.1 PB.out).2, ?_⟩, below_on HB.out (hbd.out _)⟩, by simp only [slen]; omega⟩
            · rw [if_neg (by omega)]
            · rw [← meets_gt c2 PA.out]
              exact HM.out
          · have e : x = y := by omega
            subst e
            go_wp2_with fail
            go_quiet (fail)
            go_wp2_with fail
            go_quiet (fail)
            have hbd : Hid (∀ k, Below wr.heap.size wr (wr.drewN k)) := below_drawn wr
            go_wp2_with fail
            go_ret
            refine ⟨?_, below_on (below_on HB.out (hbd.out _)) (below_drawn _ _)⟩
            rw [← HM.out, meets_iff.2 ⟨x, by simp, by simp⟩]
            rfl
end Go.Proofs.Ythgjdmomcpcolaa
