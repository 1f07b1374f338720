import Derived.Test.YtafmiolehlagkaaGreatOd04
import Derived.Test.YtafmiolehlagkaaGreatOd05
/-
  World: an entity comes.
-/
namespace Go.Proofs.YtafmiolehlagkaaGreat
open Go.RowKit
set_option maxRecDepth 100000
/-- What is wrong with parts that are to come, one behind the other. -/
def comeL (ks : List Kind) : Nat → List Pt → Int
  | _, [] => 0
  | s, p :: t => if comeS ks s p.1 p.2.2.1 = 0 then comeL ks (s ||| 2 ^ p.1.toNat) t else comeS ks s p.1 p.2.2.1
theorem comeL_at (ks : List Kind) (l : List Pt) (i : Nat) (hi : i < l.length) (s : Nat) : comeL ks s (l.drop i) = if comeS ks s l[i].1 l[i].2.2.1 = 0 then comeL ks (s ||| 2 ^ l[i].1.toNat) (l.drop (i + 1)) else comeS ks s l[i].1 l[i].2.2.1 := by
  rw [List.drop_eq_getElem_cons hi]
  rfl
theorem comeS_zero {ks : List Kind} {s : Nat} {x : Int} {n : Nat} (h : comeS ks s x n = 0) : 1 ≤ x ∧ x ≤ (ks.length : Int) ∧ s.testBit x.toNat = false ∧ n = (ks.getD (x.toNat - 1) (ByteArray.empty, [])).2.length := by
  unfold comeS at h
  split at h
  · rename_i h1
    split at h
    · cases h
    · rename_i h2
      split at h
      · rename_i h3
        exact ⟨h1.1, h1.2, by simpa using h2, h3⟩
      · cases h
  · cases h
theorem part_cells {w w0 : World} {g o i : Nat} {l : List Pt} (h : ∀ j u, (pz l)[j]? = some u → w0.cell? ⟨g, o + j, none⟩ = some u) (hb : Below w0.heap.size w0 w) (hi : i < l.length) : w.cell? ⟨g, o + i * 2, none⟩ = some (.int .i64 l[i].1) ∧ w.cell? ⟨g, o + i * 2 + 1, none⟩ = some (ptV l[i]) := by
  obtain ⟨e1, e2⟩ := pz_at l i hi
  have a1 := h _ _ e1
  have a2 := h _ _ e2
  exact ⟨(hb.cell (p := ⟨g, o + i * 2, none⟩) (World.block_lt_of_cell? _ _ a1)).trans a1, (hb.cell (p := ⟨g, o + i * 2 + 1, none⟩) (World.block_lt_of_cell? _ _ a2)).trans a2⟩
theorem below_set {w W : World} {kr i : Nat} {u : Value} (h : Below w.heap.size w W) (hk : w.heap.size ≤ kr) : Below w.heap.size w (W.setCell ⟨kr, i, none⟩ u) := h.grown (grown_set W kr i u) h.size (fun k e => by cases e; exact hk)
theorem Rp.frame {w w' : World} {v : Value} {l : List Pt} {S : Nat → Prop} (h : Rp w v l) (hm : Mv w w' S) (hs : ∀ k, v.ownBlock = some k → ¬ S k) : Rp w' v l := by
  rcases h with h | ⟨g, o, c, rfl, h1, h2, h3⟩
  · exact .inl h
  · exact .inr ⟨g, o, c, rfl, h1, h2, fun j u hj => hm.cell (h3 j u hj) (hs g rfl)⟩
section
variable {w w' : World} {own : Nat → Nat} {gw gp gm gt M M' : Nat} {vk : Value} {ks : List Kind} {gs fr gs' fr' : List Nat} {f f' : Int × Int → Option Nat} {q q' : Nat → Option Nat} {T T' : Nat → Ts}
set_option maxHeartbeats 4000000 in
theorem spawn_bad (h : Wx 0 w own gw vk gp gm gt M ks gs fr f q T) (v : Value) (l : List Pt) (hv : Rp w v l) (hks : ks.length ≤ 12) (hcome : comeL ks 0 l ≠ 0) :
    Calls Tryz.prog 24 #[.pointer (some ⟨gw, 0, none⟩), v] w fun e w' => e = .returned (.tuple #[.agg #[.int .i64 0, .int .i64 0], .int .i64 (comeL ks 0 l)]) ∧ Below w.heap.size w w' := by
  obtain ⟨ao, c, rfl⟩ : ∃ ao c, v = .slice ao l.length c := by
    rcases hv with ⟨rfl, rfl⟩ | ⟨g, o, c, rfl, -⟩
    · exact ⟨_, _, rfl⟩
    · exact ⟨_, _, rfl⟩
  have H := hide h
  have RP := hide hv
  have HC := hide hcome
  have HKS := hide hks
  clear h hv hcome hks
  obtain ⟨w0, hw0⟩ : ∃ X, X = w.alloc (.cells #[.int .i64 0, .int .i64 0] 29) := ⟨_, rfl⟩
  have B0 : Hid (Below w.heap.size w w0) := hw0 ▸ below_alloc w _
  have hx0 : w0.heap[w.heap.size]? = some (.cells #[.int .i64 0, .int .i64 0] 29 (0, 0)) := hw0 ▸ heap_alloc_new w _
  go_enter Tryz.func24, Tryz.ntmps24
  go_wp2_with fail
  rw [← hw0]
  obtain ⟨kr, hkr⟩ : ∃ k, k = w.heap.size := ⟨_, rfl⟩
  rw [← hkr] at hx0 ⊢
  have HX0 : Hid (w0.heap[kr]? = some (.cells #[.int .i64 0, .int .i64 0] 29 (0, 0)) ∧ w.heap.size ≤ kr) := ⟨hx0, by omega⟩
  clear hw0 hx0 hkr
  go_loopw [6, 14] (fun v6 v14 W => ∃ i : Nat, i ≤ l.length ∧ v14 = .int .i64 (i : Int) ∧ v6 = .int .i64 ((setOf (l.take i) : Nat) : Int) ∧ Hid (comeL ks 0 l = comeL ks (setOf (l.take i)) (l.drop i)) ∧ Hid (∀ p ∈ l.take i, 1 ≤ p.1 ∧ p.1 ≤ 12) ∧ Hid (Below w0.heap.size w0 W)) (fun _ v14 _ => l.length - (intOf v14).toNat)
  case atStart => exact ⟨0, Nat.zero_le _, rfl, rfl, rfl, fun p hp => by simp at hp, Below.refl _ _⟩
  case round =>
    obtain ⟨i, hil, rfl, rfl, HE, HK, HB⟩ := hrel
    by_cases hlt : i < l.length
    · have t1 : (i : Int) < (l.length : Int) := by omega
      have hW := below_on B0.out HB.out
      obtain ⟨g, o, rfl, hcap, hbig, e1, e2⟩ : ∃ g o, ao = some ⟨g, o, none⟩ ∧ l.length ≤ c ∧ c ≤ 9223372036854775807 ∧ wr.cell? ⟨g, o + i * 2, none⟩ = some (.int .i64 l[i].1) ∧ wr.cell? ⟨g, o + i * 2 + 1, none⟩ = some (ptV l[i]) := by
        rcases RP.out with ⟨-, rfl⟩ | ⟨g, o, c', e, h1, h2, h3⟩
        · exact absurd hlt (by simp)
        · simp only [Value.slice.injEq] at e
          obtain ⟨rfl, -, rfl⟩ := e
          exact ⟨g, o, rfl, h1, by unfold maxLen at h2; omega, part_cells h3 hW hlt⟩
      have hs1 := hide (set_push l i hlt)
      have hsl : setOf (l.take i) < 8192 := setOf_lt _ HK.out
      have hcl := comeL_at ks l i hlt (setOf (l.take i))
      rw [← HE.out] at hcl
      have HM1 : Hid (∀ p ∈ l.take (i + 1), p ∈ l.take i ∨ p = l[i]) := fun p hp => by
        rw [List.take_succ_eq_append_getElem hlt] at hp
        simp only [List.mem_append, List.mem_singleton] at hp
        exact hp
      generalize setOf (l.take i) = S at *
      generalize l[i] = p at *
      obtain ⟨x, av, nv, cv⟩ := p
      unfold ptV at e2
      dsimp only at e1 e2 hcl hs1
      have JM : Hid (∀ W, Below w0.heap.size w0 W → Calls Tryz.prog 74 #[.pointer (some ⟨gw, 0, none⟩), .int .i64 (S : Int), .agg #[.int .i64 x, .slice av nv cv]] W fun e w' => e = .returned (.int .i64 (comeS ks S x nv)) ∧ Below W.heap.size W w') := fun W hW => by
        have hx := H.out.later (below_on B0.out hW)
        exact maycome_any hx.2.2.1 hx.2.2.2.1.kr HKS.out S hsl x av nv cv
      have JM1 := hide (JM.out (wr.alloc (.cells #[.int .i64 x, .slice av nv cv] 32)) (below_on HB.out (below_alloc wr _)))
      have HCL := hide hcl
      clear JM hcl hW HE
      by_cases hz : comeS ks S x nv = 0
      · have hzz := comeS_zero hz
        rw [hz] at JM1
        have hcl2 := HCL.out
        rw [if_pos hz] at hcl2
        have HCL2 := hide hcl2
        obtain ⟨k, rfl⟩ : ∃ k : Nat, x = (k : Int) := ⟨x.toNat, by omega⟩
        have hk1 : 1 ≤ k ∧ k ≤ 12 := by have := HKS.out; omega
        have HOR := hide (or_set S k hsl hk1.2)
        have t2 : ¬ (k : Int) < 0 := by omega
        rw [Int.toNat_natCast] at hs1 HCL2
        clear hz hzz hcl2 HCL
        go_wp2_with fail
        refine JM1.out.mono ?_
        rintro e w5 ⟨rfl, hb5⟩
        have HB5 := hide (below_on (below_on HB.out (below_alloc wr _)) hb5)
        have p0 : w5.cell? ⟨wr.heap.size, 0, none⟩ = some (.int .i64 (k : Int)) := by
          rw [hb5.cell (p := ⟨wr.heap.size, 0, none⟩) (by simp)]
          rw [cell_of_row _ wr.heap.size _ _ 32 (0, 0) (heap_alloc_new wr _)]
          rfl
        clear hb5 JM1
        go_wp2_with fail
        go_roundw
        case rel =>
          refine ⟨i + 1, by omega, by go_num, by rw [hs1.out]; exact val_int HOR.out, ?_, ?_, HB5⟩
          · rw [hs1.out]
            exact HCL2
          · intro p hp
            rcases HM1.out p hp with hp | rfl
            · exact HK.out p hp
            · dsimp only
              omega
        case measure => simp [intOf]; omega
      · have hcl2 := HCL.out
        rw [if_neg hz] at hcl2
        have HCL2 := hide hcl2
        generalize comeS ks S x nv = z at *
        have hz1 : (z == 0) = false := by rw [beq_eq_false_iff_ne]; exact hz
        clear HCL hcl2
        go_wp2_with fail
        refine JM1.out.mono ?_
        rintro e w5 ⟨rfl, hb5⟩
        have HB5 := hide (below_on (below_on HB.out (below_alloc wr _)) hb5)
        have hx5 : w5.heap[kr]? = some (.cells #[.int .i64 0, .int .i64 0] 29 (0, 0)) := (HB5.out.block kr (lt_of_block HX0.out.1)).trans HX0.out.1
        have fz := frozen_of_row w5 kr 0 _ 29 hx5
        have fz1 := frozen_of_row w5 kr 1 _ 29 hx5
        obtain ⟨z0, z1⟩ := kx_cells hx5 (Below.refl _ w5)
        have hz2 : (z != 0) = true := by rw [bne_iff_ne]; exact hz
        clear hb5 JM1
        go_wp2_with fail
        (try simp only [Exit.inBlock, Exit.then])
        have hb7 : Below w.heap.size w ((w5.setCell ⟨kr, 0, none⟩ (.int .i64 0)).setCell ⟨kr, 1, none⟩ (.int .i64 0)) := below_set (below_set (below_on B0.out HB5.out) HX0.out.2) HX0.out.2
        have HB7 := hide hb7
        have hx7 : w5.heap[kr]? = some (.cells #[.int .i64 0, .int .i64 0] 29 (0, 0)) := hx5
        refine bodyPost_ret (v := .tuple #[.agg #[.int .i64 0, .int .i64 0], .int .i64 z]) ?_ rfl ⟨by rw [HCL2.out], HB7.out⟩
        rw [results_cell_tmp rfl]
        go_simp
    · obtain rfl : i = l.length := by omega
      have := HE.out
      rw [List.drop_length] at this
      exact absurd this HC.out
set_option maxHeartbeats 4000000 in
theorem spawn_full (h : Wx 0 w own gw vk gp gm gt M ks gs fr f q T) (v : Value) (l : List Pt) (hv : Rp w v l) (hks : ks.length ≤ 12) (hcome : comeL ks 0 l = 0) (hfr : fr = []) (hgs : gs.length = 200) :
    Calls Tryz.prog 24 #[.pointer (some ⟨gw, 0, none⟩), v] w fun e w' => e = .returned (.tuple #[.agg #[.int .i64 0, .int .i64 0], .int .i64 40]) ∧ Below w.heap.size w w' := by
  obtain ⟨ao, c, rfl⟩ : ∃ ao c, v = .slice ao l.length c := by
    rcases hv with ⟨rfl, rfl⟩ | ⟨g, o, c, rfl, -⟩
    · exact ⟨_, _, rfl⟩
    · exact ⟨_, _, rfl⟩
  have H := hide h
  have RP := hide hv
  have HC := hide hcome
  have HKS := hide hks
  clear h hv hcome hks
  obtain ⟨w0, hw0⟩ : ∃ X, X = w.alloc (.cells #[.int .i64 0, .int .i64 0] 29) := ⟨_, rfl⟩
  have B0 : Hid (Below w.heap.size w w0) := hw0 ▸ below_alloc w _
  have hx0 : w0.heap[w.heap.size]? = some (.cells #[.int .i64 0, .int .i64 0] 29 (0, 0)) := hw0 ▸ heap_alloc_new w _
  go_enter Tryz.func24, Tryz.ntmps24
  go_wp2_with fail
  rw [← hw0]
  obtain ⟨kr, hkr⟩ : ∃ k, k = w.heap.size := ⟨_, rfl⟩
  rw [← hkr] at hx0 ⊢
  have HX0 : Hid (w0.heap[kr]? = some (.cells #[.int .i64 0, .int .i64 0] 29 (0, 0)) ∧ w.heap.size ≤ kr) := ⟨hx0, by omega⟩
  clear hw0 hx0 hkr
  go_loopw [6, 14] (fun v6 v14 W => ∃ i : Nat, i ≤ l.length ∧ v14 = .int .i64 (i : Int) ∧ v6 = .int .i64 ((setOf (l.take i) : Nat) : Int) ∧ Hid (comeL ks 0 l = comeL ks (setOf (l.take i)) (l.drop i)) ∧ Hid (∀ p ∈ l.take i, 1 ≤ p.1 ∧ p.1 ≤ 12) ∧ Hid (Below w0.heap.size w0 W)) (fun _ v14 _ => l.length - (intOf v14).toNat)
  case atStart => exact ⟨0, Nat.zero_le _, rfl, rfl, rfl, fun p hp => by simp at hp, Below.refl _ _⟩
  case round =>
    obtain ⟨i, hil, rfl, rfl, HE, HK, HB⟩ := hrel
    by_cases hlt : i < l.length
    · have t1 : (i : Int) < (l.length : Int) := by omega
      have hW := below_on B0.out HB.out
      obtain ⟨g, o, rfl, hcap, hbig, e1, e2⟩ : ∃ g o, ao = some ⟨g, o, none⟩ ∧ l.length ≤ c ∧ c ≤ 9223372036854775807 ∧ wr.cell? ⟨g, o + i * 2, none⟩ = some (.int .i64 l[i].1) ∧ wr.cell? ⟨g, o + i * 2 + 1, none⟩ = some (ptV l[i]) := by
        rcases RP.out with ⟨-, rfl⟩ | ⟨g, o, c', e, h1, h2, h3⟩
        · exact absurd hlt (by simp)
        · simp only [Value.slice.injEq] at e
          obtain ⟨rfl, -, rfl⟩ := e
          exact ⟨g, o, rfl, h1, by unfold maxLen at h2; omega, part_cells h3 hW hlt⟩
      have hs1 := hide (set_push l i hlt)
      have hsl : setOf (l.take i) < 8192 := setOf_lt _ HK.out
      have hcl := comeL_at ks l i hlt (setOf (l.take i))
      rw [← HE.out] at hcl
      have HM1 : Hid (∀ p ∈ l.take (i + 1), p ∈ l.take i ∨ p = l[i]) := fun p hp => by
        rw [List.take_succ_eq_append_getElem hlt] at hp
        simp only [List.mem_append, List.mem_singleton] at hp
        exact hp
      generalize setOf (l.take i) = S at *
      generalize l[i] = p at *
      obtain ⟨x, av, nv, cv⟩ := p
      unfold ptV at e2
      dsimp only at e1 e2 hcl hs1
      have JM : Hid (∀ W, Below w0.heap.size w0 W → Calls Tryz.prog 74 #[.pointer (some ⟨gw, 0, none⟩), .int .i64 (S : Int), .agg #[.int .i64 x, .slice av nv cv]] W fun e w' => e = .returned (.int .i64 (comeS ks S x nv)) ∧ Below W.heap.size W w') := fun W hW => by
        have hx := H.out.later (below_on B0.out hW)
        exact maycome_any hx.2.2.1 hx.2.2.2.1.kr HKS.out S hsl x av nv cv
      have JM1 := hide (JM.out (wr.alloc (.cells #[.int .i64 x, .slice av nv cv] 32)) (below_on HB.out (below_alloc wr _)))
      have HCL := hide hcl
      clear JM hcl hW HE
      by_cases hz : comeS ks S x nv = 0
      · have hzz := comeS_zero hz
        rw [hz] at JM1
        have hcl2 := HCL.out
        rw [if_pos hz] at hcl2
        have HCL2 := hide hcl2
        obtain ⟨k, rfl⟩ : ∃ k : Nat, x = (k : Int) := ⟨x.toNat, by omega⟩
        have hk1 : 1 ≤ k ∧ k ≤ 12 := by have := HKS.out; omega
        have HOR := hide (or_set S k hsl hk1.2)
        have t2 : ¬ (k : Int) < 0 := by omega
        rw [Int.toNat_natCast] at hs1 HCL2
        clear hz hzz hcl2 HCL
        go_wp2_with fail
        refine JM1.out.mono ?_
        rintro e w5 ⟨rfl, hb5⟩
        have HB5 := hide (below_on (below_on HB.out (below_alloc wr _)) hb5)
        have p0 : w5.cell? ⟨wr.heap.size, 0, none⟩ = some (.int .i64 (k : Int)) := by
          rw [hb5.cell (p := ⟨wr.heap.size, 0, none⟩) (by simp)]
          rw [cell_of_row _ wr.heap.size _ _ 32 (0, 0) (heap_alloc_new wr _)]
          rfl
        clear hb5 JM1
        go_wp2_with fail
        go_roundw
        case rel =>
          refine ⟨i + 1, by omega, by go_num, by rw [hs1.out]; exact val_int HOR.out, ?_, ?_, HB5⟩
          · rw [hs1.out]
            exact HCL2
          · intro p hp
            rcases HM1.out p hp with hp | rfl
            · exact HK.out p hp
            · dsimp only
              omega
        case measure => simp [intOf]; omega
      · exact absurd (HCL.out.symm.trans HC.out) (by rw [if_neg hz]; exact hz)
    · obtain rfl : i = l.length := by omega
      have h4 := H.out.later (below_on B0.out HB.out)
      obtain ⟨-, c1, -, -⟩ := h4.cells
      have JT : Hid (Calls Tryz.prog 75 #[.pointer (some ⟨gp, 0, none⟩)] wr fun e w' => e = .returned (.tuple #[.agg #[.int .i64 0, .int .i64 0], .int .i64 40]) ∧ Below wr.heap.size wr w') := by
        have hp := h4.pl
        rw [hfr, ← hgs] at hp
        exact take_full hp
      have t1 : ¬ (l.length : Int) < (l.length : Int) := by omega
      clear h4 hfr hgs HE HK
      go_wp2_with fail
      refine JT.out.mono ?_
      rintro e w5 ⟨rfl, hb5⟩
      have HB5 := hide (below_on HB.out hb5)
      have HB6 := hide (below_on HB5.out (below_alloc w5 (.cells #[.int .i64 0, .int .i64 0] 29)))
      have hx5 : (w5.alloc (.cells #[.int .i64 0, .int .i64 0] 29)).heap[kr]? = some (.cells #[.int .i64 0, .int .i64 0] 29 (0, 0)) := (HB6.out.block kr (lt_of_block HX0.out.1)).trans HX0.out.1
      have fz := frozen_of_row _ kr 0 _ 29 hx5
      have fz1 := frozen_of_row _ kr 1 _ 29 hx5
      obtain ⟨z0, z1⟩ := kx_cells hx5 (Below.refl _ _)
      clear hb5 JT c1
      go_wp2_with fail
      (try simp only [Exit.inBlock, Exit.then])
      have hb7 : Below w.heap.size w (((w5.alloc (.cells #[.int .i64 0, .int .i64 0] 29)).setCell ⟨kr, 0, none⟩ (.int .i64 0)).setCell ⟨kr, 1, none⟩ (.int .i64 0)) := below_set (below_set (below_on B0.out HB6.out) HX0.out.2) HX0.out.2
      have HB7 := hide hb7
      clear hb7
      refine bodyPost_ret (v := .tuple #[.agg #[.int .i64 0, .int .i64 0], .int .i64 40]) ?_ rfl ⟨rfl, HB7.out⟩
      rw [results_cell_tmp rfl]
      go_simp
set_option maxHeartbeats 8000000 in
theorem spawn_of (h : Wx 0 w own gw vk gp gm gt M ks gs fr f q T) (v : Value) (l : List Pt) (hv : Rp w v l) (hks : ks.length ≤ 12) (hcome : comeL ks 0 l = 0) (V : Pt → List Int) (hv0 : ∀ k, v.ownBlock = some k → own k = 0 ∧ k < w.heap.size) (h12 : l.length ≤ 12) (hV : ∀ p ∈ l, Iz w (ptV p) (V p) ∧ (p.2.1 = none → p.2.2 = (0, 0))) (hV0 : ∀ p ∈ l, ∀ k, (ptV p).ownBlock = some k → own k = 0 ∧ k < w.heap.size) (h48 : (l.flatMap V).length ≤ 48) (hM : M ≤ 900000)
    (a b : Int) (hib : InB (a, b)) (hqs : ∀ g, q (setOf l) = some g → (a, b) ∉ (T (setOf l)).1 ∧ (T (setOf l)).1.length < 200 ∧ (l.flatMap V).length = (T (setOf l)).2.length)
    (hT : ∀ (W : World) (S : Nat → Prop), Pl W S gp 200 gs fr → Calls Tryz.prog 75 #[.pointer (some ⟨gp, 0, none⟩)] W fun e w' => e = .returned (.tuple #[.agg #[.int .i64 a, .int .i64 b], .int .i64 0]) ∧ Pl w' (Nw W S) gp 200 gs' fr' ∧ Mv W w' S) :
    Calls Tryz.prog 24 #[.pointer (some ⟨gw, 0, none⟩), v] w fun e w' => e = .returned (.tuple #[.agg #[.int .i64 a, .int .i64 b], .int .i64 0]) ∧ ∃ (l' : List Pt) (g : Nat) (own' : Nat → Nat), l'.Perm l ∧ l'.Pairwise (fun x y => x.1 ≤ y.1) ∧ Wx 0 w' own' gw vk gp gm gt (M + 3) ks gs' fr' (fun x => if x = (a, b) then some (setOf l) else f x) (fun x => if x = setOf l then some g else q x) (moreT q T (setOf l) (a, b) (l'.flatMap V)) ∧ Wk own own' w w' := by
  have HH := hide (And.intro hv0 (And.intro h12 (And.intro hV (And.intro hV0 (And.intro h48 hqs)))))
  have HT := hide hT
  clear hv0 h12 hV hV0 h48 hqs hT
  obtain ⟨ao, c, rfl⟩ : ∃ ao c, v = .slice ao l.length c := by
    rcases hv with ⟨rfl, rfl⟩ | ⟨g, o, c, rfl, -⟩
    · exact ⟨_, _, rfl⟩
    · exact ⟨_, _, rfl⟩
  have H := hide h
  have RP := hide hv
  have HC := hide hcome
  have HKS := hide hks
  clear h hv hcome hks
  obtain ⟨w0, hw0⟩ : ∃ X, X = w.alloc (.cells #[.int .i64 0, .int .i64 0] 29) := ⟨_, rfl⟩
  have B0 : Hid (Below w.heap.size w w0) := hw0 ▸ below_alloc w _
  have hx0 : w0.heap[w.heap.size]? = some (.cells #[.int .i64 0, .int .i64 0] 29 (0, 0)) := hw0 ▸ heap_alloc_new w _
  go_enter Tryz.func24, Tryz.ntmps24
  go_wp2_with fail
  rw [← hw0]
  obtain ⟨kr, hkr⟩ : ∃ k, k = w.heap.size := ⟨_, rfl⟩
  rw [← hkr] at hx0 ⊢
  have HX0 : Hid (w0.heap[kr]? = some (.cells #[.int .i64 0, .int .i64 0] 29 (0, 0)) ∧ w.heap.size ≤ kr) := ⟨hx0, by omega⟩
  clear hw0 hx0 hkr
  go_loopw [6, 14] (fun v6 v14 W => ∃ i : Nat, i ≤ l.length ∧ v14 = .int .i64 (i : Int) ∧ v6 = .int .i64 ((setOf (l.take i) : Nat) : Int) ∧ Hid (comeL ks 0 l = comeL ks (setOf (l.take i)) (l.drop i)) ∧ Hid (∀ p ∈ l.take i, 1 ≤ p.1 ∧ p.1 ≤ 12) ∧ Hid (Below w0.heap.size w0 W)) (fun _ v14 _ => l.length - (intOf v14).toNat)
  case atStart => exact ⟨0, Nat.zero_le _, rfl, rfl, rfl, fun p hp => by simp at hp, Below.refl _ _⟩
  case round =>
    obtain ⟨i, hil, rfl, rfl, HE, HK, HB⟩ := hrel
    by_cases hlt : i < l.length
    · have t1 : (i : Int) < (l.length : Int) := by omega
      have hW := below_on B0.out HB.out
      obtain ⟨g, o, rfl, hcap, hbig, e1, e2⟩ : ∃ g o, ao = some ⟨g, o, none⟩ ∧ l.length ≤ c ∧ c ≤ 9223372036854775807 ∧ wr.cell? ⟨g, o + i * 2, none⟩ = some (.int .i64 l[i].1) ∧ wr.cell? ⟨g, o + i * 2 + 1, none⟩ = some (ptV l[i]) := by
        rcases RP.out with ⟨-, rfl⟩ | ⟨g, o, c', e, h1, h2, h3⟩
        · exact absurd hlt (by simp)
        · simp only [Value.slice.injEq] at e
          obtain ⟨rfl, -, rfl⟩ := e
          exact ⟨g, o, rfl, h1, by unfold maxLen at h2; omega, part_cells h3 hW hlt⟩
      have hs1 := hide (set_push l i hlt)
      have hsl : setOf (l.take i) < 8192 := setOf_lt _ HK.out
      have hcl := comeL_at ks l i hlt (setOf (l.take i))
      rw [← HE.out] at hcl
      have HM1 : Hid (∀ p ∈ l.take (i + 1), p ∈ l.take i ∨ p = l[i]) := fun p hp => by
        rw [List.take_succ_eq_append_getElem hlt] at hp
        simp only [List.mem_append, List.mem_singleton] at hp
        exact hp
      generalize setOf (l.take i) = S at *
      generalize l[i] = p at *
      obtain ⟨x, av, nv, cv⟩ := p
      unfold ptV at e2
      dsimp only at e1 e2 hcl hs1
      have JM : Hid (∀ W, Below w0.heap.size w0 W → Calls Tryz.prog 74 #[.pointer (some ⟨gw, 0, none⟩), .int .i64 (S : Int), .agg #[.int .i64 x, .slice av nv cv]] W fun e w' => e = .returned (.int .i64 (comeS ks S x nv)) ∧ Below W.heap.size W w') := fun W hW => by
        have hx := H.out.later (below_on B0.out hW)
        exact maycome_any hx.2.2.1 hx.2.2.2.1.kr HKS.out S hsl x av nv cv
      have JM1 := hide (JM.out (wr.alloc (.cells #[.int .i64 x, .slice av nv cv] 32)) (below_on HB.out (below_alloc wr _)))
      have HCL := hide hcl
      clear JM hcl hW HE
      by_cases hz : comeS ks S x nv = 0
      · have hzz := comeS_zero hz
        rw [hz] at JM1
        have hcl2 := HCL.out
        rw [if_pos hz] at hcl2
        have HCL2 := hide hcl2
        obtain ⟨k, rfl⟩ : ∃ k : Nat, x = (k : Int) := ⟨x.toNat, by omega⟩
        have hk1 : 1 ≤ k ∧ k ≤ 12 := by have := HKS.out; omega
        have HOR := hide (or_set S k hsl hk1.2)
        have t2 : ¬ (k : Int) < 0 := by omega
        rw [Int.toNat_natCast] at hs1 HCL2
        clear hz hzz hcl2 HCL
        go_wp2_with fail
        refine JM1.out.mono ?_
        rintro e w5 ⟨rfl, hb5⟩
        have HB5 := hide (below_on (below_on HB.out (below_alloc wr _)) hb5)
        have p0 : w5.cell? ⟨wr.heap.size, 0, none⟩ = some (.int .i64 (k : Int)) := by
          rw [hb5.cell (p := ⟨wr.heap.size, 0, none⟩) (by simp)]
          rw [cell_of_row _ wr.heap.size _ _ 32 (0, 0) (heap_alloc_new wr _)]
          rfl
        clear hb5 JM1
        go_wp2_with fail
        go_roundw
        case rel =>
          refine ⟨i + 1, by omega, by go_num, by rw [hs1.out]; exact val_int HOR.out, ?_, ?_, HB5⟩
          · rw [hs1.out]
            exact HCL2
          · intro p hp
            rcases HM1.out p hp with hp | rfl
            · exact HK.out p hp
            · dsimp only
              omega
        case measure => simp [intOf]; omega
      · exact absurd (HCL.out.symm.trans HC.out) (by rw [if_neg hz]; exact hz)
    · obtain rfl : i = l.length := by omega
      have hkd := HK.out
      rw [List.take_length] at hkd
      have b4 := below_on B0.out HB.out
      have h4 := H.out.later b4
      obtain ⟨-, c1, -, -⟩ := h4.cells
      have hlab : ∀ k, k < w.heap.size → own k = 0 → ¬ Lb (rel own w 0) wr 3 k := fun k hk e e2 => by
        have := e2.2
        rw [rel_old hk, e] at this
        omega
      have JT : Hid (Calls Tryz.prog 75 #[.pointer (some ⟨gp, 0, none⟩)] wr fun e w' => e = .returned (.tuple #[.agg #[.int .i64 a, .int .i64 b], .int .i64 0]) ∧ ∃ o6, Hid (Wx 0 w' o6 gw vk gp gm gt M ks gs' fr' f q T ∧ Wk own o6 w w' ∧ (w'.heap[kr]? = some (.cells #[.int .i64 0, .int .i64 0] 29 (0, 0)) ∧ o6 kr = 0) ∧ Rp w' (.slice ao l.length c) l ∧ ∀ p ∈ l, Iz w' (ptV p) (V p) ∧ (p.2.1 = none → p.2.2 = (0, 0)))) := by
        refine (HT.out wr _ h4.pl).mono ?_
        rintro e w6 ⟨rfl, g2, g3⟩
        have hkr2 : kr < wr.heap.size := Nat.lt_of_lt_of_le (lt_of_block HX0.out.1) HB.out.size
        have hxr : wr.heap[kr]? = some (.cells #[.int .i64 0, .int .i64 0] 29 (0, 0)) := (HB.out.block kr (lt_of_block HX0.out.1)).trans HX0.out.1
        have hlr : rel own w 0 kr = 0 := rel_new HX0.out.2
        refine ⟨rfl, _, h4.pool' g3 g2, (Wk.later b4).trans (Wk.of g3 (fun k _ e => by have := e.2; omega)), ⟨g3.at hxr (fun e => by have := e.2; rw [hlr] at this; omega), (rel_old hkr2).trans hlr⟩, (RP.out.later b4).frame g3 (fun k e => ?_), fun p hp => ⟨((HH.out.2.2.1 p hp).1.later b4).frame g3 (fun k e => ?_), (HH.out.2.2.1 p hp).2⟩⟩
        · obtain ⟨e1, e2⟩ := HH.out.1 k e
          exact hlab k e2 e1
        · obtain ⟨e1, e2⟩ := HH.out.2.2.2.1 p hp k e
          exact hlab k e2 e1
      have t1 : ¬ (l.length : Int) < (l.length : Int) := by omega
      have HKD := hide hkd
      clear h4 b4 HE HK hlab hkd HT
      go_wp2_with fail
      refine JT.out.mono ?_
      rintro e w6 ⟨rfl, o6, H6⟩
      obtain ⟨w7, hw7⟩ : ∃ X, X = w6.alloc (.cells #[.int .i64 a, .int .i64 b] 29) := ⟨_, rfl⟩
      have b7 : Below w6.heap.size w6 w7 := hw7 ▸ below_alloc w6 _
      have x7 : w7.heap[w6.heap.size]? = some (.cells #[.int .i64 a, .int .i64 b] 29 (0, 0)) := hw7 ▸ heap_alloc_new w6 _
      have JP : Hid (Calls Tryz.prog 67 #[.pointer (some ⟨gw, 0, none⟩), .agg #[.int .i64 a, .int .i64 b], .slice ao l.length c] w7 fun e w' => e = .returned (.tuple #[]) ∧ ∃ (l' : List Pt) (g : Nat) (own' : Nat → Nat), Hid (l'.Perm l ∧ l'.Pairwise (fun x y => x.1 ≤ y.1) ∧ Wx 0 w' own' gw vk gp gm gt (M + 3) ks gs' fr' (fun x => if x = (a, b) then some (setOf l) else f x) (fun x => if x = setOf l then some g else q x) (moreT q T (setOf l) (a, b) (l'.flatMap V)) ∧ Wk own own' w w' ∧ w'.heap[w6.heap.size]? = some (.cells #[.int .i64 a, .int .i64 b] 29 (0, 0)) ∧ w'.heap[kr]? = some (.cells #[.int .i64 0, .int .i64 0] 29 (0, 0)) ∧ own' kr = 0)) := by
        obtain ⟨k1, k2, k3, k4, k5⟩ := H6.out
        have hkr3 := lt_of_block k3.1
        refine (put_any (k1.later b7) a b hib _ l V (k4.later b7) HH.out.2.1 (fun p hp => ⟨(k5 p hp).1.later b7, (k5 p hp).2⟩) HKD.out HH.out.2.2.2.2.1 hM HH.out.2.2.2.2.2).mono ?_
        rintro e w8 ⟨rfl, l', g, own', y1, y2, y3, y4⟩
        have l1 : rel o6 w6 0 w6.heap.size = 0 := rel_new (Nat.le_refl _)
        have l2 : rel o6 w6 0 kr = 0 := (rel_old hkr3).trans k3.2
        have l3 := Nat.lt_of_lt_of_le hkr3 b7.size
        exact ⟨rfl, l', g, own', y1, y2, y3, (k2.trans (Wk.later b7)).trans y4, y4.2.at x7 (fun e => e l1), y4.2.at ((b7.block kr hkr3).trans k3.1) (fun e => e l2), (y4.1 kr l3).trans l2⟩
      have z0 : w7.cell? ⟨w6.heap.size, 0, none⟩ = some (.int .i64 a) := (kx_cells x7 (Below.refl _ w7)).1
      have z1 : w7.cell? ⟨w6.heap.size, 1, none⟩ = some (.int .i64 b) := (kx_cells x7 (Below.refl _ w7)).2
      clear JT c1 x7 b7
      go_upto_region 13 with fail
      rw [← hw7]
      obtain ⟨ke, hke⟩ : ∃ k, k = w6.heap.size := ⟨_, rfl⟩
      rw [← hke] at z0 z1 JP ⊢
      clear hw7 hke
      go_wp2_with fail
      refine JP.out.mono ?_
      rintro e w8 ⟨rfl, l', g, own', H8⟩
      obtain ⟨-, -, -, -, x8, x9, x10⟩ := H8.out
      obtain ⟨y0, y1⟩ := kx_cells x8 (Below.refl _ w8)
      obtain ⟨y2, y3⟩ := kx_cells x9 (Below.refl _ w8)
      have fz := frozen_of_row w8 kr 0 _ 29 x9
      have fz1 := frozen_of_row w8 kr 1 _ 29 x9
      clear JP z0 z1 x8
      have HX10 := hide x10
      have hm9 : Mv w8 ((w8.setCell ⟨kr, 0, none⟩ (.int .i64 a)).setCell ⟨kr, 1, none⟩ (.int .i64 b)) (fun k => k = kr) := ((Mv.refl w8 (fun k => k = kr)).set rfl 0 _).set rfl 1 _
      have HE : Hid (∃ (l' : List Pt) (g : Nat) (own' : Nat → Nat), l'.Perm l ∧ l'.Pairwise (fun x y => x.1 ≤ y.1) ∧ Wx 0 ((w8.setCell ⟨kr, 0, none⟩ (.int .i64 a)).setCell ⟨kr, 1, none⟩ (.int .i64 b)) own' gw vk gp gm gt (M + 3) ks gs' fr' (fun x => if x = (a, b) then some (setOf l) else f x) (fun x => if x = setOf l then some g else q x) (moreT q T (setOf l) (a, b) (l'.flatMap V)) ∧ Wk own own' w ((w8.setCell ⟨kr, 0, none⟩ (.int .i64 a)).setCell ⟨kr, 1, none⟩ (.int .i64 b))) := by
        obtain ⟨j1, j2, j3, j4, -⟩ := H8.out
        refine ⟨l', g, rel own' w8 0, j1, j2, j3.frame (.inl rfl) hm9 (fun k _ e => .inr (by rw [e]; exact HX10.out)), fun k hk => (rel_old (Nat.lt_of_lt_of_le hk j4.2.size)).trans (j4.1 k hk), j4.2.trans hm9 (fun k hk e => ?_)⟩
        have := HX0.out.2
        omega
      clear hm9 x9 x10
      go_wp2_with fail
      (try simp only [Exit.inBlock, Exit.then])
      refine bodyPost_ret (v := .tuple #[.agg #[.int .i64 a, .int .i64 b], .int .i64 0]) ?_ rfl ⟨rfl, HE.out⟩
      rw [results_cell_tmp rfl]
      go_simp
end
end Go.Proofs.YtafmiolehlagkaaGreat

/-
  World: slices.Clone of numbers that are read; what parts a row has.
-/
namespace Go.Proofs.YtafmiolehlagkaaGreat
open Go.RowKit
set_option maxRecDepth 100000
set_option maxHeartbeats 1000000 in
theorem clone_nums (v : Value) (l : List Int) (w : World) (h : Iz w v l) (hn : l.length ≤ 1000000) :
    Calls Tryz.prog 140 #[v] w fun e w' => ∃ v', e = .returned v' ∧ w'.ownsRow w.heap.size 2 1 v' l.length (zc l) ∧ Below w.heap.size w w' := by
  obtain ⟨i0, hi, hz0, hz1, hz2⟩ := info_parts info2
  have q27 : ∀ (w : World) (a : Option Addr) (n c n' c' : Nat), (binOp .eql 30 (.slice a n c) (.slice none n' c')).run Tryz.prog w = .ok (.bool a.isNone) w := fun w a n c n' c' => Lib.run_eql_slice_nil w _ _ a n c n' c' Tryz.underlying30
  obtain ⟨ao, c, rfl, h1, h2, h3⟩ := h
  cases ao with
  | none =>
    obtain rfl : l = [] := by
      cases l with
      | nil => rfl
      | cons x t =>
        obtain ⟨g, o, e, -⟩ := h3 0 (by simp)
        cases e
    clear h3
    go_enter Tryz.func140, Tryz.ntmps140
    go_wp2_with fail
    go_ret
    exact ⟨_, rfl, World.ownsRow_nil _ _ _ _, Below.refl _ _⟩
  | some ad =>
    have H : Hid (∀ j u, (zc l)[j]? = some u → (w.alloc (.cells #[] 2)).cell? (ad.add j) = some u) := fun j u hj => by
      have hj2 : j < l.length := by
        have := (List.getElem?_eq_some_iff.1 hj).1
        rwa [zc_len] at this
      rw [zc_at l j hj2] at hj
      obtain ⟨g', o', e3, z4⟩ := h3 j hj2
      obtain rfl := Option.some.inj e3
      rw [add_at, ← Option.some.inj hj]
      exact ((below_alloc w _).cell (p := ⟨g', o' + j, none⟩) (World.block_lt_of_cell? w _ z4)).trans z4
    clear h3
    go_enter Tryz.func140, Tryz.ntmps140
    go_wp2_with (at_builtin; refine wpList_append_own_at _ rfl _ _ 30 rfl w.heap.size 2 i0 (.int .i64 0) 1 8 Tryz.underlying30 hi hz0 hz1 hz2 rfl (by decide) _ 0 [] rfl (World.ownsRow_lit w #[] 0 (Nat.le_refl _) (Nat.zero_le _) rfl) ad l.length c (zc l) rfl (by rw [zc_len]; omega) H.out (zc_one l) (by unfold maxLen; omega) (by omega) (by simp) ?_)
    intro v' w' ho hg _ _
    obtain ⟨ao, c, rfl⟩ := own_len ho
    have HO := hide ho
    have HG := hide hg
    clear ho hg
    go_wp2_with fail
    go_ret
    refine ⟨_, rfl, ?_, (below_alloc w _).grown HG.out (by simp) (fun k e => ?_)⟩
    · have := HO.out
      simpa using this
    · simp [Value.ownBlock] at e
      omega
/-! ### The parts of a row -/
/-- The parts of a row, by rising kinds. -/
def partsL : List Kind → Nat → Nat → List Int → List (Nat × List Int)
  | [], _, _, _ => []
  | kd :: t, s, k, vals => if s.testBit k then (k, vals.take kd.2.length) :: partsL t s (k + 1) (vals.drop kd.2.length) else partsL t s (k + 1) vals
/-- How many fields a set has. -/
def fsum : List Kind → Nat → Nat → Nat
  | [], _, _ => 0
  | kd :: t, s, k => (if s.testBit k then kd.2.length else 0) + fsum t s (k + 1)
/-- Parts in memory: their kinds, and values of their own. -/
def Pv (B : Nat) (w : World) (L : List Pt) (R : List (Nat × List Int)) : Prop :=
  L.length = R.length ∧ ∀ i (h : i < L.length) (h' : i < R.length), L[i].1 = (R[i].1 : Int) ∧ w.ownsRow B 2 1 (ptV L[i]) R[i].2.length (zc R[i].2)
theorem Pv.nil (B : Nat) (w : World) : Pv B w [] [] := ⟨rfl, fun i h => absurd h (by simp)⟩
theorem Pv.later {B : Nat} {w w' : World} {L : List Pt} {R : List (Nat × List Int)} (h : Pv B w L R) (hb : Below w.heap.size w w') : Pv B w' L R := ⟨h.1, fun i h1 h2 => ⟨(h.2 i h1 h2).1, own_later (h.2 i h1 h2).2 hb⟩⟩
theorem Pv.push {B : Nat} {w : World} {L : List Pt} {R : List (Nat × List Int)} (h : Pv B w L R) (p : Pt) (k : Nat) (l : List Int) (hp : p.1 = (k : Int)) (ho : w.ownsRow B 2 1 (ptV p) l.length (zc l)) : Pv B w (L ++ [p]) (R ++ [(k, l)]) := by
  refine ⟨by simp [h.1], fun i h1 h2 => ?_⟩
  by_cases hi : i < L.length
  · have hr : i < R.length := by rw [← h.1]; exact hi
    rw [List.getElem_append_left hi, List.getElem_append_left hr]
    exact h.2 i hi hr
  · have e1 : i = L.length := by simp at h1; omega
    have e2 : i = R.length := by rw [← h.1]; exact e1
    rw [List.getElem_append_right (by omega), List.getElem_append_right (by omega)]
    simpa using ⟨hp, ho⟩
end Go.Proofs.YtafmiolehlagkaaGreat

/-
  World: all parts of one that lives.
-/
namespace Go.Proofs.YtafmiolehlagkaaGreat
open Go.RowKit
set_option maxRecDepth 100000
theorem parts_step (ks : List Kind) (s k : Nat) (hk : k < ks.length) (vals : List Int) : partsL (ks.drop k) s (k + 1) vals = if s.testBit (k + 1) then (k + 1, vals.take ks[k].2.length) :: partsL (ks.drop (k + 1)) s (k + 1 + 1) (vals.drop ks[k].2.length) else partsL (ks.drop (k + 1)) s (k + 1 + 1) vals := by
  rw [List.drop_eq_getElem_cons hk]
  rfl
theorem fsum_step (ks : List Kind) (s k : Nat) (hk : k < ks.length) : fsum (ks.drop k) s (k + 1) = (if s.testBit (k + 1) then ks[k].2.length else 0) + fsum (ks.drop (k + 1)) s (k + 1 + 1) := by
  rw [List.drop_eq_getElem_cons hk]
  rfl
/-- Numbers that are read: nil, or a place of their own. -/
def Jz (w : World) (v : Value) (l : List Int) : Prop :=
  (v = .slice none 0 0 ∧ l = []) ∨ ∃ g o c, v = .slice (some ⟨g, o, none⟩) l.length c ∧ l.length ≤ c ∧ c ≤ maxLen ∧ ∀ j (hj : j < l.length), w.cell? ⟨g, o + j, none⟩ = some (.int .i64 l[j])
theorem Jz.own {w : World} {v : Value} {l : List Int} {B : Nat} (h : w.ownsRow B 2 1 v l.length (zc l)) : Jz w v l := by
  rcases h.2 with ⟨rfl, hl⟩ | ⟨g, c, cur, rfl, -, hg, h1, h2, hcs, htake⟩
  · exact .inl ⟨rfl, List.eq_nil_of_length_eq_zero hl⟩
  · exact .inr ⟨g, 0, c, rfl, h1, h2, fun j hj => by rw [Nat.zero_add]; exact own_num h j hj⟩
theorem Jz.later {w w' : World} {v : Value} {l : List Int} (h : Jz w v l) (hb : Below w.heap.size w w') : Jz w' v l := by
  rcases h with h | ⟨g, o, c, rfl, h1, h2, h3⟩
  · exact .inl h
  · exact .inr ⟨g, o, c, rfl, h1, h2, fun j hj => (hb.cell (p := ⟨g, o + j, none⟩) (World.block_lt_of_cell? w _ (h3 j hj))).trans (h3 j hj)⟩
theorem take_iz {w : World} {g o c m : Nat} {l : List Int} (h1 : l.length ≤ c) (h2 : c ≤ maxLen) (h3 : ∀ j (hj : j < l.length), w.cell? ⟨g, o + j, none⟩ = some (.int .i64 l[j])) (hm : m ≤ l.length) : Iz w (.slice (some ⟨g, o, none⟩) m c) (l.take m) := by
  have hl : (l.take m).length = m := by rw [List.length_take]; omega
  refine ⟨some ⟨g, o, none⟩, c, by rw [hl], by omega, h2, fun j hj => ⟨g, o, rfl, ?_⟩⟩
  rw [List.getElem_take]
  exact h3 j (by omega)
theorem drop_jz {w : World} {g o c m : Nat} {l : List Int} (h1 : l.length ≤ c) (h2 : c ≤ maxLen) (h3 : ∀ j (hj : j < l.length), w.cell? ⟨g, o + j, none⟩ = some (.int .i64 l[j])) (hm : m ≤ l.length) (o' : Nat) (ho : m < l.length → o' = o + m) : Jz w (.slice (some ⟨g, o', none⟩) (l.length - m) (c - m)) (l.drop m) := by
  have hl : (l.drop m).length = l.length - m := by rw [List.length_drop]
  refine .inr ⟨g, o', c - m, by rw [hl], by omega, by omega, fun j hj => ?_⟩
  rw [ho (by omega), List.getElem_drop, Nat.add_assoc]
  exact h3 (m + j) (by omega)
theorem Pv.grown {B : Nat} {w w' : World} {L : List Pt} {R : List (Nat × List Int)} {row : Option Nat} (h : Pv B w L R) (hg : w.grownBy w' row) (hne : ∀ p ∈ L, ∀ k, (ptV p).ownBlock = some k → row ≠ some k) : Pv B w' L R := ⟨h.1, fun i h1 h2 => ⟨(h.2 i h1 h2).1, own_kept (h.2 i h1 h2).2 hg (hne _ (List.getElem_mem h1))⟩⟩
theorem pz_two (p : Pt) : pz [p] = [.int .i64 p.1, ptV p] := rfl
section
variable {w w' : World} {own : Nat → Nat} {gw gp gm gt M M' : Nat} {vk : Value} {ks : List Kind} {gs fr gs' fr' : List Nat} {f f' : Int × Int → Option Nat} {q q' : Nat → Option Nat} {T T' : Nat → Ts}
set_option maxHeartbeats 8000000 in
theorem parts_any (h : Wx 0 w own gw vk gp gm gt M ks gs fr f q T) (a b : Int) (hib : InB (a, b)) (hks : ks.length ≤ 12) (s g i : Nat) (hf : f (a, b) = some s) (hq : q s = some g) (hs : s < 8192) (hi : i < (T s).1.length) (hx : (T s).1[i] = (a, b)) (hcol : (T s).2.length = fsum ks s 1) :
    Calls Tryz.prog 78 #[.pointer (some ⟨gw, 0, none⟩), .agg #[.int .i64 a, .int .i64 b]] w fun e w' => ∃ v, e = .returned v ∧ ∃ L, w'.ownsRow w.heap.size 32 2 v L.length (pz L) ∧ Pv w.heap.size w' L (partsL ks s 1 (rowOf (T s).2 i)) ∧ Below w.heap.size w w' := by
  obtain ⟨i0, hi0, hz0, hz1, hz2⟩ := info_parts infoP
  have H := hide h
  have HQ := hide hq
  have HF := hide hf
  have HX : Hid (∃ hi : i < (T s).1.length, (T s).1[i] = (a, b)) := ⟨hi, hx⟩
  have h48 : (T s).2.length ≤ 48 := by
    obtain ⟨n, -, lab, vr, gm', vc, cs, f', -, -, -, -, -, -, hc⟩ := h.tb hq
    exact hc
  have HC := hide hcol
  have H48 := hide h48
  obtain ⟨row, hrow⟩ : ∃ X, X = rowOf (T s).2 i := ⟨_, rfl⟩
  rw [← hrow]
  have HROW := hide hrow
  clear h hq hf hi hx hcol h48 hrow
  go_enter Tryz.func78, Tryz.ntmps78
  go_upto_region 1 with fail
  obtain ⟨w1, hw1⟩ : ∃ X, X = w.alloc (.cells #[.int .i64 a, .int .i64 b] 29) := ⟨_, rfl⟩
  have B1 : Below w.heap.size w w1 := hw1 ▸ below_alloc w _
  have hx1 : w1.heap[w.heap.size]? = some (.cells #[.int .i64 a, .int .i64 b] 29 (0, 0)) := hw1 ▸ heap_alloc_new w _
  rw [← hw1]
  obtain ⟨kx, hkx⟩ : ∃ k, k = w.heap.size := ⟨_, rfl⟩
  rw [← hkx] at hx1 ⊢
  have HX1 : Hid (w1.heap[kx]? = some (.cells #[.int .i64 a, .int .i64 b] 29 (0, 0))) := hx1
  obtain ⟨p0, p1⟩ := kx_cells hx1 (Below.refl _ w1)
  have H1 := hide (H.out.later B1)
  have HB1 := hide B1
  have HKX : Hid (kx = w.heap.size) := hkx
  obtain ⟨c0, c1, c2, c3⟩ := H1.out.cells
  have hlk := (H1.out.later (below_drew w1)).mp.look1 a b hib HF.out
  clear hx1 hw1 hkx B1
  refine wp_region_noPanic ?_
  refine wp_region_late (J := fun i => i != 99) (S := fun W => W.cell? ⟨gw, 2, none⟩ = some (.map (some gm)) ∧ W.cell? ⟨kx, 0, none⟩ = some (.int .i64 a) ∧ W.cell? ⟨kx, 1, none⟩ = some (.int .i64 b)) (by kernel_rfl) ⟨c2, p0, p1⟩ (fun hHeld => ?_)
  refine' wpAnyJ_takeW (i := 0) (oi := { dst := some 13, op := Op.move (Operand.tmp 0), type := 37, pos := "world.go:195", after := #[], guard := none }) (v := _) rfl (by kernel_rfl) (by kernel_rfl) (by kernel_rfl) (fun _ _ _ h => h) (Or.inl ⟨by rfl, ?hyA1⟩) ?reA1
  case hyA1 => (intro W hSw; (try dsimp only at hSw); go_simp; try with_reducible rfl)
  try simp only [Act.put, List.setIfInBounds_toArray, List.set_cons_zero, List.set_cons_succ]
  refine' wpAnyJ_takeW (i := 1) (oi := { dst := some 14, op := Op.nilCheck (Operand.tmp 13), type := 0, pos := "world.go:195", after := #[{ on := 0, ground := Ground.data }], guard := none }) (v := _) rfl (by kernel_rfl) (by kernel_rfl) (by kernel_rfl) (fun _ _ _ h => h) (Or.inl ⟨by rfl, ?hyA2⟩) ?reA2
  case hyA2 => (intro W hSw; (try dsimp only at hSw); go_simp; try with_reducible rfl)
  try simp only [Act.put, List.setIfInBounds_toArray, List.set_cons_zero, List.set_cons_succ]
  refine' wpAnyJ_takeW (i := 2) (oi := { dst := some 15, op := Op.fieldAddr 109 (Operand.tmp 14) 2, type := 0, pos := "world.go:195", after := #[{ on := 1, ground := Ground.data }], guard := none }) (v := _) rfl (by kernel_rfl) (by kernel_rfl) (by kernel_rfl) (fun _ _ _ h => h) (Or.inl ⟨by rfl, ?hyA3⟩) ?reA3
  case hyA3 => (intro W hSw; (try dsimp only at hSw); go_simp; try with_reducible rfl)
  try simp only [Act.put, List.setIfInBounds_toArray, List.set_cons_zero, List.set_cons_succ]
  refine' wpAnyJ_take (i := 3) (oi := { dst := some 16, op := Op.load 106 (Operand.tmp 15), type := 106, pos := "world.go:195", after := #[{ on := 2, ground := Ground.data }], guard := none }) (v := _) rfl (by kernel_rfl) (by kernel_rfl) (by kernel_rfl) (by kernel_rfl) (fun _ _ _ h => h) (Or.inl ⟨by rfl, ?hyA4⟩) (by assumption) ?reA4
  case hyA4 => (intro W hSw; (try dsimp only at hSw); go_simp; try with_reducible rfl)
  try simp only [Act.put, List.setIfInBounds_toArray, List.set_cons_zero, List.set_cons_succ]
  refine' wpAnyJ_take (i := 4) (oi := { dst := some 17, op := Op.load 29 (Operand.tmp 3), type := 29, pos := "world.go:195", after := #[], guard := none }) (v := _) rfl (by kernel_rfl) (by kernel_rfl) (by kernel_rfl) (by kernel_rfl) (fun _ _ _ h => h) (Or.inl ⟨by rfl, ?hyA5⟩) (by assumption) ?reA5
  case hyA5 => (intro W hSw; (try dsimp only at hSw); go_simp; try with_reducible rfl)
  try simp only [Act.put, List.setIfInBounds_toArray, List.set_cons_zero, List.set_cons_succ]
  refine wpAnyJ_ready (rs := [5]) (by kernel_rfl) (by simp) ?_
  refine AllReadyJ.cons (o := { dst := some 18, op := Op.lookup 106 (Operand.tmp 16) (Operand.tmp 17) false, type := 3, pos := "world.go:195", after := #[{ on := 3, ground := Ground.data }, { on := 4, ground := Ground.data }], guard := none }) rfl (fun K hK => ?_) AllReadyJ.nil
  go_simp
  refine hK.out _ _ (fun _ _ => ⟨c2, p0, p1⟩) ?_
  clear hK K
  try simp only [Act.put, List.setIfInBounds_toArray, List.set_cons_zero, List.set_cons_succ]
  refine' wpAnyJ_takeW (i := 6) (oi := { dst := some 5, op := Op.assign (Operand.tmp 18), type := 3, pos := "world.go:195", after := #[{ on := 5, ground := Ground.data }, { on := 0, ground := Ground.phase }, { on := 1, ground := Ground.phase }, { on := 2, ground := Ground.phase }, { on := 3, ground := Ground.phase }, { on := 4, ground := Ground.phase }, { on := 5, ground := Ground.phase }], guard := none }) (v := _) rfl (by kernel_rfl) (by kernel_rfl) (by kernel_rfl) (fun _ _ _ h => h) (Or.inl ⟨by rfl, ?hyA6⟩) ?reA6
  case hyA6 => (intro W hSw; (try dsimp only at hSw); go_simp; try with_reducible rfl)
  try simp only [Act.put, List.setIfInBounds_toArray, List.set_cons_zero, List.set_cons_succ]
  refine wpAnyJ_done (by kernel_rfl) ?_ _
  refine NoPanic.normal ?_
  obtain ⟨w2, hw2⟩ : ∃ X, X = w1.drew := ⟨_, rfl⟩
  rw [← hw2]
  have B2 : Hid (Below w.heap.size w w2) := hw2 ▸ below_on HB1.out (below_drew w1)
  have H2 := hide (H.out.later B2.out)
  have X2 : Hid (w2.heap[kx]? = some (.cells #[.int .i64 a, .int .i64 b] 29 (0, 0))) := hw2 ▸ HX1.out
  clear hlk p0 p1 c0 c1 c2 c3 H1 HX1 hw2 HB1
  obtain ⟨-, -, c2, c3⟩ := H2.out.cells
  obtain ⟨p0, p1⟩ := kx_cells X2.out (Below.refl _ w2)
  have hlq := H2.out.mq.look1 (by omega) HQ.out
  obtain ⟨hi, hx⟩ := HX.out
  have JF : Hid (Calls Tryz.prog 150 #[.pointer (some ⟨g, 0, none⟩), .agg #[.int .i64 a, .int .i64 b]] w2 fun e w' => e = .returned (.int .i64 (i : Int)) ∧ Hid (Below w2.heap.size w2 w')) := by
    obtain ⟨n, hn, ht⟩ := H2.out.tb HQ.out
    refine (find_any ht a b hib).mono ?_
    rintro e w' ⟨r, rfl, hr, hb2⟩
    have hr2 : r = (i : Int) := by
      rcases hr with ⟨-, hr⟩ | ⟨j, hj, rfl, hr⟩
      · exact absurd (hx ▸ List.getElem_mem hi) hr
      · obtain ⟨lab, vr, gm', vc, cs, f', hm, hix, -⟩ := ht
        rw [hix.inj hj hi (hr.trans hx.symm)]
    exact ⟨ret_int hr2, hb2⟩
  have hrl : row.length = fsum ks s 1 ∧ row.length ≤ 48 := by
    rw [HROW.out, rowOf_len]
    exact ⟨HC.out, H48.out⟩
  have JR : Hid (∀ W, Hid (Below w2.heap.size w2 W) → Calls Tryz.prog 149 #[.pointer (some ⟨g, 0, none⟩), .int .i64 (i : Int)] W fun e w' => ∃ v, e = .returned (.tuple #[.agg #[.int .i64 a, .int .i64 b], v, .int .i64 0]) ∧ Hid (w'.ownsRow w.heap.size 2 1 v row.length (zc row) ∧ Below w.heap.size w w')) := fun W hW => by
    obtain ⟨n, hn, ht⟩ := H2.out.tb HQ.out
    refine (row_any (ht.later hW.out) i hi).mono ?_
    rintro e w' ⟨v, rfl, h1, h2⟩
    have b3 := below_on B2.out hW.out
    rw [← rowOf_len (T s).2 i, ← HROW.out] at h1
    refine ⟨v, ?_, own_lower h1 b3.size, below_on b3 h2⟩
    rw [hx]
  have HRL := hide hrl
  clear hi hx hrl HX HC H48 HROW
  go_wp2_with fail
  refine JF.out.mono ?_
  rintro e w2' ⟨rfl, HW2⟩
  go_wp2_with fail
  refine (JR.out _ HW2).mono ?_
  rintro e w3 ⟨v3, rfl, H3⟩
  obtain ⟨a3, c3', rfl⟩ := own_len H3.out.1
  clear JF JR p0 p1 HW2 H2 X2 c2 c3 hlq B2
  have hv3 : Hid (Jz w3 (.slice a3 row.length c3') row) := Jz.own H3.out.1
  obtain ⟨w4, hw4⟩ : ∃ X, X = w3.alloc (.cells #[.int .i64 a, .int .i64 b] 29) := ⟨_, rfl⟩
  have B4 : Hid (Below w.heap.size w w4) := hw4 ▸ below_on H3.out.2 (below_alloc w3 _)
  have I4 : Hid (Jz w4 (.slice a3 row.length c3') row) := hw4 ▸ hv3.out.later (below_alloc w3 _)
  go_wp2_with fail
  rw [← hw4]
  clear hv3 hw4 H3
  go_loopw [8, 10, 11] (fun v8 v10 v11 W => ∃ (k : Nat) (rest : List Int) (L : List Pt) (R : List (Nat × List Int)), k ≤ ks.length ∧ v11 = .int .i64 ((k + 1 : Nat) : Int) ∧ rest.length ≤ 48 ∧ Hid (partsL ks s 1 row = R ++ partsL (ks.drop k) s (k + 1) rest ∧ rest.length = fsum (ks.drop k) s (k + 1)) ∧ L.length ≤ k ∧ Hid (Jz w4 v8 rest) ∧ Hid (W.ownsRow w4.heap.size 32 2 v10 L.length (pz L)) ∧ Hid (Pv w4.heap.size W L R) ∧ Hid (∀ p ∈ L, Ap (ptV p) v10) ∧ Hid (Below w4.heap.size w4 W)) (fun _ _ v11 _ => ks.length + 1 - (intOf v11).toNat)
  case atStart => exact ⟨0, row, [], [], Nat.zero_le _, rfl, HRL.out.2, ⟨rfl, HRL.out.1⟩, Nat.zero_le _, I4, World.ownsRow_nil _ _ _ _, Pv.nil _ _, fun p hp => by simp at hp, Below.refl _ _⟩
  case round =>
    obtain ⟨k, rest, L, R, hkl, rfl, h48, HP, hLk, HI, HO, HV, HAp, HB4⟩ := hrel
    have HB : Hid (Below w.heap.size w wr) := below_on B4.out HB4.out
    have hx := H.out.later HB.out
    obtain ⟨c0, -, -, -⟩ := hx.cells
    have hkr := hx.2.2.2.1.kr
    have JFd : Hid (∀ (j : Nat) (h1 : 1 ≤ j) (h2 : j ≤ ks.length), Calls Tryz.prog 89 #[.pointer (some ⟨gw, 0, none⟩), .int .i64 (j : Int)] wr fun e w' => e = .returned (.int .i64 ((ks[j - 1]'(by omega)).2.length : Int)) ∧ w' = wr) := fun j h1 h2 => fields_any hx.2.2.1 hkr j h1 h2 hks
    obtain ⟨ak, ck, rfl, hk1, -⟩ := hkr
    clear hx
    by_cases hlt : k < ks.length
    · have t1 : ((k + 1 : Nat) : Int) ≤ (ks.length : Int) := by omega
      have hps := parts_step ks s k hlt rest
      have hfs := fsum_step ks s k hlt
      have JH := hide (has_any s (k + 1) wr hs (by omega))
      have JF1 := hide (JFd.out (k + 1) (by omega) (by omega))
      simp only [Nat.add_sub_cancel] at JF1
      generalize (ks[k]'hlt).2.length = m at *
      obtain ⟨K, hK⟩ : ∃ K : Int, K = ((k + 1 : Nat) : Int) := ⟨_, rfl⟩
      have t3 : IntKind.i64.wrap (K + 1) = ((k + 1 + 1 : Nat) : Int) := by rw [IntKind.wrap_i64]; omega
      rw [← hK] at t1 JH JF1 ⊢
      have HKK := hide hK
      have HPS := hide hps
      have HFS := hide hfs
      clear hK hps hfs JFd
      cases hbt : s.testBit (k + 1) with
      | false =>
        rw [hbt] at JH HPS HFS
        have hp2 := HPS.out
        have hf2 := HFS.out
        simp only [Bool.false_eq_true, if_false, Nat.zero_add] at hp2 hf2
        have HP2 := hide hp2
        have HF2 := hide hf2
        clear HPS HFS hp2 hf2 hbt JF1
        go_wp2_with fail
        refine JH.out.mono ?_
        rintro e w' ⟨rfl, rfl⟩
        go_wp2_with fail
        go_roundw
        case rel => exact ⟨k + 1, rest, L, R, by omega, by have hKK := HKK.out; subst hKK; go_num, h48, ⟨by rw [HP.out.1, HP2.out], by rw [HP.out.2, HF2.out]⟩, by omega, HI, HO, HV, HAp, HB4⟩
        case measure => have hKK := HKK.out; simp only [intOf]; omega
      | true =>
        rw [hbt] at JH HPS HFS
        have hp2 := HPS.out
        have hf2 := HFS.out
        simp only [if_true] at hp2 hf2
        have HP2 := hide hp2
        have HF2 := hide hf2
        have hmr : m ≤ rest.length := by rw [HP.out.2, HF2.out]; omega
        clear HPS HFS hp2 hf2 hbt
        obtain ⟨a10, c10, rfl⟩ := own_len HO.out
        rcases HI.out with ⟨rfl, rfl⟩ | ⟨gv, ov, c8, rfl, h81, h82, h83⟩
        · obtain rfl : m = 0 := by simpa using hmr
          have HP0 : Hid (List.take 0 ([] : List Int) = [] ∧ List.drop 0 ([] : List Int) = []) := ⟨rfl, rfl⟩
          have JC := hide (clone_nums (.slice none 0 0) [] wr ⟨none, 0, rfl, Nat.le_refl _, Nat.zero_le _, fun j hj => absurd hj (by simp)⟩ (by simp))
          go_wp2_with fail
          refine JH.out.mono ?_
          rintro e wr ⟨rfl, rfl⟩
          go_wp2_with fail
          refine JF1.out.mono ?_
          rintro e wr ⟨rfl, rfl⟩
          go_wp2_with fail
          refine JC.out.mono ?_
          rintro e w5 ⟨v5, rfl, ho5, hb5⟩
          have hlm : (([] : List Int)).length = 0 := rfl
          obtain ⟨a5, c5, rfl⟩ := own_len ho5
          have O5 := hide ho5
          have B5 := hide hb5
          have HLM := hide hlm
          have HA : Hid (∀ (v' : Value) (w' : World), w'.ownsRow w4.heap.size 32 2 v' (L.length + 1) (pz L ++ [.int .i64 K, .slice a5 0 c5]) → (w5.alloc (.cells #[.int .i64 K, .slice a5 0 c5] 32)).grownBy w' (Value.slice a10 L.length c10).ownBlock → (v'.ownBlock = (Value.slice a10 L.length c10).ownBlock ∨ v'.ownBlock = some (w5.heap.size + 1)) → w'.ownsRow w4.heap.size 32 2 v' (L ++ [(K, a5, 0, c5)]).length (pz (L ++ [(K, a5, 0, c5)])) ∧ Pv w4.heap.size w' (L ++ [(K, a5, 0, c5)]) (R ++ [(k + 1, ([] : List Int))]) ∧ (∀ p ∈ L ++ [(K, a5, 0, c5)], Ap (ptV p) v') ∧ Below w4.heap.size w4 w') := fun v' w' g1 g2 g3 => by
            have b6 : Below wr.heap.size wr (w5.alloc (.cells #[.int .i64 K, .slice a5 0 c5] 32)) := below_on B5.out (below_alloc w5 _)
            have hwr := HB4.out.size
            have hw5 := B5.out.size
            have q1 : ∀ j, (Value.slice a10 L.length c10).ownBlock = some j → w4.heap.size ≤ j ∧ j < wr.heap.size := fun j e => HO.out.lt j e
            have q2 : ∀ j, (Value.slice a5 0 c5).ownBlock = some j → wr.heap.size ≤ j ∧ j < w5.heap.size := fun j e => O5.out.lt j e
            have q3 : ∀ p ∈ L, ∀ j, (ptV p).ownBlock = some j → j < wr.heap.size := fun p hp j e => by
              obtain ⟨n, hn, rfl⟩ := List.getElem_of_mem hp
              exact ((HV.out.2 n hn (by rw [← HV.out.1]; exact hn)).2.lt j e).2
            refine ⟨?_, ?_, ?_, (below_on HB4.out b6).grown g2 (by simp; omega) (fun j e => (q1 j e).1)⟩
            · rw [pz_append, pz_two, List.length_append]
              exact g1
            · refine Pv.push ((HV.out.later b6).grown g2 (fun p hp j e e2 => HAp.out p hp j e e2)) (K, a5, 0, c5) (k + 1) (([] : List Int)) HKK.out ?_
              rw [HLM.out]
              exact own_kept (own_lower (own_later O5.out (below_alloc w5 _)) hwr) g2 (fun j e e2 => by have h1 := q1 j e2; have h2 := q2 j e; omega)
            · intro p hp j e1 e2
              rw [List.mem_append, List.mem_singleton] at hp
              rcases g3 with g3 | g3
              · rw [g3] at e2
                rcases hp with hp | rfl
                · exact HAp.out p hp j e1 e2
                · have h1 := q1 j e2
                  have h2 := q2 j e1
                  omega
              · rw [g3] at e2
                have e3 := Option.some.inj e2
                rcases hp with hp | rfl
                · have := q3 p hp j e1
                  omega
                · have h2 := q2 j e1
                  omega
          clear JC JF1 JH ho5 hb5 hlm
          go_wp2_with (at_builtin; refine wpList_append_own_at _ rfl _ _ 33 rfl w4.heap.size 32 i0 (.agg #[.int .i64 0, .slice none 0 0]) 2 32 Tryz.underlying33 hi0 hz0 hz1 hz2 rfl (by decide) _ L.length (pz L) rfl ((own_later HO.out B5.out).alloc _) ⟨w5.heap.size, 0, none⟩ 1 1 [.int .i64 K, .slice a5 0 c5] rfl rfl ?c1 ?c2 (by unfold maxLen; omega) (by omega) ?c5 ?_)
          case c1 =>
            intro j u hj
            match j, hj with
            | 0, hj => simp at hj; subst hj; simp [Addr.add]
            | 1, hj => simp at hj; subst hj; simp [Addr.add]
          case c2 =>
            intro u hu
            simp at hu
            rcases hu with rfl | rfl <;> rfl
          case c5 =>
            have h1 := HB4.out.size
            have h2 := B5.out.size
            simp
            omega
          intro v' w' g1 g2 _ g3
          obtain ⟨r1, r2, r3, r4⟩ := HA.out v' w' g1 g2 g3
          have R1 := hide r1
          have R2 := hide r2
          have R3 := hide r3
          have R4 := hide r4
          clear g1 g2 g3 r1 r2 r3 r4 HA
          go_wp2_with fail
          go_roundw
          case rel =>
            refine ⟨k + 1, ([] : List Int), L ++ [(K, a5, 0, c5)], R ++ [(k + 1, ([] : List Int))], by omega, by have hKK := HKK.out; subst hKK; go_num, by simp, ⟨?_, ?_⟩, by simp; omega, ?_, R1, R2, R3, R4⟩
            · rw [HP.out.1, HP2.out, List.append_assoc]
              rfl
            · have h1 := HP.out.2
              rw [HF2.out] at h1
              simp only [List.length_nil] at h1 ⊢
              omega
            · exact .inl ⟨rfl, rfl⟩
          case measure => have hKK := HKK.out; simp only [intOf]; omega
        · have JC := hide (clone_nums _ _ wr ((take_iz h81 h82 h83 hmr).later HB4.out) (by rw [List.length_take]; omega))
          have H83 := hide h83
          have H82 := hide h82
          have tm : (m : Int) ≤ (rest.length : Int) := by omega
          have tm2 : (m : Int) ≤ (c8 : Int) := by omega
          clear h83 h82
          go_wp2_with fail
          refine JH.out.mono ?_
          rintro e wr ⟨rfl, rfl⟩
          go_wp2_with fail
          refine JF1.out.mono ?_
          rintro e wr ⟨rfl, rfl⟩
          go_wp2_with fail
          refine JC.out.mono ?_
          rintro e w5 ⟨v5, rfl, ho5, hb5⟩
          have hlm : (rest.take m).length = m := by rw [List.length_take]; omega
          rw [hlm] at ho5
          obtain ⟨a5, c5, rfl⟩ := own_len ho5
          have O5 := hide ho5
          have B5 := hide hb5
          have HLM := hide hlm
          have HA : Hid (∀ (v' : Value) (w' : World), w'.ownsRow w4.heap.size 32 2 v' (L.length + 1) (pz L ++ [.int .i64 K, .slice a5 m c5]) → (w5.alloc (.cells #[.int .i64 K, .slice a5 m c5] 32)).grownBy w' (Value.slice a10 L.length c10).ownBlock → (v'.ownBlock = (Value.slice a10 L.length c10).ownBlock ∨ v'.ownBlock = some (w5.heap.size + 1)) → w'.ownsRow w4.heap.size 32 2 v' (L ++ [(K, a5, m, c5)]).length (pz (L ++ [(K, a5, m, c5)])) ∧ Pv w4.heap.size w' (L ++ [(K, a5, m, c5)]) (R ++ [(k + 1, rest.take m)]) ∧ (∀ p ∈ L ++ [(K, a5, m, c5)], Ap (ptV p) v') ∧ Below w4.heap.size w4 w') := fun v' w' g1 g2 g3 => by
            have b6 : Below wr.heap.size wr (w5.alloc (.cells #[.int .i64 K, .slice a5 m c5] 32)) := below_on B5.out (below_alloc w5 _)
            have hwr := HB4.out.size
            have hw5 := B5.out.size
            have q1 : ∀ j, (Value.slice a10 L.length c10).ownBlock = some j → w4.heap.size ≤ j ∧ j < wr.heap.size := fun j e => HO.out.lt j e
            have q2 : ∀ j, (Value.slice a5 m c5).ownBlock = some j → wr.heap.size ≤ j ∧ j < w5.heap.size := fun j e => O5.out.lt j e
            have q3 : ∀ p ∈ L, ∀ j, (ptV p).ownBlock = some j → j < wr.heap.size := fun p hp j e => by
              obtain ⟨n, hn, rfl⟩ := List.getElem_of_mem hp
              exact ((HV.out.2 n hn (by rw [← HV.out.1]; exact hn)).2.lt j e).2
            refine ⟨?_, ?_, ?_, (below_on HB4.out b6).grown g2 (by simp; omega) (fun j e => (q1 j e).1)⟩
            · rw [pz_append, pz_two, List.length_append]
              exact g1
            · refine Pv.push ((HV.out.later b6).grown g2 (fun p hp j e e2 => HAp.out p hp j e e2)) (K, a5, m, c5) (k + 1) (rest.take m) HKK.out ?_
              rw [HLM.out]
              exact own_kept (own_lower (own_later O5.out (below_alloc w5 _)) hwr) g2 (fun j e e2 => by have h1 := q1 j e2; have h2 := q2 j e; omega)
            · intro p hp j e1 e2
              rw [List.mem_append, List.mem_singleton] at hp
              rcases g3 with g3 | g3
              · rw [g3] at e2
                rcases hp with hp | rfl
                · exact HAp.out p hp j e1 e2
                · have h1 := q1 j e2
                  have h2 := q2 j e1
                  omega
              · rw [g3] at e2
                have e3 := Option.some.inj e2
                rcases hp with hp | rfl
                · have := q3 p hp j e1
                  omega
                · have h2 := q2 j e1
                  omega
          clear JC JF1 JH ho5 hb5 hlm
          go_wp2_with (at_builtin; refine wpList_append_own_at _ rfl _ _ 33 rfl w4.heap.size 32 i0 (.agg #[.int .i64 0, .slice none 0 0]) 2 32 Tryz.underlying33 hi0 hz0 hz1 hz2 rfl (by decide) _ L.length (pz L) rfl ((own_later HO.out B5.out).alloc _) ⟨w5.heap.size, 0, none⟩ 1 1 [.int .i64 K, .slice a5 m c5] rfl rfl ?c1 ?c2 (by unfold maxLen; omega) (by omega) ?c5 ?_)
          case c1 =>
            intro j u hj
            match j, hj with
            | 0, hj => simp at hj; subst hj; simp [Addr.add]
            | 1, hj => simp at hj; subst hj; simp [Addr.add]
          case c2 =>
            intro u hu
            simp at hu
            rcases hu with rfl | rfl <;> rfl
          case c5 =>
            have h1 := HB4.out.size
            have h2 := B5.out.size
            simp
            omega
          intro v' w' g1 g2 _ g3
          obtain ⟨r1, r2, r3, r4⟩ := HA.out v' w' g1 g2 g3
          have R1 := hide r1
          have R2 := hide r2
          have R3 := hide r3
          have R4 := hide r4
          clear g1 g2 g3 r1 r2 r3 r4 HA
          go_wp2_with fail
          go_roundw
          case rel =>
            refine ⟨k + 1, rest.drop m, L ++ [(K, a5, m, c5)], R ++ [(k + 1, rest.take m)], by omega, by have hKK := HKK.out; subst hKK; go_num, by rw [List.length_drop]; omega, ⟨?_, ?_⟩, by simp; omega, ?_, R1, R2, R3, R4⟩
            · rw [HP.out.1, HP2.out, List.append_assoc]
              rfl
            · rw [List.length_drop, HP.out.2, HF2.out]
              omega
            · by_cases hcm : c8 = m
              · rw [if_pos hcm]
                exact drop_jz h81 H82.out H83.out hmr ov (fun e => by omega)
              · rw [if_neg hcm]
                exact drop_jz h81 H82.out H83.out hmr (ov + m) (fun _ => rfl)
          case measure => have hKK := HKK.out; simp only [intOf]; omega
    · obtain rfl : k = ks.length := by omega
      have t1 : ¬ ((ks.length + 1 : Nat) : Int) ≤ (ks.length : Int) := by omega
      have hp := HP.out.1
      rw [List.drop_length] at hp
      have hp2 : partsL ks s 1 row = R := by rw [hp]; simp [partsL]
      have HP2 := hide hp2
      obtain ⟨a10, c10, rfl⟩ := own_len HO.out
      have hb4 := B4.out.size
      have HFin : Hid (wr.ownsRow w.heap.size 32 2 (.slice a10 L.length c10) L.length (pz L) ∧ Pv w.heap.size wr L (partsL ks s 1 row) ∧ Below w.heap.size w wr) := ⟨own_lower HO.out hb4, by rw [HP2.out]; exact ⟨HV.out.1, fun i h1 h2 => ⟨(HV.out.2 i h1 h2).1, own_lower (HV.out.2 i h1 h2).2 hb4⟩⟩, HB.out⟩
      clear hp hp2 HP2 HP JFd
      obtain ⟨K, hK⟩ : ∃ K : Int, K = ((ks.length + 1 : Nat) : Int) := ⟨_, rfl⟩
      rw [← hK] at t1 ⊢
      clear hK
      go_wp2_with fail
      go_ret
      exact ⟨_, rfl, L, HFin.out⟩
end
end Go.Proofs.YtafmiolehlagkaaGreat

/-
  World: what a whole world is, and that it stays one.
-/
namespace Go.Proofs.YtafmiolehlagkaaGreat
open Go.RowKit
set_option maxRecDepth 100000
theorem nodup_at {α : Type} {l : List α} (hn : l.Nodup) {i j : Nat} (hi : i < l.length) (hj : j < l.length) (h : l[i] = l[j]) : i = j := by
  have hp := List.pairwise_iff_getElem.1 hn
  rcases Nat.lt_trichotomy i j with c | c | c
  · exact absurd h (hp i j hi hj c)
  · exact c
  · exact absurd h.symm (hp j i hj hi c)
theorem mem_rem {α : Type} [Inhabited α] {l : List α} (hn : l.Nodup) {r : Nat} (hr : r < l.length) (e : α) : e ∈ rem l r ↔ e ∈ l ∧ e ≠ l[r] := by
  constructor
  · intro h
    obtain ⟨i, hi, rfl⟩ := List.getElem_of_mem h
    have hi2 := hi
    rw [rem_len] at hi2
    rw [rem_at l r i hr hi]
    by_cases c : i = r
    · rw [if_pos c]
      exact ⟨List.getElem_mem _, fun e => by have := nodup_at hn _ _ e; omega⟩
    · rw [if_neg c]
      exact ⟨List.getElem_mem _, fun e => c (nodup_at hn _ _ e)⟩
  · rintro ⟨h, hne⟩
    obtain ⟨j, hj, rfl⟩ := List.getElem_of_mem h
    have hjr : j ≠ r := fun e => hne (by subst e; rfl)
    by_cases c : j = l.length - 1
    · have hri : r < (rem l r).length := by rw [rem_len]; omega
      have := rem_at l r r hr hri
      rw [if_pos rfl] at this
      subst c
      rw [← this]
      exact List.getElem_mem _
    · have hji : j < (rem l r).length := by rw [rem_len]; omega
      have := rem_at l r j hr hji
      rw [if_neg hjr] at this
      rw [← this]
      exact List.getElem_mem _
theorem rem_nodup {α : Type} [Inhabited α] {l : List α} (hn : l.Nodup) {r : Nat} (hr : r < l.length) : (rem l r).Nodup := by
  refine List.pairwise_iff_getElem.2 (fun i j hi hj hij => ?_)
  have hi2 := hi
  have hj2 := hj
  rw [rem_len] at hi2 hj2
  rw [rem_at l r i hr hi, rem_at l r j hr hj]
  intro e
  by_cases c : i = r
  · rw [if_pos c, if_neg (by omega)] at e
    have := nodup_at hn _ _ e
    omega
  · rw [if_neg c] at e
    by_cases d : j = r
    · rw [if_pos d] at e
      have := nodup_at hn _ _ e
      omega
    · rw [if_neg d] at e
      have := nodup_at hn _ _ e
      omega
/-- A set of some of these kinds. -/
def Sb (ks : List Kind) (s : Nat) : Prop := ∀ k, s.testBit k = true → 1 ≤ k ∧ k ≤ ks.length
/-- A whole world: each is in the table of its set, and nowhere else; a table has as many columns as its set has fields, and a row at least. -/
def Wi (ks : List Kind) (f : Int × Int → Option Nat) (q : Nat → Option Nat) (T : Nat → Ts) : Prop :=
  (∀ e s, f e = some s → s < 8192 ∧ (∃ g, q s = some g) ∧ e ∈ (T s).1) ∧
  ∀ s g, q s = some g → (s < 8192 ∧ Sb ks s) ∧ (T s).2.length = fsum ks s 1 ∧ (T s).1.Nodup ∧ (∀ e ∈ (T s).1, f e = some s) ∧ (T s).1 ≠ [] ∧ ∀ c ∈ (T s).2, c.length = (T s).1.length
section
variable {ks : List Kind} {f : Int × Int → Option Nat} {q : Nat → Option Nat} {T : Nat → Ts}
theorem Wi.start (ks : List Kind) (T : Nat → Ts) : Wi ks (fun _ => none) (fun _ => none) T := ⟨fun _ _ h => (by cases h), fun _ _ h => (by cases h)⟩
theorem addRow_len (cols : List (List Int)) (vals : List Int) : (addRow cols vals).length = cols.length := pcol_len _ _ _
theorem remCols_len (cols : List (List Int)) (row : Nat) : (remCols cols row).length = cols.length := prem_len _ _ _
theorem addRow_at (cols : List (List Int)) (vals : List Int) (j : Nat) (hj : j < cols.length) (hj2 : j < (addRow cols vals).length) : (addRow cols vals)[j] = cols[j] ++ [vals.getD j 0] := (pcol_at cols vals cols.length j hj).trans (if_pos hj)
theorem remCols_at (cols : List (List Int)) (row j : Nat) (hj : j < cols.length) (hj2 : j < (remCols cols row).length) : (remCols cols row)[j] = rem cols[j] row := (prem_at cols row cols.length j hj).trans (if_pos hj)
/-- One goes. -/
theorem Wi.drop (h : Wi ks f q T) {e : Int × Int} {s r : Nat} (hf : f e = some s) (hr : r < (T s).1.length) (hx : (T s).1[r] = e) : Wi ks (fun x => if x = e then none else f x) (lessQ q T s) (lessT T s r) := by
  obtain ⟨h1, h2⟩ := h
  obtain ⟨hs, ⟨g, hg⟩, hm⟩ := h1 e s hf
  obtain ⟨k1, k2, k3, k4, k5, k6⟩ := h2 s g hg
  have hqs : ∀ s' g', lessQ q T s s' = some g' → q s' = some g' ∧ (s' = s → (T s).1.length ≠ 1) := fun s' g' e' => by
    unfold lessQ at e'
    by_cases c : (T s).1.length = 1
    · rw [if_pos c] at e'
      by_cases d : s' = s
      · rw [if_pos d] at e'; cases e'
      · rw [if_neg d] at e'
        exact ⟨e', fun x => absurd x d⟩
    · rw [if_neg c] at e'
      exact ⟨e', fun _ => c⟩
  refine ⟨fun x s' hx' => ?_, fun s' g' hg' => ?_⟩
  · dsimp only at hx' ⊢
    by_cases c : x = e
    · rw [if_pos c] at hx'; cases hx'
    · rw [if_neg c] at hx'
      obtain ⟨m1, ⟨g2, m2⟩, m3⟩ := h1 x s' hx'
      by_cases d : s' = s
      · subst d
        have hne : (T s').1.length ≠ 1 := fun e1 => by
          obtain ⟨j, hj, hjx⟩ := List.getElem_of_mem m3
          obtain rfl : j = r := by omega
          exact c (hjx.symm.trans hx)
        refine ⟨m1, ⟨g2, ?_⟩, ?_⟩
        · unfold lessQ
          rw [if_neg hne]
          exact m2
        · simp only [lessT, if_true]
          exact (mem_rem k3 hr x).2 ⟨m3, fun e' => c (e'.trans hx)⟩
      · refine ⟨m1, ⟨g2, ?_⟩, ?_⟩
        · unfold lessQ
          by_cases c1 : (T s).1.length = 1
          · rw [if_pos c1]
            exact (if_neg d).trans m2
          · rw [if_neg c1]
            exact m2
        · simp only [lessT, if_neg d]
          exact m3
  · obtain ⟨n1, n2⟩ := hqs s' g' hg'
    obtain ⟨m1, m2, m3, m4, m5, m6⟩ := h2 s' g' n1
    by_cases d : s' = s
    · subst d
      simp only [lessT, if_true]
      refine ⟨m1, (remCols_len _ _).trans m2, rem_nodup m3 hr, fun x hx' => ?_, fun e' => ?_, fun c hc => ?_⟩
      · obtain ⟨a1, a2⟩ := (mem_rem m3 hr x).1 hx'
        rw [if_neg (fun e' => a2 (e'.trans hx.symm))]
        exact m4 x a1
      · have := congrArg List.length e'
        rw [rem_len] at this
        have := n2 rfl
        simp at *
        omega
      · obtain ⟨j, hj, rfl⟩ := List.getElem_of_mem hc
        have hj2 := hj
        rw [remCols_len] at hj2
        rw [remCols_at _ _ _ hj2, rem_len, rem_len, m6 _ (List.getElem_mem hj2)]
    · simp only [lessT, if_neg d]
      refine ⟨m1, m2, m3, fun x hx' => ?_, m5, m6⟩
      rw [if_neg (fun e' => ?_)]
      · exact m4 x hx'
      · subst e'
        have := m4 x hx'
        rw [hf] at this
        exact d (Option.some.inj this).symm
/-- One comes. -/
theorem Wi.put (h : Wi ks f q T) {e : Int × Int} {s g : Nat} {vals : List Int} (hf : f e = none) (hs : s < 8192) (hsb : Sb ks s) (hv : vals.length = fsum ks s 1) : Wi ks (fun x => if x = e then some s else f x) (fun x => if x = s then some g else q x) (moreT q T s e vals) := by
  obtain ⟨h1, h2⟩ := h
  have hb : (baseT q T s vals.length).2.length = fsum ks s 1 ∧ (baseT q T s vals.length).1.Nodup ∧ (∀ x ∈ (baseT q T s vals.length).1, f x = some s) ∧ ∀ c ∈ (baseT q T s vals.length).2, c.length = (baseT q T s vals.length).1.length := by
    unfold baseT
    cases hq : q s with
    | none => simp [hv]
    | some g0 =>
      obtain ⟨_, k2, k3, k4, _, k6⟩ := h2 s g0 hq
      simp only [Option.isSome_some, if_true]
      exact ⟨k2, k3, k4, k6⟩
  obtain ⟨b1, b2, b3, b4⟩ := hb
  have hbm : ∀ x s', f x = some s' → s' = s → x ∈ (baseT q T s vals.length).1 := fun x s' hx e' => by
    subst e'
    obtain ⟨_, ⟨g2, m2⟩, m3⟩ := h1 x s' hx
    unfold baseT
    rw [m2]
    simpa using m3
  refine ⟨fun x s' hx' => ?_, fun s' g' hg' => ?_⟩
  · dsimp only at hx' ⊢
    by_cases c : x = e
    · rw [if_pos c] at hx'
      obtain rfl := Option.some.inj hx'
      exact ⟨hs, ⟨g, if_pos rfl⟩, by simp [moreT, c]⟩
    · rw [if_neg c] at hx'
      obtain ⟨m1, ⟨g2, m2⟩, m3⟩ := h1 x s' hx'
      by_cases d : s' = s
      · refine ⟨m1, ⟨g, if_pos d⟩, ?_⟩
        simp only [moreT, if_pos d, List.mem_append]
        exact .inl (hbm x s' hx' d)
      · refine ⟨m1, ⟨g2, (if_neg d).trans m2⟩, ?_⟩
        simp only [moreT, if_neg d]
        exact m3
  · dsimp only at hg' ⊢
    by_cases d : s' = s
    · subst d
      simp only [moreT, if_true]
      refine ⟨⟨hs, hsb⟩, (addRow_len _ _).trans b1, ?_, fun x hx' => ?_, by simp, fun c hc => ?_⟩
      · rw [List.nodup_append]
        refine ⟨b2, by simp, fun x hx' y hy e' => ?_⟩
        simp only [List.mem_singleton] at hy
        have := b3 x hx'
        rw [e', hy, hf] at this
        cases this
      · rcases List.mem_append.1 hx' with c | c
        · by_cases c2 : x = e
          · rw [if_pos c2]
          · rw [if_neg c2]
            exact b3 x c
        · rw [if_pos (List.mem_singleton.1 c)]
      · obtain ⟨j, hj, rfl⟩ := List.getElem_of_mem hc
        have hj2 := hj
        rw [addRow_len] at hj2
        rw [addRow_at _ _ _ hj2, List.length_append, List.length_append, b4 _ (List.getElem_mem hj2)]
        rfl
    · rw [if_neg d] at hg'
      obtain ⟨m1, m2, m3, m4, m5, m6⟩ := h2 s' g' hg'
      simp only [moreT, if_neg d]
      refine ⟨m1, m2, m3, fun x hx' => ?_, m5, m6⟩
      rw [if_neg (fun e' => ?_)]
      · exact m4 x hx'
      · subst e'
        have := m4 x hx'
        rw [hf] at this
        cases this
end
/-! ### Parts that may come -/
theorem bit_or (s k j : Nat) : (s ||| 2 ^ k).testBit j = (s.testBit j || decide (k = j)) := by
  rw [Nat.testBit_or, Nat.testBit_two_pow]
theorem fsum_low : ∀ (ks : List Kind) (s k k0 : Nat), k < k0 → fsum ks (s ||| 2 ^ k) k0 = fsum ks s k0
  | [], _, _, _, _ => rfl
  | kd :: t, s, k, k0, h => by
    simp only [fsum]
    rw [fsum_low t s k (k0 + 1) (by omega), bit_or, decide_eq_false (by omega), Bool.or_false]
theorem fsum_or : ∀ (ks : List Kind) (s k k0 : Nat), s.testBit k = false → k0 ≤ k → k < k0 + ks.length → fsum ks (s ||| 2 ^ k) k0 = fsum ks s k0 + (ks.getD (k - k0) (ByteArray.empty, [])).2.length
  | [], _, _, _, _, h1, h2 => by simp at h2; omega
  | kd :: t, s, k, k0, h0, h1, h2 => by
    simp only [fsum]
    by_cases c : k = k0
    · subst c
      rw [fsum_low t s k (k + 1) (by omega), bit_or, decide_eq_true rfl, Bool.or_true, h0]
      simp
      omega
    · rw [fsum_or t s k (k0 + 1) h0 (by omega) (by simp at h2; omega), bit_or, decide_eq_false c, Bool.or_false]
      have : k - k0 = (k - (k0 + 1)) + 1 := by omega
      rw [this, List.getD_cons_succ]
      omega
def nvals (l : List Pt) : Nat := l.foldl (fun n p => n + p.2.2.1) 0
theorem nvals_add : ∀ (l : List Pt) (n : Nat), l.foldl (fun n p => n + p.2.2.1) n = n + nvals l
  | [], n => rfl
  | p :: t, n => by
    show t.foldl (fun n p => n + p.2.2.1) (n + p.2.2.1) = n + t.foldl (fun n p => n + p.2.2.1) (0 + p.2.2.1)
    rw [nvals_add t (n + p.2.2.1), nvals_add t (0 + p.2.2.1)]
    omega
theorem nvals_cons (p : Pt) (t : List Pt) : nvals (p :: t) = p.2.2.1 + nvals t := by
  show t.foldl (fun n p => n + p.2.2.1) (0 + p.2.2.1) = _
  rw [nvals_add]
  omega
theorem nvals_flat {V : Pt → List Int} : ∀ (l : List Pt), (∀ p ∈ l, (V p).length = p.2.2.1) → (l.flatMap V).length = nvals l
  | [], _ => rfl
  | p :: t, h => by
    rw [List.flatMap_cons, List.length_append, nvals_cons, nvals_flat t (fun x hx => h x (List.mem_cons_of_mem _ hx)), h p (by simp)]
/-- What comes one behind the other: kinds that differ, and as many values as there are fields. -/
theorem come_all (ks : List Kind) : ∀ (l : List Pt) (s : Nat), comeL ks s l = 0 → (∀ p ∈ l, 1 ≤ p.1 ∧ p.1 ≤ (ks.length : Int) ∧ s.testBit p.1.toNat = false ∧ p.2.2.1 = (ks.getD (p.1.toNat - 1) (ByteArray.empty, [])).2.length) ∧ (l.map (fun p => p.1.toNat - 1)).Nodup ∧ fsum ks (l.foldl (fun s p => s ||| 2 ^ p.1.toNat) s) 1 = fsum ks s 1 + nvals l
  | [], s, _ => ⟨fun _ h => (by cases h), List.nodup_nil, rfl⟩
  | p :: t, s, h => by
    unfold comeL at h
    have h0 : comeS ks s p.1 p.2.2.1 = 0 := by
      by_cases c : comeS ks s p.1 p.2.2.1 = 0
      · exact c
      · rw [if_neg c] at h
        exact h
    rw [if_pos h0] at h
    obtain ⟨a1, a2, a3, a4⟩ := comeS_zero h0
    obtain ⟨b1, b2, b3⟩ := come_all ks t _ h
    refine ⟨fun x hx => ?_, ?_, ?_⟩
    · rcases List.mem_cons.1 hx with rfl | hx
      · exact ⟨a1, a2, a3, a4⟩
      · obtain ⟨c1, c2, c3, c4⟩ := b1 x hx
        rw [bit_or] at c3
        simp only [Bool.or_eq_false_iff] at c3
        exact ⟨c1, c2, c3.1, c4⟩
    · rw [List.map_cons, List.nodup_cons]
      refine ⟨fun hm => ?_, b2⟩
      obtain ⟨x, hx, e⟩ := List.mem_map.1 hm
      obtain ⟨c1, c2, c3, c4⟩ := b1 x hx
      rw [bit_or] at c3
      simp only [Bool.or_eq_false_iff, decide_eq_false_iff_not] at c3
      exact c3.2 (by omega)
    · rw [List.foldl_cons, b3, nvals_cons, fsum_or ks s p.1.toNat 1 a3 (by omega) (by omega), a4]
      omega
theorem come_twelve {ks : List Kind} {l : List Pt} (h : comeL ks 0 l = 0) (hk : ks.length ≤ 12) : l.length ≤ 12 ∧ (∀ p ∈ l, 1 ≤ p.1 ∧ p.1 ≤ 12) ∧ fsum ks (setOf l) 1 = nvals l := by
  obtain ⟨h1, h2, h3⟩ := come_all ks l 0 h
  refine ⟨?_, fun p hp => ⟨(h1 p hp).1, by have := (h1 p hp).2.1; omega⟩, ?_⟩
  · have := nodup_len 12 _ h2 (fun x hx => by
      obtain ⟨p, hp, rfl⟩ := List.mem_map.1 hx
      have := h1 p hp
      omega)
    rwa [List.length_map] at this
  · have e : ∀ (ks : List Kind) (k : Nat), fsum ks 0 k = 0 := fun ks => by
      induction ks with
      | nil => intro k; rfl
      | cons a t ih => intro k; simp [fsum, ih]
    show fsum ks (l.foldl (fun s p => s ||| 2 ^ p.1.toNat) 0) 1 = nvals l
    rw [h3, e]
    omega
theorem come_sb {ks : List Kind} {l : List Pt} (h : comeL ks 0 l = 0) : Sb ks (setOf l) := fun k hk => by
  rw [setOf_bit, List.any_eq_true] at hk
  obtain ⟨p, hp, e⟩ := hk
  have := (come_all ks l 0 h).1 p hp
  have := beq_iff_eq.1 e
  omega
/-! ### Parts, as they are told -/
theorem partsL_mem : ∀ (ks : List Kind) (s k0 : Nat) (vals : List Int) (r : Nat × List Int), r ∈ partsL ks s k0 vals → k0 ≤ r.1 ∧ r.1 < k0 + ks.length ∧ s.testBit r.1 = true
  | [], _, _, _, _, h => by cases h
  | kd :: t, s, k0, vals, r, h => by
    unfold partsL at h
    by_cases c : s.testBit k0 = true
    · rw [if_pos c] at h
      rcases List.mem_cons.1 h with rfl | h
      · exact ⟨Nat.le_refl _, by simp, c⟩
      · have := partsL_mem t s (k0 + 1) _ r h
        simp only [List.length_cons]
        exact ⟨by omega, by omega, this.2.2⟩
    · rw [if_neg c] at h
      have := partsL_mem t s (k0 + 1) _ r h
      simp only [List.length_cons]
      exact ⟨by omega, by omega, this.2.2⟩
theorem partsL_all : ∀ (ks : List Kind) (s k0 : Nat) (vals : List Int) (k : Nat), k0 ≤ k → k < k0 + ks.length → s.testBit k = true → ∃ r ∈ partsL ks s k0 vals, r.1 = k
  | [], _, _, _, _, h1, h2, _ => by simp at h2; omega
  | kd :: t, s, k0, vals, k, h1, h2, h3 => by
    unfold partsL
    by_cases e : k = k0
    · subst e
      rw [if_pos h3]
      exact ⟨_, List.mem_cons_self, rfl⟩
    · simp only [List.length_cons] at h2
      by_cases c : s.testBit k0 = true
      · rw [if_pos c]
        obtain ⟨r, hr, e2⟩ := partsL_all t s (k0 + 1) (vals.drop kd.2.length) k (by omega) (by omega) h3
        exact ⟨r, List.mem_cons_of_mem _ hr, e2⟩
      · rw [if_neg c]
        exact partsL_all t s (k0 + 1) vals k (by omega) (by omega) h3
theorem partsL_pair : ∀ (ks : List Kind) (s k0 : Nat) (vals : List Int), (partsL ks s k0 vals).Pairwise (fun x y => x.1 < y.1)
  | [], _, _, _ => List.Pairwise.nil
  | kd :: t, s, k0, vals => by
    unfold partsL
    by_cases c : s.testBit k0 = true
    · rw [if_pos c]
      refine List.Pairwise.cons (fun r hr => ?_) (partsL_pair t s (k0 + 1) _)
      have := (partsL_mem t s (k0 + 1) _ r hr).1
      dsimp only
      omega
    · rw [if_neg c]
      exact partsL_pair t s (k0 + 1) vals
theorem partsL_len : ∀ (ks : List Kind) (s k0 : Nat) (vals : List Int), vals.length = fsum ks s k0 → ∀ r ∈ partsL ks s k0 vals, r.2.length = (ks.getD (r.1 - k0) (ByteArray.empty, [])).2.length
  | [], _, _, _, _, _, h => by cases h
  | kd :: t, s, k0, vals, hv, r, h => by
    unfold partsL at h
    unfold fsum at hv
    by_cases c : s.testBit k0 = true
    · rw [if_pos c] at h hv
      rcases List.mem_cons.1 h with rfl | h
      · simp only [Nat.sub_self, List.getD_cons_zero, List.length_take]
        omega
      · have h1 := partsL_len t s (k0 + 1) _ (by rw [List.length_drop]; omega) r h
        have h2 := (partsL_mem t s (k0 + 1) _ r h).1
        rw [h1, show r.1 - k0 = (r.1 - (k0 + 1)) + 1 by omega, List.getD_cons_succ]
    · rw [if_neg c] at h hv
      have h1 := partsL_len t s (k0 + 1) _ (by omega) r h
      have h2 := (partsL_mem t s (k0 + 1) _ r h).1
      rw [h1, show r.1 - k0 = (r.1 - (k0 + 1)) + 1 by omega, List.getD_cons_succ]
theorem partsL_flat : ∀ (ks : List Kind) (s k0 : Nat) (vals : List Int), vals.length = fsum ks s k0 → (partsL ks s k0 vals).flatMap (·.2) = vals
  | [], _, _, vals, hv => by
    simp [fsum] at hv
    simp [partsL, hv]
  | kd :: t, s, k0, vals, hv => by
    unfold partsL
    unfold fsum at hv
    by_cases c : s.testBit k0 = true
    · rw [if_pos c] at hv ⊢
      rw [List.flatMap_cons, partsL_flat t s (k0 + 1) _ (by rw [List.length_drop]; omega), List.take_append_drop]
    · rw [if_neg c] at hv ⊢
      exact partsL_flat t s (k0 + 1) vals (by omega)
/-- Parts that rise are told as they are. -/
theorem parts_of (V : Pt → List Int) : ∀ (ks : List Kind) (s k0 : Nat) (l : List Pt), (∀ p ∈ l, (k0 : Int) ≤ p.1 ∧ p.1 < ((k0 + ks.length : Nat) : Int) ∧ (V p).length = (ks.getD (p.1.toNat - k0) (ByteArray.empty, [])).2.length) → l.Pairwise (fun x y => x.1 < y.1) → (∀ k, k0 ≤ k → k < k0 + ks.length → (s.testBit k = true ↔ ∃ p ∈ l, p.1.toNat = k)) → partsL ks s k0 (l.flatMap V) = l.map (fun p => (p.1.toNat, V p))
  | [], s, k0, l, h1, _, _ => by
    cases l with
    | nil => rfl
    | cons p t =>
      have := h1 p (by simp)
      simp only [List.length_nil, Nat.add_zero] at this
      omega
  | kd :: t, s, k0, l, h1, h2, h3 => by
    unfold partsL
    by_cases c : s.testBit k0 = true
    · rw [if_pos c]
      obtain ⟨p, hp, hpk⟩ := (h3 k0 (Nat.le_refl _) (by simp)).1 c
      cases l with
      | nil => cases hp
      | cons p0 rest =>
        have hh := List.pairwise_cons.1 h2
        have hp0 : p = p0 := by
          rcases List.mem_cons.1 hp with e | e
          · exact e
          · have a1 := hh.1 p e
            have a2 := h1 p0 (by simp)
            have a3 := h1 p hp
            omega
        subst hp0
        have hl := (h1 p (by simp)).2.2
        rw [hpk, Nat.sub_self, List.getD_cons_zero] at hl
        rw [List.flatMap_cons, ← hl, List.take_left' rfl, List.drop_left' rfl, List.map_cons, hpk]
        congr 1
        refine parts_of V t s (k0 + 1) rest (fun x hx => ?_) hh.2 (fun k k1 k2 => ?_)
        · have a1 := h1 x (List.mem_cons_of_mem _ hx)
          have a2 := hh.1 x hx
          have a3 := h1 p (by simp)
          simp only [List.length_cons] at a1
          refine ⟨by omega, by omega, ?_⟩
          rw [a1.2.2, show x.1.toNat - k0 = (x.1.toNat - (k0 + 1)) + 1 by omega, List.getD_cons_succ]
        · rw [h3 k (by omega) (by simp only [List.length_cons]; omega)]
          constructor
          · rintro ⟨x, hx, e⟩
            rcases List.mem_cons.1 hx with rfl | hx
            · omega
            · exact ⟨x, hx, e⟩
          · rintro ⟨x, hx, e⟩
            exact ⟨x, List.mem_cons_of_mem _ hx, e⟩
    · rw [if_neg c]
      have hne : ∀ p ∈ l, p.1.toNat ≠ k0 := fun p hp e => c ((h3 k0 (Nat.le_refl _) (by simp)).2 ⟨p, hp, e⟩)
      refine parts_of V t s (k0 + 1) l (fun x hx => ?_) h2 (fun k k1 k2 => h3 k (by omega) (by simp only [List.length_cons]; omega))
      have a1 := h1 x hx
      have a2 := hne x hx
      simp only [List.length_cons] at a1
      refine ⟨by omega, by omega, ?_⟩
      rw [a1.2.2, show x.1.toNat - k0 = (x.1.toNat - (k0 + 1)) + 1 by omega, List.getD_cons_succ]
theorem fsum_le : ∀ (ks : List Kind) (s k : Nat), (∀ x ∈ ks, x.2.length ≤ 4) → fsum ks s k ≤ 4 * ks.length
  | [], _, _, _ => Nat.zero_le _
  | a :: t, s, k, h => by
    have h1 := h a (by simp)
    have h2 := fsum_le t s (k + 1) (fun x hx => h x (List.mem_cons_of_mem _ hx))
    simp only [fsum, List.length_cons]
    split <;> omega
end Go.Proofs.YtafmiolehlagkaaGreat

/-
  World: rows are put in order by their numbers: slices.SortFunc at rows, laid.
-/
namespace Go.Proofs.YtafmiolehlagkaaGreat
open Go.RowKit Go.Shelf Go.Lib Go.Sort
set_option maxRecDepth 100000
def renR : Ren := ⟨fun x => if x = 6 then 82 else if x = 14 then 153 else if x = 15 then 154 else if x = 20 then 184 else if x = 21 then 185 else if x = 22 then 186 else if x = 23 then 187 else if x = 24 then 188 else if x = 25 then 189 else if x = 26 then 190 else if x = 27 then 191 else if x = 28 then 192 else if x = 29 then 165 else if x = 46 then 213 else if x = 47 then 214 else if x = 48 then 215 else if x = 49 then 216 else if x = 50 then 217 else if x = 57 then 222 else x, fun x => if x = 22 then 78 else if x = 24 then 87 else if x = 25 then 145 else if x = 39 then 211 else if x = 45 then 230 else if x = 46 then 231 else if x = 50 then 176 else if x = 53 then 237 else if x = 55 then 165 else if x = 66 then 248 else if x = 70 then 252 else if x = 76 then 258 else if x = 77 then 166 else x, fun x => x⟩
set_option maxHeartbeats 8000000 in
theorem laidR : SlLaysF0.n6 Tryz.prog renR where
  mixed := by kernel_rfl
  f6 := ⟨"slices.SortFunc[[]hindcast/api.Row,hindcast/api.Row]", by decide, by kernel_rfl⟩
  f14 := ⟨"slices.pdqsortCmpFunc[hindcast/api.Row]", by decide, by kernel_rfl⟩
  f15 := by kernel_rfl
  f20 := ⟨"slices.insertionSortCmpFunc[hindcast/api.Row]", by decide, by kernel_rfl⟩
  f21 := ⟨"slices.heapSortCmpFunc[hindcast/api.Row]", by decide, by kernel_rfl⟩
  f22 := ⟨"slices.breakPatternsCmpFunc[hindcast/api.Row]", by decide, by kernel_rfl⟩
  f23 := ⟨"slices.choosePivotCmpFunc[hindcast/api.Row]", by decide, by kernel_rfl⟩
  f24 := ⟨"slices.reverseRangeCmpFunc[hindcast/api.Row]", by decide, by kernel_rfl⟩
  f25 := ⟨"slices.partialInsertionSortCmpFunc[hindcast/api.Row]", by decide, by kernel_rfl⟩
  f26 := ⟨"slices.partitionEqualCmpFunc[hindcast/api.Row]", by decide, by kernel_rfl⟩
  f27 := ⟨"slices.partitionCmpFunc[hindcast/api.Row]", by decide, by kernel_rfl⟩
  f28 := by kernel_rfl
  f29 := by kernel_rfl
  f46 := ⟨"slices.siftDownCmpFunc[hindcast/api.Row]", by decide, by kernel_rfl⟩
  f47 := by kernel_rfl
  f48 := by kernel_rfl
  f49 := ⟨"slices.medianAdjacentCmpFunc[hindcast/api.Row]", by decide, by kernel_rfl⟩
  f50 := ⟨"slices.medianCmpFunc[hindcast/api.Row]", by decide, by kernel_rfl⟩
  f57 := ⟨"slices.order2CmpFunc[hindcast/api.Row]", by decide, by kernel_rfl⟩
  t0 := by kernel_rfl
  a0 := fun w => by kernel_rfl
  z0 := fun w => by kernel_rfl
  v0 := fun w => by kernel_rfl
  t3 := by kernel_rfl
  a3 := fun w => by kernel_rfl
  z3 := fun w => by kernel_rfl
  v3 := fun w => by kernel_rfl
  t4 := by kernel_rfl
  a4 := fun w => by kernel_rfl
  z4 := fun w => by kernel_rfl
  v4 := fun w => by kernel_rfl
  t5 := by kernel_rfl
  a5 := fun w => by kernel_rfl
  z5 := fun w => by kernel_rfl
  v5 := fun w => by kernel_rfl
  t9 := by kernel_rfl
  a9 := fun w => by kernel_rfl
  z9 := fun w => by kernel_rfl
  v9 := fun w => by kernel_rfl
  t22 := by kernel_rfl
  a22 := fun w => by kernel_rfl
  z22 := fun w => by kernel_rfl
  v22 := fun w => by kernel_rfl
  t25 := by kernel_rfl
  a25 := fun w => by kernel_rfl
  z25 := fun w => by kernel_rfl
  v25 := fun w => by kernel_rfl
  t39 := by kernel_rfl
  a39 := fun w => by kernel_rfl
  z39 := fun w => by kernel_rfl
  v39 := fun w => by kernel_rfl
  t45 := by kernel_rfl
  a45 := fun w => by kernel_rfl
  z45 := fun w => by kernel_rfl
  v45 := fun w => by kernel_rfl
  t46 := by kernel_rfl
  a46 := fun w => by kernel_rfl
  z46 := fun w => by kernel_rfl
  v46 := fun w => by kernel_rfl
  t50 := by kernel_rfl
  a50 := fun w => by kernel_rfl
  z50 := fun w => by kernel_rfl
  v50 := fun w => by kernel_rfl
  t53 := by kernel_rfl
  a53 := fun w => by kernel_rfl
  z53 := fun w => by kernel_rfl
  v53 := fun w => by kernel_rfl
  t55 := by kernel_rfl
  a55 := fun w => by kernel_rfl
  z55 := fun w => by kernel_rfl
  v55 := fun w => by kernel_rfl
  t66 := by kernel_rfl
  a66 := fun w => by kernel_rfl
  z66 := fun w => by kernel_rfl
  v66 := fun w => by kernel_rfl
  t70 := by kernel_rfl
  a70 := fun w => by kernel_rfl
  z70 := fun w => by kernel_rfl
  v70 := fun w => by kernel_rfl
  t76 := by kernel_rfl
  a76 := fun w => by kernel_rfl
  z76 := fun w => by kernel_rfl
  v76 := fun w => by kernel_rfl
  t77 := by kernel_rfl
  a77 := fun w => by kernel_rfl
  z77 := fun w => by kernel_rfl
  v77 := fun w => by kernel_rfl
end Go.Proofs.YtafmiolehlagkaaGreat
