import Derived.Test.YtfbhoemfabgjpaaGreatMgAI
import Derived.Test.YtfbhoemfabgjpaaGreatITake
/-
  World: an entity comes.
-/
namespace Go.Proofs.YtfbhoemfabgjpaaGreat
open Go.RowKit
set_option maxRecDepth 100000
/-- What is wrong with parts that are to come, one behind the other. -/
def comeL (ks : List Kind) : Nat → List Pt → Int
  | _, [] => 0
  | s, p :: t => if comeS ks s p.1 p.2.2.1 = 0 then comeL ks (s ||| 2 ^ p.1.toNat) t else comeS ks s p.1 p.2.2.1
theorem comeL_at (ks : List Kind) (l : List Pt) (i : Nat) (hi : i < l.length) (s : Nat) : comeL ks s (l.drop i) = if comeS ks s l[i].1 l[i].2.2.1 = 0 then comeL ks (s ||| 2 ^ l[i].1.toNat) (l.drop (i + 1)) else comeS ks s l[i].1 l[i].2.2.1 := by
  rw [List.drop_eq_getElem_cons hi]
  rfl
theorem comeS_zero {ks : List Kind} {s : Nat} {x : Int} {n : Nat} (h : comeS ks s x n = 0) : 1 ≤ x ∧ x ≤ (ks.length : Int) ∧ s.testBit x.toNat = false ∧ n = (ks.getD (x.toNat - 1) (ByteArray.empty, [])).2.length := by
  unfold comeS at h
  split at h
  · rename_i h1
    split at h
    · cases h
    · rename_i h2
      split at h
      · rename_i h3
        exact ⟨h1.1, h1.2, by simpa using h2, h3⟩
      · cases h
  · cases h
theorem part_cells {w w0 : World} {g o i : Nat} {l : List Pt} (h : ∀ j u, (pz l)[j]? = some u → w0.cell? ⟨g, o + j, none⟩ = some u) (hb : Below w0.heap.size w0 w) (hi : i < l.length) : w.cell? ⟨g, o + i * 2, none⟩ = some (.int .i64 l[i].1) ∧ w.cell? ⟨g, o + i * 2 + 1, none⟩ = some (ptV l[i]) := by
  obtain ⟨e1, e2⟩ := pz_at l i hi
  have a1 := h _ _ e1
  have a2 := h _ _ e2
  exact ⟨(hb.cell (p := ⟨g, o + i * 2, none⟩) (World.block_lt_of_cell? _ _ a1)).trans a1, (hb.cell (p := ⟨g, o + i * 2 + 1, none⟩) (World.block_lt_of_cell? _ _ a2)).trans a2⟩
theorem below_set {w W : World} {kr i : Nat} {u : Value} (h : Below w.heap.size w W) (hk : w.heap.size ≤ kr) : Below w.heap.size w (W.setCell ⟨kr, i, none⟩ u) := h.grown (grown_set W kr i u) h.size (fun k e => by cases e; exact hk)
theorem Rp.frame {w w' : World} {v : Value} {l : List Pt} {S : Nat → Prop} (h : Rp w v l) (hm : Mv w w' S) (hs : ∀ k, v.ownBlock = some k → ¬ S k) : Rp w' v l := by
  rcases h with h | ⟨g, o, c, rfl, h1, h2, h3⟩
  · exact .inl h
  · exact .inr ⟨g, o, c, rfl, h1, h2, fun j u hj => hm.cell (h3 j u hj) (hs g rfl)⟩
section
variable {w w' : World} {own : Nat → Nat} {gw gp gm gt M M' : Nat} {vk : Value} {ks : List Kind} {gs fr gs' fr' : List Nat} {f f' : Int × Int → Option Nat} {q q' : Nat → Option Nat} {T T' : Nat → Ts}
set_option maxHeartbeats 4000000 in
theorem spawn_bad (h : Wx 0 w own gw vk gp gm gt M ks gs fr f q T) (v : Value) (l : List Pt) (hv : Rp w v l) (hks : ks.length ≤ 12) (hcome : comeL ks 0 l ≠ 0) :
    Calls Tryz.prog 39 #[.pointer (some ⟨gw, 0, none⟩), v] w fun e w' => e = .returned (.tuple #[.agg #[.int .i64 0, .int .i64 0], .int .i64 (comeL ks 0 l)]) ∧ Below w.heap.size w w' := by
  obtain ⟨ao, c, rfl⟩ : ∃ ao c, v = .slice ao l.length c := by
    rcases hv with ⟨rfl, rfl⟩ | ⟨g, o, c, rfl, -⟩
    · exact ⟨_, _, rfl⟩
    · exact ⟨_, _, rfl⟩
  have H := hide h
  have RP := hide hv
  have HC := hide hcome
  have HKS := hide hks
  clear h hv hcome hks
  obtain ⟨w0, hw0⟩ : ∃ X, X = w.alloc (.cells #[.int .i64 0, .int .i64 0] 34) := ⟨_, rfl⟩
  have B0 : Hid (Below w.heap.size w w0) := hw0 ▸ below_alloc w _
  have hx0 : w0.heap[w.heap.size]? = some (.cells #[.int .i64 0, .int .i64 0] 34 (0, 0)) := hw0 ▸ heap_alloc_new w _
  go_enter Tryz.func39, Tryz.ntmps39
  go_wp2_with fail
  rw [← hw0]
  obtain ⟨kr, hkr⟩ : ∃ k, k = w.heap.size := ⟨_, rfl⟩
  rw [← hkr] at hx0 ⊢
  have HX0 : Hid (w0.heap[kr]? = some (.cells #[.int .i64 0, .int .i64 0] 34 (0, 0)) ∧ w.heap.size ≤ kr) := ⟨hx0, by omega⟩
  clear hw0 hx0 hkr
  go_loopw [6, 14] (fun v6 v14 W => ∃ i : Nat, i ≤ l.length ∧ v14 = .int .i64 (i : Int) ∧ v6 = .int .i64 ((setOf (l.take i) : Nat) : Int) ∧ Hid (comeL ks 0 l = comeL ks (setOf (l.take i)) (l.drop i)) ∧ Hid (∀ p ∈ l.take i, 1 ≤ p.1 ∧ p.1 ≤ 12) ∧ Hid (Below w0.heap.size w0 W)) (fun _ v14 _ => l.length - (intOf v14).toNat)
  case atStart => exact ⟨0, Nat.zero_le _, rfl, rfl, rfl, fun p hp => by simp at hp, Below.refl _ _⟩
  case round =>
    obtain ⟨i, hil, rfl, rfl, HE, HK, HB⟩ := hrel
    by_cases hlt : i < l.length
    · have t1 : (i : Int) < (l.length : Int) := by omega
      have hW := below_on B0.out HB.out
      obtain ⟨g, o, rfl, hcap, hbig, e1, e2⟩ : ∃ g o, ao = some ⟨g, o, none⟩ ∧ l.length ≤ c ∧ c ≤ 9223372036854775807 ∧ wr.cell? ⟨g, o + i * 2, none⟩ = some (.int .i64 l[i].1) ∧ wr.cell? ⟨g, o + i * 2 + 1, none⟩ = some (ptV l[i]) := by
        rcases RP.out with ⟨-, rfl⟩ | ⟨g, o, c', e, h1, h2, h3⟩
        · exact absurd hlt (by simp)
        · simp only [Value.slice.injEq] at e
          obtain ⟨rfl, -, rfl⟩ := e
          exact ⟨g, o, rfl, h1, by unfold maxLen at h2; omega, part_cells h3 hW hlt⟩
      have hs1 := hide (set_push l i hlt)
      have hsl : setOf (l.take i) < 8192 := setOf_lt _ HK.out
      have hcl := comeL_at ks l i hlt (setOf (l.take i))
      rw [← HE.out] at hcl
      have HM1 : Hid (∀ p ∈ l.take (i + 1), p ∈ l.take i ∨ p = l[i]) := fun p hp => by
        rw [List.take_succ_eq_append_getElem hlt] at hp
        simp only [List.mem_append, List.mem_singleton] at hp
        exact hp
      generalize setOf (l.take i) = S at *
      generalize l[i] = p at *
      obtain ⟨x, av, nv, cv⟩ := p
      unfold ptV at e2
      dsimp only at e1 e2 hcl hs1
      have JM : Hid (∀ W, Below w0.heap.size w0 W → Calls Tryz.prog 65 #[.pointer (some ⟨gw, 0, none⟩), .int .i64 (S : Int), .agg #[.int .i64 x, .slice av nv cv]] W fun e w' => e = .returned (.int .i64 (comeS ks S x nv)) ∧ Below W.heap.size W w') := fun W hW => by
        have hx := H.out.later (below_on B0.out hW)
        exact maycome_any hx.2.2.1 hx.2.2.2.1.kr HKS.out S hsl x av nv cv
      have JM1 := hide (JM.out (wr.alloc (.cells #[.int .i64 x, .slice av nv cv] 51)) (below_on HB.out (below_alloc wr _)))
      have HCL := hide hcl
      clear JM hcl hW HE
      by_cases hz : comeS ks S x nv = 0
      · have hzz := comeS_zero hz
        rw [hz] at JM1
        have hcl2 := HCL.out
        rw [if_pos hz] at hcl2
        have HCL2 := hide hcl2
        obtain ⟨k, rfl⟩ : ∃ k : Nat, x = (k : Int) := ⟨x.toNat, by omega⟩
        have hk1 : 1 ≤ k ∧ k ≤ 12 := by have := HKS.out; omega
        have HOR := hide (or_set S k hsl hk1.2)
        have t2 : ¬ (k : Int) < 0 := by omega
        rw [Int.toNat_natCast] at hs1 HCL2
        clear hz hzz hcl2 HCL
        go_wp2_with fail
        refine JM1.out.mono ?_
        rintro e w5 ⟨rfl, hb5⟩
        have HB5 := hide (below_on (below_on HB.out (below_alloc wr _)) hb5)
        have p0 : w5.cell? ⟨wr.heap.size, 0, none⟩ = some (.int .i64 (k : Int)) := by
          rw [hb5.cell (p := ⟨wr.heap.size, 0, none⟩) (by simp)]
          rw [cell_of_row _ wr.heap.size _ _ 51 (0, 0) (heap_alloc_new wr _)]
          rfl
        clear hb5 JM1
        go_wp2_with fail
        go_roundw
        case rel =>
          refine ⟨i + 1, by omega, by go_num, by rw [hs1.out]; exact val_int HOR.out, ?_, ?_, HB5⟩
          · rw [hs1.out]
            exact HCL2
          · intro p hp
            rcases HM1.out p hp with hp | rfl
            · exact HK.out p hp
            · dsimp only
              omega
        case measure => simp [intOf]; omega
      · have hcl2 := HCL.out
        rw [if_neg hz] at hcl2
        have HCL2 := hide hcl2
        generalize comeS ks S x nv = z at *
        have hz1 : (z == 0) = false := by rw [beq_eq_false_iff_ne]; exact hz
        clear HCL hcl2
        go_wp2_with fail
        refine JM1.out.mono ?_
        rintro e w5 ⟨rfl, hb5⟩
        have HB5 := hide (below_on (below_on HB.out (below_alloc wr _)) hb5)
        have hx5 : w5.heap[kr]? = some (.cells #[.int .i64 0, .int .i64 0] 34 (0, 0)) := (HB5.out.block kr (lt_of_block HX0.out.1)).trans HX0.out.1
        have fz := frozen_of_row w5 kr 0 _ 34 hx5
        have fz1 := frozen_of_row w5 kr 1 _ 34 hx5
        obtain ⟨z0, z1⟩ := kx_cells hx5 (Below.refl _ w5)
        have hz2 : (z != 0) = true := by rw [bne_iff_ne]; exact hz
        clear hb5 JM1
        go_wp2_with fail
        (try simp only [Exit.inBlock, Exit.then])
        have hb7 : Below w.heap.size w ((w5.setCell ⟨kr, 0, none⟩ (.int .i64 0)).setCell ⟨kr, 1, none⟩ (.int .i64 0)) := below_set (below_set (below_on B0.out HB5.out) HX0.out.2) HX0.out.2
        have HB7 := hide hb7
        have hx7 : w5.heap[kr]? = some (.cells #[.int .i64 0, .int .i64 0] 34 (0, 0)) := hx5
        refine bodyPost_ret (v := .tuple #[.agg #[.int .i64 0, .int .i64 0], .int .i64 z]) ?_ rfl ⟨by rw [HCL2.out], HB7.out⟩
        rw [results_cell_tmp rfl]
        go_simp
    · obtain rfl : i = l.length := by omega
      have := HE.out
      rw [List.drop_length] at this
      exact absurd this HC.out
set_option maxHeartbeats 4000000 in
theorem spawn_full (h : Wx 0 w own gw vk gp gm gt M ks gs fr f q T) (v : Value) (l : List Pt) (hv : Rp w v l) (hks : ks.length ≤ 12) (hcome : comeL ks 0 l = 0) (hfr : fr = []) (hgs : gs.length = 200) :
    Calls Tryz.prog 39 #[.pointer (some ⟨gw, 0, none⟩), v] w fun e w' => e = .returned (.tuple #[.agg #[.int .i64 0, .int .i64 0], .int .i64 40]) ∧ Below w.heap.size w w' := by
  obtain ⟨ao, c, rfl⟩ : ∃ ao c, v = .slice ao l.length c := by
    rcases hv with ⟨rfl, rfl⟩ | ⟨g, o, c, rfl, -⟩
    · exact ⟨_, _, rfl⟩
    · exact ⟨_, _, rfl⟩
  have H := hide h
  have RP := hide hv
  have HC := hide hcome
  have HKS := hide hks
  clear h hv hcome hks
  obtain ⟨w0, hw0⟩ : ∃ X, X = w.alloc (.cells #[.int .i64 0, .int .i64 0] 34) := ⟨_, rfl⟩
  have B0 : Hid (Below w.heap.size w w0) := hw0 ▸ below_alloc w _
  have hx0 : w0.heap[w.heap.size]? = some (.cells #[.int .i64 0, .int .i64 0] 34 (0, 0)) := hw0 ▸ heap_alloc_new w _
  go_enter Tryz.func39, Tryz.ntmps39
  go_wp2_with fail
  rw [← hw0]
  obtain ⟨kr, hkr⟩ : ∃ k, k = w.heap.size := ⟨_, rfl⟩
  rw [← hkr] at hx0 ⊢
  have HX0 : Hid (w0.heap[kr]? = some (.cells #[.int .i64 0, .int .i64 0] 34 (0, 0)) ∧ w.heap.size ≤ kr) := ⟨hx0, by omega⟩
  clear hw0 hx0 hkr
  go_loopw [6, 14] (fun v6 v14 W => ∃ i : Nat, i ≤ l.length ∧ v14 = .int .i64 (i : Int) ∧ v6 = .int .i64 ((setOf (l.take i) : Nat) : Int) ∧ Hid (comeL ks 0 l = comeL ks (setOf (l.take i)) (l.drop i)) ∧ Hid (∀ p ∈ l.take i, 1 ≤ p.1 ∧ p.1 ≤ 12) ∧ Hid (Below w0.heap.size w0 W)) (fun _ v14 _ => l.length - (intOf v14).toNat)
  case atStart => exact ⟨0, Nat.zero_le _, rfl, rfl, rfl, fun p hp => by simp at hp, Below.refl _ _⟩
  case round =>
    obtain ⟨i, hil, rfl, rfl, HE, HK, HB⟩ := hrel
    by_cases hlt : i < l.length
    · have t1 : (i : Int) < (l.length : Int) := by omega
      have hW := below_on B0.out HB.out
      obtain ⟨g, o, rfl, hcap, hbig, e1, e2⟩ : ∃ g o, ao = some ⟨g, o, none⟩ ∧ l.length ≤ c ∧ c ≤ 9223372036854775807 ∧ wr.cell? ⟨g, o + i * 2, none⟩ = some (.int .i64 l[i].1) ∧ wr.cell? ⟨g, o + i * 2 + 1, none⟩ = some (ptV l[i]) := by
        rcases RP.out with ⟨-, rfl⟩ | ⟨g, o, c', e, h1, h2, h3⟩
        · exact absurd hlt (by simp)
        · simp only [Value.slice.injEq] at e
          obtain ⟨rfl, -, rfl⟩ := e
          exact ⟨g, o, rfl, h1, by unfold maxLen at h2; omega, part_cells h3 hW hlt⟩
      have hs1 := hide (set_push l i hlt)
      have hsl : setOf (l.take i) < 8192 := setOf_lt _ HK.out
      have hcl := comeL_at ks l i hlt (setOf (l.take i))
      rw [← HE.out] at hcl
      have HM1 : Hid (∀ p ∈ l.take (i + 1), p ∈ l.take i ∨ p = l[i]) := fun p hp => by
        rw [List.take_succ_eq_append_getElem hlt] at hp
        simp only [List.mem_append, List.mem_singleton] at hp
        exact hp
      generalize setOf (l.take i) = S at *
      generalize l[i] = p at *
      obtain ⟨x, av, nv, cv⟩ := p
      unfold ptV at e2
      dsimp only at e1 e2 hcl hs1
      have JM : Hid (∀ W, Below w0.heap.size w0 W → Calls Tryz.prog 65 #[.pointer (some ⟨gw, 0, none⟩), .int .i64 (S : Int), .agg #[.int .i64 x, .slice av nv cv]] W fun e w' => e = .returned (.int .i64 (comeS ks S x nv)) ∧ Below W.heap.size W w') := fun W hW => by
        have hx := H.out.later (below_on B0.out hW)
        exact maycome_any hx.2.2.1 hx.2.2.2.1.kr HKS.out S hsl x av nv cv
      have JM1 := hide (JM.out (wr.alloc (.cells #[.int .i64 x, .slice av nv cv] 51)) (below_on HB.out (below_alloc wr _)))
      have HCL := hide hcl
      clear JM hcl hW HE
      by_cases hz : comeS ks S x nv = 0
      · have hzz := comeS_zero hz
        rw [hz] at JM1
        have hcl2 := HCL.out
        rw [if_pos hz] at hcl2
        have HCL2 := hide hcl2
        obtain ⟨k, rfl⟩ : ∃ k : Nat, x = (k : Int) := ⟨x.toNat, by omega⟩
        have hk1 : 1 ≤ k ∧ k ≤ 12 := by have := HKS.out; omega
        have HOR := hide (or_set S k hsl hk1.2)
        have t2 : ¬ (k : Int) < 0 := by omega
        rw [Int.toNat_natCast] at hs1 HCL2
        clear hz hzz hcl2 HCL
        go_wp2_with fail
        refine JM1.out.mono ?_
        rintro e w5 ⟨rfl, hb5⟩
        have HB5 := hide (below_on (below_on HB.out (below_alloc wr _)) hb5)
        have p0 : w5.cell? ⟨wr.heap.size, 0, none⟩ = some (.int .i64 (k : Int)) := by
          rw [hb5.cell (p := ⟨wr.heap.size, 0, none⟩) (by simp)]
          rw [cell_of_row _ wr.heap.size _ _ 51 (0, 0) (heap_alloc_new wr _)]
          rfl
        clear hb5 JM1
        go_wp2_with fail
        go_roundw
        case rel =>
          refine ⟨i + 1, by omega, by go_num, by rw [hs1.out]; exact val_int HOR.out, ?_, ?_, HB5⟩
          · rw [hs1.out]
            exact HCL2
          · intro p hp
            rcases HM1.out p hp with hp | rfl
            · exact HK.out p hp
            · dsimp only
              omega
        case measure => simp [intOf]; omega
      · exact absurd (HCL.out.symm.trans HC.out) (by rw [if_neg hz]; exact hz)
    · obtain rfl : i = l.length := by omega
      have h4 := H.out.later (below_on B0.out HB.out)
      obtain ⟨-, c1, -, -⟩ := h4.cells
      have JT : Hid (Calls Tryz.prog 66 #[.pointer (some ⟨gp, 0, none⟩)] wr fun e w' => e = .returned (.tuple #[.agg #[.int .i64 0, .int .i64 0], .int .i64 40]) ∧ Below wr.heap.size wr w') := by
        have hp := h4.pl
        rw [hfr, ← hgs] at hp
        exact take_full hp
      have t1 : ¬ (l.length : Int) < (l.length : Int) := by omega
      clear h4 hfr hgs HE HK
      go_wp2_with fail
      refine JT.out.mono ?_
      rintro e w5 ⟨rfl, hb5⟩
      have HB5 := hide (below_on HB.out hb5)
      have HB6 := hide (below_on HB5.out (below_alloc w5 (.cells #[.int .i64 0, .int .i64 0] 34)))
      have hx5 : (w5.alloc (.cells #[.int .i64 0, .int .i64 0] 34)).heap[kr]? = some (.cells #[.int .i64 0, .int .i64 0] 34 (0, 0)) := (HB6.out.block kr (lt_of_block HX0.out.1)).trans HX0.out.1
      have fz := frozen_of_row _ kr 0 _ 34 hx5
      have fz1 := frozen_of_row _ kr 1 _ 34 hx5
      obtain ⟨z0, z1⟩ := kx_cells hx5 (Below.refl _ _)
      clear hb5 JT c1
      go_wp2_with fail
      (try simp only [Exit.inBlock, Exit.then])
      have hb7 : Below w.heap.size w (((w5.alloc (.cells #[.int .i64 0, .int .i64 0] 34)).setCell ⟨kr, 0, none⟩ (.int .i64 0)).setCell ⟨kr, 1, none⟩ (.int .i64 0)) := below_set (below_set (below_on B0.out HB6.out) HX0.out.2) HX0.out.2
      have HB7 := hide hb7
      clear hb7
      refine bodyPost_ret (v := .tuple #[.agg #[.int .i64 0, .int .i64 0], .int .i64 40]) ?_ rfl ⟨rfl, HB7.out⟩
      rw [results_cell_tmp rfl]
      go_simp
set_option maxHeartbeats 8000000 in
theorem spawn_of (h : Wx 0 w own gw vk gp gm gt M ks gs fr f q T) (v : Value) (l : List Pt) (hv : Rp w v l) (hks : ks.length ≤ 12) (hcome : comeL ks 0 l = 0) (V : Pt → List Int) (hv0 : ∀ k, v.ownBlock = some k → own k = 0 ∧ k < w.heap.size) (h12 : l.length ≤ 12) (hV : ∀ p ∈ l, Iz w (ptV p) (V p) ∧ (p.2.1 = none → p.2.2 = (0, 0))) (hV0 : ∀ p ∈ l, ∀ k, (ptV p).ownBlock = some k → own k = 0 ∧ k < w.heap.size) (h48 : (l.flatMap V).length ≤ 48) (hM : M ≤ 900000)
    (a b : Int) (hib : InB (a, b)) (hqs : ∀ g, q (setOf l) = some g → (a, b) ∉ (T (setOf l)).1 ∧ (T (setOf l)).1.length < 200 ∧ (l.flatMap V).length = (T (setOf l)).2.length)
    (hT : ∀ (W : World) (S : Nat → Prop), Pl W S gp 200 gs fr → Calls Tryz.prog 66 #[.pointer (some ⟨gp, 0, none⟩)] W fun e w' => e = .returned (.tuple #[.agg #[.int .i64 a, .int .i64 b], .int .i64 0]) ∧ Pl w' (Nw W S) gp 200 gs' fr' ∧ Mv W w' S) :
    Calls Tryz.prog 39 #[.pointer (some ⟨gw, 0, none⟩), v] w fun e w' => e = .returned (.tuple #[.agg #[.int .i64 a, .int .i64 b], .int .i64 0]) ∧ ∃ (l' : List Pt) (g : Nat) (own' : Nat → Nat), l'.Perm l ∧ l'.Pairwise (fun x y => x.1 ≤ y.1) ∧ Wx 0 w' own' gw vk gp gm gt (M + 3) ks gs' fr' (fun x => if x = (a, b) then some (setOf l) else f x) (fun x => if x = setOf l then some g else q x) (moreT q T (setOf l) (a, b) (l'.flatMap V)) ∧ Wk own own' w w' := by
  have HH := hide (And.intro hv0 (And.intro h12 (And.intro hV (And.intro hV0 (And.intro h48 hqs)))))
  have HT := hide hT
  clear hv0 h12 hV hV0 h48 hqs hT
  obtain ⟨ao, c, rfl⟩ : ∃ ao c, v = .slice ao l.length c := by
    rcases hv with ⟨rfl, rfl⟩ | ⟨g, o, c, rfl, -⟩
    · exact ⟨_, _, rfl⟩
    · exact ⟨_, _, rfl⟩
  have H := hide h
  have RP := hide hv
  have HC := hide hcome
  have HKS := hide hks
  clear h hv hcome hks
  obtain ⟨w0, hw0⟩ : ∃ X, X = w.alloc (.cells #[.int .i64 0, .int .i64 0] 34) := ⟨_, rfl⟩
  have B0 : Hid (Below w.heap.size w w0) := hw0 ▸ below_alloc w _
  have hx0 : w0.heap[w.heap.size]? = some (.cells #[.int .i64 0, .int .i64 0] 34 (0, 0)) := hw0 ▸ heap_alloc_new w _
  go_enter Tryz.func39, Tryz.ntmps39
  go_wp2_with fail
  rw [← hw0]
  obtain ⟨kr, hkr⟩ : ∃ k, k = w.heap.size := ⟨_, rfl⟩
  rw [← hkr] at hx0 ⊢
  have HX0 : Hid (w0.heap[kr]? = some (.cells #[.int .i64 0, .int .i64 0] 34 (0, 0)) ∧ w.heap.size ≤ kr) := ⟨hx0, by omega⟩
  clear hw0 hx0 hkr
  go_loopw [6, 14] (fun v6 v14 W => ∃ i : Nat, i ≤ l.length ∧ v14 = .int .i64 (i : Int) ∧ v6 = .int .i64 ((setOf (l.take i) : Nat) : Int) ∧ Hid (comeL ks 0 l = comeL ks (setOf (l.take i)) (l.drop i)) ∧ Hid (∀ p ∈ l.take i, 1 ≤ p.1 ∧ p.1 ≤ 12) ∧ Hid (Below w0.heap.size w0 W)) (fun _ v14 _ => l.length - (intOf v14).toNat)
  case atStart => exact ⟨0, Nat.zero_le _, rfl, rfl, rfl, fun p hp => by simp at hp, Below.refl _ _⟩
  case round =>
    obtain ⟨i, hil, rfl, rfl, HE, HK, HB⟩ := hrel
    by_cases hlt : i < l.length
    · have t1 : (i : Int) < (l.length : Int) := by omega
      have hW := below_on B0.out HB.out
      obtain ⟨g, o, rfl, hcap, hbig, e1, e2⟩ : ∃ g o, ao = some ⟨g, o, none⟩ ∧ l.length ≤ c ∧ c ≤ 9223372036854775807 ∧ wr.cell? ⟨g, o + i * 2, none⟩ = some (.int .i64 l[i].1) ∧ wr.cell? ⟨g, o + i * 2 + 1, none⟩ = some (ptV l[i]) := by
        rcases RP.out with ⟨-, rfl⟩ | ⟨g, o, c', e, h1, h2, h3⟩
        · exact absurd hlt (by simp)
        · simp only [Value.slice.injEq] at e
          obtain ⟨rfl, -, rfl⟩ := e
          exact ⟨g, o, rfl, h1, by unfold maxLen at h2; omega, part_cells h3 hW hlt⟩
      have hs1 := hide (set_push l i hlt)
      have hsl : setOf (l.take i) < 8192 := setOf_lt _ HK.out
      have hcl := comeL_at ks l i hlt (setOf (l.take i))
      rw [← HE.out] at hcl
      have HM1 : Hid (∀ p ∈ l.take (i + 1), p ∈ l.take i ∨ p = l[i]) := fun p hp => by
        rw [List.take_succ_eq_append_getElem hlt] at hp
        simp only [List.mem_append, List.mem_singleton] at hp
        exact hp
      generalize setOf (l.take i) = S at *
      generalize l[i] = p at *
      obtain ⟨x, av, nv, cv⟩ := p
      unfold ptV at e2
      dsimp only at e1 e2 hcl hs1
      have JM : Hid (∀ W, Below w0.heap.size w0 W → Calls Tryz.prog 65 #[.pointer (some ⟨gw, 0, none⟩), .int .i64 (S : Int), .agg #[.int .i64 x, .slice av nv cv]] W fun e w' => e = .returned (.int .i64 (comeS ks S x nv)) ∧ Below W.heap.size W w') := fun W hW => by
        have hx := H.out.later (below_on B0.out hW)
        exact maycome_any hx.2.2.1 hx.2.2.2.1.kr HKS.out S hsl x av nv cv
      have JM1 := hide (JM.out (wr.alloc (.cells #[.int .i64 x, .slice av nv cv] 51)) (below_on HB.out (below_alloc wr _)))
      have HCL := hide hcl
      clear JM hcl hW HE
      by_cases hz : comeS ks S x nv = 0
      · have hzz := comeS_zero hz
        rw [hz] at JM1
        have hcl2 := HCL.out
        rw [if_pos hz] at hcl2
        have HCL2 := hide hcl2
        obtain ⟨k, rfl⟩ : ∃ k : Nat, x = (k : Int) := ⟨x.toNat, by omega⟩
        have hk1 : 1 ≤ k ∧ k ≤ 12 := by have := HKS.out; omega
        have HOR := hide (or_set S k hsl hk1.2)
        have t2 : ¬ (k : Int) < 0 := by omega
        rw [Int.toNat_natCast] at hs1 HCL2
        clear hz hzz hcl2 HCL
        go_wp2_with fail
        refine JM1.out.mono ?_
        rintro e w5 ⟨rfl, hb5⟩
        have HB5 := hide (below_on (below_on HB.out (below_alloc wr _)) hb5)
        have p0 : w5.cell? ⟨wr.heap.size, 0, none⟩ = some (.int .i64 (k : Int)) := by
          rw [hb5.cell (p := ⟨wr.heap.size, 0, none⟩) (by simp)]
          rw [cell_of_row _ wr.heap.size _ _ 51 (0, 0) (heap_alloc_new wr _)]
          rfl
        clear hb5 JM1
        go_wp2_with fail
        go_roundw
        case rel =>
          refine ⟨i + 1, by omega, by go_num, by rw [hs1.out]; exact val_int HOR.out, ?_, ?_, HB5⟩
          · rw [hs1.out]
            exact HCL2
          · intro p hp
            rcases HM1.out p hp with hp | rfl
            · exact HK.out p hp
            · dsimp only
              omega
        case measure => simp [intOf]; omega
      · exact absurd (HCL.out.symm.trans HC.out) (by rw [if_neg hz]; exact hz)
    · obtain rfl : i = l.length := by omega
      have hkd := HK.out
      rw [List.take_length] at hkd
      have b4 := below_on B0.out HB.out
      have h4 := H.out.later b4
      obtain ⟨-, c1, -, -⟩ := h4.cells
      have hlab : ∀ k, k < w.heap.size → own k = 0 → ¬ Lb (rel own w 0) wr 3 k := fun k hk e e2 => by
        have := e2.2
        rw [rel_old hk, e] at this
        omega
      have JT : Hid (Calls Tryz.prog 66 #[.pointer (some ⟨gp, 0, none⟩)] wr fun e w' => e = .returned (.tuple #[.agg #[.int .i64 a, .int .i64 b], .int .i64 0]) ∧ ∃ o6, Hid (Wx 0 w' o6 gw vk gp gm gt M ks gs' fr' f q T ∧ Wk own o6 w w' ∧ (w'.heap[kr]? = some (.cells #[.int .i64 0, .int .i64 0] 34 (0, 0)) ∧ o6 kr = 0) ∧ Rp w' (.slice ao l.length c) l ∧ ∀ p ∈ l, Iz w' (ptV p) (V p) ∧ (p.2.1 = none → p.2.2 = (0, 0)))) := by
        refine (HT.out wr _ h4.pl).mono ?_
        rintro e w6 ⟨rfl, g2, g3⟩
        have hkr2 : kr < wr.heap.size := Nat.lt_of_lt_of_le (lt_of_block HX0.out.1) HB.out.size
        have hxr : wr.heap[kr]? = some (.cells #[.int .i64 0, .int .i64 0] 34 (0, 0)) := (HB.out.block kr (lt_of_block HX0.out.1)).trans HX0.out.1
        have hlr : rel own w 0 kr = 0 := rel_new HX0.out.2
        refine ⟨rfl, _, h4.pool' g3 g2, (Wk.later b4).trans (Wk.of g3 (fun k _ e => by have := e.2; omega)), ⟨g3.at hxr (fun e => by have := e.2; rw [hlr] at this; omega), (rel_old hkr2).trans hlr⟩, (RP.out.later b4).frame g3 (fun k e => ?_), fun p hp => ⟨((HH.out.2.2.1 p hp).1.later b4).frame g3 (fun k e => ?_), (HH.out.2.2.1 p hp).2⟩⟩
        · obtain ⟨e1, e2⟩ := HH.out.1 k e
          exact hlab k e2 e1
        · obtain ⟨e1, e2⟩ := HH.out.2.2.2.1 p hp k e
          exact hlab k e2 e1
      have t1 : ¬ (l.length : Int) < (l.length : Int) := by omega
      have HKD := hide hkd
      clear h4 b4 HE HK hlab hkd HT
      go_wp2_with fail
      refine JT.out.mono ?_
      rintro e w6 ⟨rfl, o6, H6⟩
      obtain ⟨w7, hw7⟩ : ∃ X, X = w6.alloc (.cells #[.int .i64 a, .int .i64 b] 34) := ⟨_, rfl⟩
      have b7 : Below w6.heap.size w6 w7 := hw7 ▸ below_alloc w6 _
      have x7 : w7.heap[w6.heap.size]? = some (.cells #[.int .i64 a, .int .i64 b] 34 (0, 0)) := hw7 ▸ heap_alloc_new w6 _
      have JP : Hid (Calls Tryz.prog 67 #[.pointer (some ⟨gw, 0, none⟩), .agg #[.int .i64 a, .int .i64 b], .slice ao l.length c] w7 fun e w' => e = .returned (.tuple #[]) ∧ ∃ (l' : List Pt) (g : Nat) (own' : Nat → Nat), Hid (l'.Perm l ∧ l'.Pairwise (fun x y => x.1 ≤ y.1) ∧ Wx 0 w' own' gw vk gp gm gt (M + 3) ks gs' fr' (fun x => if x = (a, b) then some (setOf l) else f x) (fun x => if x = setOf l then some g else q x) (moreT q T (setOf l) (a, b) (l'.flatMap V)) ∧ Wk own own' w w' ∧ w'.heap[w6.heap.size]? = some (.cells #[.int .i64 a, .int .i64 b] 34 (0, 0)) ∧ w'.heap[kr]? = some (.cells #[.int .i64 0, .int .i64 0] 34 (0, 0)) ∧ own' kr = 0)) := by
        obtain ⟨k1, k2, k3, k4, k5⟩ := H6.out
        have hkr3 := lt_of_block k3.1
        refine (put_any (k1.later b7) a b hib _ l V (k4.later b7) HH.out.2.1 (fun p hp => ⟨(k5 p hp).1.later b7, (k5 p hp).2⟩) HKD.out HH.out.2.2.2.2.1 hM HH.out.2.2.2.2.2).mono ?_
        rintro e w8 ⟨rfl, l', g, own', y1, y2, y3, y4⟩
        have l1 : rel o6 w6 0 w6.heap.size = 0 := rel_new (Nat.le_refl _)
        have l2 : rel o6 w6 0 kr = 0 := (rel_old hkr3).trans k3.2
        have l3 := Nat.lt_of_lt_of_le hkr3 b7.size
        exact ⟨rfl, l', g, own', y1, y2, y3, (k2.trans (Wk.later b7)).trans y4, y4.mv.at x7 (fun e => e l1), y4.mv.at ((b7.block kr hkr3).trans k3.1) (fun e => e l2), (y4.1 kr l3).trans l2⟩
      have z0 : w7.cell? ⟨w6.heap.size, 0, none⟩ = some (.int .i64 a) := (kx_cells x7 (Below.refl _ w7)).1
      have z1 : w7.cell? ⟨w6.heap.size, 1, none⟩ = some (.int .i64 b) := (kx_cells x7 (Below.refl _ w7)).2
      clear JT c1 x7 b7
      go_upto_region 13 with fail
      rw [← hw7]
      obtain ⟨ke, hke⟩ : ∃ k, k = w6.heap.size := ⟨_, rfl⟩
      rw [← hke] at z0 z1 JP ⊢
      clear hw7 hke
      go_wp2_with fail
      refine JP.out.mono ?_
      rintro e w8 ⟨rfl, l', g, own', H8⟩
      obtain ⟨-, -, -, -, x8, x9, x10⟩ := H8.out
      obtain ⟨y0, y1⟩ := kx_cells x8 (Below.refl _ w8)
      obtain ⟨y2, y3⟩ := kx_cells x9 (Below.refl _ w8)
      have fz := frozen_of_row w8 kr 0 _ 34 x9
      have fz1 := frozen_of_row w8 kr 1 _ 34 x9
      clear JP z0 z1 x8
      have HX10 := hide x10
      have hm9 : Mv w8 ((w8.setCell ⟨kr, 0, none⟩ (.int .i64 a)).setCell ⟨kr, 1, none⟩ (.int .i64 b)) (fun k => k = kr) := ((Mv.refl w8 (fun k => k = kr)).set rfl 0 _).set rfl 1 _
      have HE : Hid (∃ (l' : List Pt) (g : Nat) (own' : Nat → Nat), l'.Perm l ∧ l'.Pairwise (fun x y => x.1 ≤ y.1) ∧ Wx 0 ((w8.setCell ⟨kr, 0, none⟩ (.int .i64 a)).setCell ⟨kr, 1, none⟩ (.int .i64 b)) own' gw vk gp gm gt (M + 3) ks gs' fr' (fun x => if x = (a, b) then some (setOf l) else f x) (fun x => if x = setOf l then some g else q x) (moreT q T (setOf l) (a, b) (l'.flatMap V)) ∧ Wk own own' w ((w8.setCell ⟨kr, 0, none⟩ (.int .i64 a)).setCell ⟨kr, 1, none⟩ (.int .i64 b))) := by
        obtain ⟨j1, j2, j3, j4, -⟩ := H8.out
        refine ⟨l', g, rel own' w8 0, j1, j2, j3.frame (.inl rfl) hm9 (fun k _ e => .inr (by rw [e]; exact HX10.out)), fun k hk => (rel_old (Nat.lt_of_lt_of_le hk j4.2.size)).trans (j4.1 k hk), j4.2.trans hm9 (fun k hk e => ?_)⟩
        have := HX0.out.2
        omega
      clear hm9 x9 x10
      go_wp2_with fail
      (try simp only [Exit.inBlock, Exit.then])
      refine bodyPost_ret (v := .tuple #[.agg #[.int .i64 a, .int .i64 b], .int .i64 0]) ?_ rfl ⟨rfl, HE.out⟩
      rw [results_cell_tmp rfl]
      go_simp
end
end Go.Proofs.YtfbhoemfabgjpaaGreat

/-
  World: slices.Clone of numbers that are read; what parts a row has.
-/
namespace Go.Proofs.YtfbhoemfabgjpaaGreat
open Go.RowKit
set_option maxRecDepth 100000
set_option maxHeartbeats 1000000 in
theorem clone_nums (v : Value) (l : List Int) (w : World) (h : Iz w v l) (hn : l.length ≤ 1000000) :
    Calls Tryz.prog 33 #[v] w fun e w' => ∃ v', e = .returned v' ∧ w'.ownsRow w.heap.size 2 1 v' l.length (zc l) ∧ Below w.heap.size w w' := by
  obtain ⟨i0, hi, hz0, hz1, hz2⟩ := info_parts info2
  have q27 : ∀ (w : World) (a : Option Addr) (n c n' c' : Nat), (binOp .eql 35 (.slice a n c) (.slice none n' c')).run Tryz.prog w = .ok (.bool a.isNone) w := fun w a n c n' c' => Lib.run_eql_slice_nil w _ _ a n c n' c' Tryz.underlying35
  obtain ⟨ao, c, rfl, h1, h2, h3⟩ := h
  cases ao with
  | none =>
    obtain rfl : l = [] := by
      cases l with
      | nil => rfl
      | cons x t =>
        obtain ⟨g, o, e, -⟩ := h3 0 (by simp)
        cases e
    clear h3
    go_enter Tryz.func33, Tryz.ntmps33
    go_wp2_with fail
    go_ret
    exact ⟨_, rfl, World.ownsRow_nil _ _ _ _, Below.refl _ _⟩
  | some ad =>
    have H : Hid (∀ j u, (zc l)[j]? = some u → (w.alloc (.cells #[] 2)).cell? (ad.add j) = some u) := fun j u hj => by
      have hj2 : j < l.length := by
        have := (List.getElem?_eq_some_iff.1 hj).1
        rwa [zc_len] at this
      rw [zc_at l j hj2] at hj
      obtain ⟨g', o', e3, z4⟩ := h3 j hj2
      obtain rfl := Option.some.inj e3
      rw [add_at, ← Option.some.inj hj]
      exact ((below_alloc w _).cell (p := ⟨g', o' + j, none⟩) (World.block_lt_of_cell? w _ z4)).trans z4
    clear h3
    go_enter Tryz.func33, Tryz.ntmps33
    go_wp2_with (at_builtin; refine wpList_append_own_at _ rfl _ _ 35 rfl w.heap.size 2 i0 (.int .i64 0) 1 8 Tryz.underlying35 hi hz0 hz1 hz2 rfl (by decide) _ 0 [] rfl (World.ownsRow_lit w #[] 0 (Nat.le_refl _) (Nat.zero_le _) rfl) ad l.length c (zc l) rfl (by rw [zc_len]; omega) H.out (zc_one l) (by unfold maxLen; omega) (by omega) (by simp) ?_)
    intro v' w' ho hg _ _
    obtain ⟨ao, c, rfl⟩ := own_len ho
    have HO := hide ho
    have HG := hide hg
    clear ho hg
    go_wp2_with fail
    go_ret
    refine ⟨_, rfl, ?_, (below_alloc w _).grown HG.out (by simp) (fun k e => ?_)⟩
    · have := HO.out
      simpa using this
    · simp [Value.ownBlock] at e
      omega
/-! ### The parts of a row -/
/-- The parts of a row, by rising kinds. -/
def partsL : List Kind → Nat → Nat → List Int → List (Nat × List Int)
  | [], _, _, _ => []
  | kd :: t, s, k, vals => if s.testBit k then (k, vals.take kd.2.length) :: partsL t s (k + 1) (vals.drop kd.2.length) else partsL t s (k + 1) vals
/-- How many fields a set has. -/
def fsum : List Kind → Nat → Nat → Nat
  | [], _, _ => 0
  | kd :: t, s, k => (if s.testBit k then kd.2.length else 0) + fsum t s (k + 1)
/-- Parts in memory: their kinds, and values of their own. -/
def Pv (B : Nat) (w : World) (L : List Pt) (R : List (Nat × List Int)) : Prop :=
  L.length = R.length ∧ ∀ i (h : i < L.length) (h' : i < R.length), L[i].1 = (R[i].1 : Int) ∧ w.ownsRow B 2 1 (ptV L[i]) R[i].2.length (zc R[i].2)
theorem Pv.nil (B : Nat) (w : World) : Pv B w [] [] := ⟨rfl, fun i h => absurd h (by simp)⟩
theorem Pv.later {B : Nat} {w w' : World} {L : List Pt} {R : List (Nat × List Int)} (h : Pv B w L R) (hb : Below w.heap.size w w') : Pv B w' L R := ⟨h.1, fun i h1 h2 => ⟨(h.2 i h1 h2).1, own_later (h.2 i h1 h2).2 hb⟩⟩
theorem Pv.push {B : Nat} {w : World} {L : List Pt} {R : List (Nat × List Int)} (h : Pv B w L R) (p : Pt) (k : Nat) (l : List Int) (hp : p.1 = (k : Int)) (ho : w.ownsRow B 2 1 (ptV p) l.length (zc l)) : Pv B w (L ++ [p]) (R ++ [(k, l)]) := by
  refine ⟨by simp [h.1], fun i h1 h2 => ?_⟩
  by_cases hi : i < L.length
  · have hr : i < R.length := by rw [← h.1]; exact hi
    rw [List.getElem_append_left hi, List.getElem_append_left hr]
    exact h.2 i hi hr
  · have e1 : i = L.length := by simp at h1; omega
    have e2 : i = R.length := by rw [← h.1]; exact e1
    rw [List.getElem_append_right (by omega), List.getElem_append_right (by omega)]
    simpa using ⟨hp, ho⟩
end Go.Proofs.YtfbhoemfabgjpaaGreat
