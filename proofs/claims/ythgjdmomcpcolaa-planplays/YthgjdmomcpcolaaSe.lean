/-
  Plan: search: the greatest mark of those that conflict.
-/
import Derived.Test.YthgjdmomcpcolaaMm
namespace Go.Proofs.Ythgjdmomcpcolaa
open Go.RowKit
def Gj (ms : Mk) (s : Sy) (j : Nat) : Nat := if j = 0 then 0 else if j = 1 then sup s.1 (wt ms) else grt ms s
/-- One side: the kinds, and the marks that count for them. -/
def Side (w W : World) (N : Nat) (ms : Mk) (s : Sy) (j : Nat) : Prop :=
  ∃ (l : List Int) (f : Int → Nat) (gm n : Nat) (v : Value), W.cell? ⟨N, j * 2, none⟩ = some v ∧ W.cell? ⟨N, j * 2 + 1, none⟩ = some (.map (some gm)) ∧ Mz w gm n f ∧ Rw w 0 v l ∧ (∀ x ∈ l, InI x) ∧ l.length ≤ 1000000 ∧ (∀ k, f k ≤ 1000000) ∧ Gj ms s (j + 1) = max (Gj ms s j) (sup l f)
theorem own_later0 {w w' : World} {B e s n : Nat} {v : Value} {xs : List Value} (h : w.ownsRow B e s v n xs) (hb : Below w.heap.size w w') : w'.ownsRow B e s v n xs := own_later h hb
set_option maxHeartbeats 4000000 in
theorem search_any {w : World} {g1 g2 n : Nat} {ms : Mk} {va vb : Value} {s : Sy} (h : Mm w g1 g2 n ms) (ha : Ac w 0 va vb s) (en : Nat) (hms : ∀ x ∈ ms, x.2 ≤ 1000000) :
    Calls Try.prog 36 #[.agg #[.map (some g1), .map (some g2)], .agg #[va, vb], .int .i64 (en : Int)] w fun e w' => ∃ r : Nat, e = .returned (.int .i64 (r : Int)) ∧ r ≤ grt ms s ∧ (r = grt ms s ∨ en ≤ r) ∧ Below w.heap.size w w' := by
  obtain ⟨ha1, ha2, hi1, hi2, hl1, hl2⟩ := ha
  obtain ⟨aa, ca, rfl⟩ := own_len ha1
  obtain ⟨ab, cb, rfl⟩ := own_len ha2
  have bt : ∀ k, tc ms k ≤ 1000000 := fun k => gt_le.2 fun x hx _ => hms x hx
  have bw : ∀ k, wt ms k ≤ 1000000 := fun k => gt_le.2 fun x hx _ => hms x hx
  have bg : grt ms s ≤ 1000000 := gt_le.2 fun x hx _ => hms x hx
  have hmx := @max_int Try.prog
  have HS : Hid (∀ W : World, W.heap[w.heap.size + 1 + 1]? = some (.cells #[.slice aa s.1.length ca, .map (some g1), .slice ab s.2.length cb, .map (some g2)] 81 (0, 0)) → ∀ j, j < 2 → Side w W (w.heap.size + 1 + 1) ms s j) := fun W hW j hj => by
    have hc : ∀ k, W.cell? ⟨w.heap.size + 1 + 1, k, none⟩ = (#[.slice aa s.1.length ca, .map (some g1), .slice ab s.2.length cb, .map (some g2)] : Array Value)[k]? := fun k => cell_of_row W _ k _ 81 (0, 0) hW
    have : j = 0 ∨ j = 1 := by omega
    rcases this with rfl | rfl
    · exact ⟨s.1, wt ms, g1, n, _, hc 0, hc 1, h.2.1, ha1, hi1, by omega, bw, by simp [Gj]⟩
    · exact ⟨s.2, tc ms, g2, n, _, hc 2, hc 3, h.2.2, ha2, hi2, by omega, bt, by simp [Gj, grt_eq]⟩
  have HG : Hid (∀ j, j ≤ 2 → Gj ms s j ≤ grt ms s) := fun j hj => by
    have : j = 0 ∨ j = 1 ∨ j = 2 := by omega
    rcases this with rfl | rfl | rfl
    · simp [Gj]
    · simp only [Gj, grt_eq]; simp; omega
    · simp [Gj]
  have G2 : Hid (Gj ms s 2 = grt ms s) := by simp [Gj, Hid]
  have BG := hide bg
  clear ha1 ha2 hi1 hi2 hl1 hl2 bt bw hms h bg
  go_enter Try.func36, Try.ntmps36
  go_wp2_with fail
  go_step3
  go_wp2_with fail
  go_step3
  go_wp2_with fail
  obtain ⟨w0, hw0⟩ : ∃ X, X = (((w.alloc (Obj.cells #[Value.map (some g1), Value.map (some g2)] 69)).alloc (Obj.cells #[Value.slice aa s.1.length ca, Value.slice ab s.2.length cb] 74)).alloc (Obj.cells #[Value.slice aa s.1.length ca, Value.map (some g1), Value.slice ab s.2.length cb, Value.map (some g2)] 81)) := ⟨_, rfl⟩
  have B0 : Hid (Below w.heap.size w w0 ∧ w0.heap[w.heap.size + 1 + 1]? = some (.cells #[.slice aa s.1.length ca, .map (some g1), .slice ab s.2.length cb, .map (some g2)] 81 (0, 0)) ∧ w.heap.size + 1 + 1 < w0.heap.size) := by
    have b1 := below_alloc w (Obj.cells #[Value.map (some g1), Value.map (some g2)] 69)
    have b2 := below_alloc (w.alloc (Obj.cells #[Value.map (some g1), Value.map (some g2)] 69)) (Obj.cells #[Value.slice aa s.1.length ca, Value.slice ab s.2.length cb] 74)
    have b3 := below_alloc ((w.alloc (Obj.cells #[Value.map (some g1), Value.map (some g2)] 69)).alloc (Obj.cells #[Value.slice aa s.1.length ca, Value.slice ab s.2.length cb] 74)) (Obj.cells #[Value.slice aa s.1.length ca, Value.map (some g1), Value.slice ab s.2.length cb, Value.map (some g2)] 81)
    refine ⟨hw0 ▸ below_on (below_on b1 b2) b3, ?_, by rw [hw0]; simp⟩
    have := heap_alloc_new ((w.alloc (Obj.cells #[Value.map (some g1), Value.map (some g2)] 69)).alloc (Obj.cells #[Value.slice aa s.1.length ca, Value.slice ab s.2.length cb] 74)) (Obj.cells #[Value.slice aa s.1.length ca, Value.map (some g1), Value.slice ab s.2.length cb, Value.map (some g2)] 81)
    rw [hw0]
    simpa using this
  rw [← hw0]
  clear hw0
  generalize w.heap.size + 1 + 1 = N at *
  go_loopw [7, 24] (fun v7 v24 W => ∃ j : Nat, j ≤ 2 ∧ v24 = .int .i64 (j : Int) ∧ v7 = .int .i64 (Gj ms s j : Int) ∧ Hid (Below w.heap.size w W ∧ W.heap[N]? = some (.cells #[.slice aa s.1.length ca, .map (some g1), .slice ab s.2.length cb, .map (some g2)] 81 (0, 0)) ∧ N < W.heap.size)) (fun _ v24 _ => 2 - (intOf v24).toNat)
  case atStart => exact ⟨0, by omega, rfl, rfl, B0.out⟩
  case round =>
    obtain ⟨j, hj, rfl, rfl, HB⟩ := hrel
    clear B0
    by_cases hlt : j < 2
    · have t1 : (j : Int) < 2 := by omega
      obtain ⟨l, f, gm, n', v, s1, s2, s3, s4, s5, s6, s7, s8⟩ := HS.out wr HB.out.2.1 j hlt
      obtain ⟨al, cl, rfl⟩ := own_len s4
      have b9 := below_alloc wr (.cells #[.slice al l.length cl, .map (some gm)] 81)
      have HB9 : Hid (Below w.heap.size w (wr.alloc (.cells #[.slice al l.length cl, .map (some gm)] 81)) ∧ (wr.alloc (.cells #[.slice al l.length cl, .map (some gm)] 81)).heap[N]? = some (.cells #[.slice aa s.1.length ca, .map (some g1), .slice ab s.2.length cb, .map (some g2)] 81 (0, 0)) ∧ N < (wr.alloc (.cells #[.slice al l.length cl, .map (some gm)] 81)).heap.size) := ⟨below_on HB.out.1 b9, (b9.block N HB.out.2.2).trans HB.out.2.1, Nat.lt_of_lt_of_le HB.out.2.2 b9.size⟩
      have S3 := hide (s3.later (below_on HB.out.1 b9))
      have S4 := hide (own_later s4 (below_on HB.out.1 b9))
      have S5 := hide s5
      have S7 := hide s7
      have S8 := hide s8
      clear s3 s4 s5 s7 s8 b9
      have C9 : (wr.alloc (.cells #[.slice al l.length cl, .map (some gm)] 81)).heap[wr.heap.size]? = some (.cells #[.slice al l.length cl, .map (some gm)] 81 (0, 0)) := heap_alloc_new wr _
      have c90 : (wr.alloc (.cells #[.slice al l.length cl, .map (some gm)] 81)).cell? ⟨wr.heap.size, 1, none⟩ = some (.map (some gm)) := by rw [cell_of_row _ _ _ _ 81 (0, 0) C9]; rfl
      clear C9
      go_wp2_with fail
      generalize wr.alloc (.cells #[.slice al l.length cl, .map (some gm)] 81) = w9 at *
      generalize wr.heap.size = q9 at *
      have LE := hide (HG.out j hj)
      have LE1 := hide (HG.out (j + 1) hlt)
      go_loopw [7, 31] (fun v7 v31 W => ∃ i : Nat, i ≤ l.length ∧ v31 = .int .i64 (i : Int) ∧ v7 = .int .i64 ((max (Gj ms s j) (sup (l.take i) f) : Nat) : Int) ∧ Hid (W = w9)) (fun _ v31 _ => l.length - (intOf v31).toNat)
      case atStart => exact ⟨0, by omega, rfl, by simp [sup], rfl⟩
      case round =>
        obtain ⟨i, hil, rfl, rfl, HW⟩ := hrel
        have hW := HW.out
        subst hW
        by_cases hli : i < l.length
        · have t2 : (i : Int) < (l.length : Int) := by omega
          obtain ⟨g, c, e0, hc1, hc2⟩ := own_form S4.out (by omega)
          simp only [Value.slice.injEq, true_and] at e0
          obtain ⟨rfl, rfl⟩ := e0
          have e1 := Rw.at S4.out i hli
          have hk := S5.out l[i] (List.getElem_mem hli)
          have hlk := S3.out.look _ hk
          have hsup : max (max (Gj ms s j) (sup (l.take i) f)) (f l[i]) = max (Gj ms s j) (sup (l.take (i + 1)) f) := by
            rw [List.take_succ_eq_append_getElem hli, sup_add]
            omega
          have hle := sup_take_le l f (i + 1)
          have HM : Hid (max (Gj ms s j) (sup (l.take (i + 1)) f) ≤ grt ms s) := by
            have := S8.out
            have := LE1.out
            unfold Hid
            omega
          clear hk hle
          generalize l[i] = x at *
          obtain ⟨M, hM⟩ : ∃ M, M = max (Gj ms s j) (sup (l.take (i + 1)) f) := ⟨_, rfl⟩
          rw [← hM] at hsup HM
          have HMM := hide hM
          clear hM
          by_cases he : (M : Int) ≥ (en : Int)
          · go_wp2_with fail
            go_ret
            exact ⟨M, rfl, HM.out, .inr (by omega), HB9.out.1⟩
          · go_wp2_with fail
            go_roundw
            case rel => exact ⟨i + 1, by omega, rfl, by rw [HMM.out], trivial⟩
            case measure => simp only [intOf]; omega
        · have t2 : ¬ (i : Int) < (l.length : Int) := by omega
          obtain rfl : i = l.length := by omega
          rw [List.take_length, ← S8.out]
          go_wp2_with fail
          go_roundw
          case rel => exact ⟨j + 1, by omega, rfl, rfl, HB9.out⟩
          case measure => simp only [intOf]; omega
    · have t1 : ¬ (j : Int) < 2 := by omega
      obtain rfl : j = 2 := by omega
      rw [G2.out]
      go_wp2_with fail
      go_ret
      exact ⟨_, rfl, Nat.le_refl _, .inl rfl, HB.out.1⟩
end Go.Proofs.Ythgjdmomcpcolaa
