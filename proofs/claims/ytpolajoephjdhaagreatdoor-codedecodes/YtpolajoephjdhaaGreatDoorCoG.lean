/-
  mayBeListed.
-/
import Derived.Test.YtpolajoephjdhaaGreatDoorCoF
namespace Go.Proofs.YtpolajoephjdhaaGreatDoor
open Go.RowKit
set_option maxRecDepth 100000
theorem rtOk_name {r : Rt} (h : rtOk r = true) : 1 ≤ r.name.size ∧ r.name.size ≤ 16 := by
  unfold rtOk at h
  simp only [Bool.and_eq_true, decide_eq_true_eq] at h
  exact h.1.1.1.1
theorem seen_at (nm : ByteArray) (k : Nat) (hlt : k < nm.size) : nm.data.toList[k]? = some nm[k] := by
  have h : k < nm.data.size := hlt
  rw [Array.getElem?_toList, Array.getElem?_eq_getElem h]
  rfl
theorem seen_go {nm : ByteArray} {k : Nat} (hlt : k < nm.size) (ha : (nm.data.toList.take k).all seen = true) : (nm.data.toList.take (k + 1)).all seen = seen nm[k] := by
  rw [List.take_add_one, seen_at nm k hlt, List.all_append, ha]
  simp
theorem seen_no {nm : ByteArray} {k : Nat} (hlt : k < nm.size) (h : seen nm[k] = false) : nm.data.toList.all seen = false := by
  rw [List.all_eq_false]
  exact ⟨nm[k], List.mem_of_getElem? (seen_at nm k hlt), by rw [h]; simp⟩
set_option maxHeartbeats 2000000 in
theorem maylist_at {Q : Nat → Prop} {W : World} {n c : Nat} {ao : Option Addr} (nm : ByteArray) (pa lo : Int) (code : List Ins) (hn : n = code.length) (hc1 : n ≤ c) (hc2 : c ≤ 9223372036854775807) (h : Il Q W (.slice ao n c) code) (ht : Tb W) : Calls Tryz.prog 41 #[.agg #[.string nm, .int .i64 pa, .int .i64 lo, .slice ao n c]] W fun e w' => e = .returned (.bool (lstOk ⟨nm, pa, lo, code⟩)) ∧ Below W.heap.size W w' := by
  obtain ⟨w0, hw0⟩ : ∃ X, X = W.alloc (.cells #[.string nm, .int .i64 pa, .int .i64 lo, .slice ao n c] 45) := ⟨_, rfl⟩
  have B0 : Below W.heap.size W w0 := hw0 ▸ below_alloc W _
  have n1 : w0.heap[W.heap.size]? = some (.cells #[.string nm, .int .i64 pa, .int .i64 lo, .slice ao n c] 45 (0, 0)) := by rw [hw0]; exact heap_alloc_new W _
  obtain ⟨B, hB⟩ : ∃ B, B = W.heap.size := ⟨_, rfl⟩
  rw [← hB] at n1
  have c0 : w0.cell? ⟨B, 0, none⟩ = some (.string nm) := by rw [cell_of_row w0 _ _ _ 45 (0, 0) n1]; rfl
  have c1 : w0.cell? ⟨B, 1, none⟩ = some (.int .i64 pa) := by rw [cell_of_row w0 _ _ _ 45 (0, 0) n1]; rfl
  have c2 : w0.cell? ⟨B, 2, none⟩ = some (.int .i64 lo) := by rw [cell_of_row w0 _ _ _ 45 (0, 0) n1]; rfl
  have c3 : w0.cell? ⟨B, 3, none⟩ = some (.slice ao n c) := by rw [cell_of_row w0 _ _ _ 45 (0, 0) n1]; rfl
  have J := hide (isroutine_at nm pa lo code hn hc1 hc2 (h.later B0) (ht.later B0))
  obtain ⟨te, hte⟩ : ∃ t, t = lstOk ⟨nm, pa, lo, code⟩ := ⟨_, rfl⟩
  rw [← hte]
  have TE := hide hte
  have HW := hide hw0
  have HB := hide B0
  have EB := hide hB
  have N1 := hide n1
  clear hte n1 B0 ht h hn
  unfold lstOk at TE
  dsimp only at TE
  have HQ : Hid (rtOk ⟨nm, pa, lo, code⟩ = true → nm.size ≤ 16) := fun h => (rtOk_name h).2
  generalize rtOk ⟨nm, pa, lo, code⟩ = q at *
  go_enter Tryz.func41, Tryz.ntmps41
  go_upto_region 1 with fail
  rw [← hw0, ← hB]
  clear hw0 hB
  cases q with
  | false =>
    obtain rfl : te = false := by rw [TE.out]; rfl
    go_wp2_with fail
    refine J.out.mono ?_
    rintro e w2 ⟨rfl, hb2⟩
    go_wp2_with fail
    go_ret
    exact ⟨rfl, below_on HB.out hb2⟩
  | true =>
    rw [Bool.true_and] at TE
    have hz : nm.size ≤ 16 := HQ.out rfl
    go_wp2_with fail
    refine J.out.mono ?_
    rintro e w2 ⟨rfl, hb2⟩
    have n2 := (hb2.block B (lt_of_block N1.out)).trans N1.out
    have HB2 := hide (below_on HB.out hb2)
    have c4 : w2.cell? ⟨B, 0, none⟩ = some (.string nm) := by rw [cell_of_row w2 _ _ _ 45 (0, 0) n2]; rfl
    clear hb2 n2 c0 c1 c2 c3
    go_wp2_with fail
    go_loop [10] (fun v => ∃ k : Nat, v = .int .i64 (k : Int) ∧ k ≤ nm.size ∧ Hid ((nm.data.toList.take k).all seen = true)) (fun v => nm.size - (intOf v).toNat)
    case atStart => exact ⟨0, rfl, by omega, rfl⟩
    case round =>
      obtain ⟨k, rfl, hk, ha⟩ := hrel
      by_cases hlt : k < nm.size
      · have E4 := hide (seen_go hlt ha.out)
        have E5 := hide (fun h => seen_no hlt h)
        by_cases hs : 33 ≤ nm[k].toNat ∧ nm[k].toNat ≤ 126
        · have e2 : Hid (seen nm[k] = true) := by unfold Hid seen; exact decide_eq_true hs
          have h33 : ¬ (nm[k].toNat : Int) < 33 := by omega
          have h126 : ¬ (126 : Int) < (nm[k].toNat : Int) := by omega
          clear hs
          go_wp2_with fail
          exact ⟨⟨k + 1, by go_num, by omega, E4.out.trans e2.out⟩, by simp [intOf]; omega⟩
        · have e2 : Hid (seen nm[k] = false) := by unfold Hid seen; exact decide_eq_false hs
          obtain rfl : te = false := by rw [TE.out]; exact E5.out e2.out
          rcases (show nm[k].toNat < 33 ∨ (33 ≤ nm[k].toNat ∧ 126 < nm[k].toNat) by omega) with h33 | ⟨h33, h126⟩
          · have h33' : (nm[k].toNat : Int) < 33 := by omega
            clear hs
            go_wp2_with fail
            go_ret
            exact ⟨rfl, HB2.out⟩
          · have h33' : ¬ (nm[k].toNat : Int) < 33 := by omega
            have h126' : (126 : Int) < (nm[k].toNat : Int) := by omega
            clear hs
            go_wp2_with fail
            go_ret
            exact ⟨rfl, HB2.out⟩
      · obtain rfl : te = true := by
          rw [TE.out]
          have := ha.out
          rw [List.take_of_length_le (by rw [Array.length_toList]; show nm.size ≤ k; omega)] at this
          exact this
        go_wp2_with fail
        go_ret
        exact ⟨rfl, HB2.out⟩
theorem maylist_any {Q : Nat → Prop} {W : World} {vc : Value} (r : Rt) (h : Il Q W vc r.code) (ht : Tb W) : Calls Tryz.prog 41 #[rtV r vc] W fun e w' => e = .returned (.bool (lstOk r)) ∧ Below W.heap.size W w' := by
  obtain ⟨ao, c, rfl, hc1, hc2⟩ := h.at
  exact maylist_at r.name r.pa r.lo r.code rfl hc1 hc2 h ht
end Go.Proofs.YtpolajoephjdhaaGreatDoor
