/-
  The law's row (function 28) and rows (function 29).
-/
import Derived.Test.YtoccbeefmagklaaRefGetRow
namespace Go.Proofs.Ytoccbeefmagklaa
open Go.RowKit
theorem ns_later {w w' : World} {v : Value} {zs : List Int} (h : Ns w v zs) (hb : Below w.heap.size w w') : Ns w' v zs := h.below hb (Nat.le_refl _)
theorem ns_drew {w w' : World} {v : Value} {zs : List Int} (h : Ns w v zs) (hd : ∃ d, w' = w.drewN d) : Ns w' v zs := by
  obtain ⟨d, rfl⟩ := hd
  exact h

set_option maxHeartbeats 4000000 in
set_option maxRecDepth 100000 in
theorem rows_any (va vb : Value) (zs : List Int) (w : World) (ha : Ns w va zs) (hb : Ns w vb zs) (hl : zs.length ≤ 1048576) :
    Calls Try.prog 29 #[va, vb] w fun e w' => e = .returned (.bool true) ∧ ∃ d, w' = w.drewN d := by
  have HA := hide ha
  have HB := hide hb
  obtain ⟨aoa, ca, rfl, ha1, ha2, ha3⟩ := ha
  obtain ⟨aob, cb, rfl, hb1, hb2, hb3⟩ := hb
  clear ha3 hb3
  unfold maxLen at ha2 hb2
  have z1 : ((zs.length : Int) != zs.length) = false := by simp
  go_enter Try.func29, Try.ntmps29
  go_wp2
  go_loopw [5] (fun v5 wr => ∃ i : Nat, i ≤ zs.length ∧ v5 = .int .i64 i ∧ ∃ d, wr = w.drewN d) (fun v5 _ => zs.length - (intOf v5).toNat)
  case atStart => exact ⟨0, Nat.zero_le _, rfl, 0, rfl⟩
  case round =>
    obtain ⟨i, hi, rfl, d, rfl⟩ := hrel
    by_cases hlt : i < zs.length
    · obtain ⟨ga, oa, rfl⟩ := ns_some HA.out (by omega)
      obtain ⟨gb, ob, rfl⟩ := ns_some HB.out (by omega)
      have c1 := ns_cell HA.out hlt
      have c2 := ns_cell HB.out hlt
      have e1 : (i : Int) < (zs.length : Int) := by omega
      generalize zs.getD i 0 = x at *
      have z2 : (x != x) = false := by simp
      go_wp2
      go_quiet (fail)
      go_wp2
      go_roundw
      case rel => exact ⟨i + 1, by omega, by go_num, d + nq, by simp⟩
      case measure => simp [intOf]; omega
    · go_wp2
      go_ret
      exact ⟨rfl, d, rfl⟩

set_option maxHeartbeats 4000000 in
set_option maxRecDepth 100000 in
theorem lawrow_any (vin vw : Value) (l : List UInt8) (most : Int) (w : World) (h : Bs w vin l) (h0 : -9223372036854775808 ≤ most) (h1 : most ≤ 9223372036854775807) (hw : Ns w vw (Rd.row l most).1) :
    Calls Try.prog 28 #[vin, .int .i64 most, vw, .int .i64 (Rd.row l most).2] w fun e w' => ∃ v, e = .returned (.tuple #[v, .bool true]) ∧ Nown w' w.heap.size v (Rd.row l most).1 ∧ Below w.heap.size w w' := by
  have HG := hide (getRow_any vin l most w h h0 h1)
  have HW := hide hw
  have hl := (row_facts (b := l) (most := most)).2.1
  clear h hw
  generalize Rd.row l most = r at *
  obtain ⟨zs, t⟩ := r
  simp only at hl
  go_enter Try.func28, Try.ntmps28
  go_wp2_with fail
  refine HG.out.mono ?_
  rintro e w1 ⟨⟨v1, rfl, ho⟩, hb⟩
  have HA := hide ho.ns
  have HO := hide ho
  have HB := hide hb
  have HW1 := hide (ns_later HW.out hb)
  obtain ⟨aoa, ca, rfl, ha1, ha2, ha3⟩ := HA.out
  obtain ⟨aob, cb, rfl, hb1, hb2, hb3⟩ := HW.out
  clear ha3 hb3 ho hb HG HW
  unfold maxLen at ha2 hb2
  have z1 : ((zs.length : Int) != zs.length) = false := by simp
  have z2 : ((t : Int) != t) = false := by simp
  go_wp2
  go_loopw [12] (fun v5 wr => ∃ i : Nat, i ≤ zs.length ∧ v5 = .int .i64 i ∧ ∃ d, wr = w1.drewN d) (fun v5 _ => zs.length - (intOf v5).toNat)
  case atStart => exact ⟨0, Nat.zero_le _, rfl, 0, rfl⟩
  case round =>
    obtain ⟨i, hi, rfl, d, rfl⟩ := hrel
    by_cases hlt : i < zs.length
    · obtain ⟨ga, oa, rfl⟩ := ns_some HA.out (by omega)
      obtain ⟨gb, ob, rfl⟩ := ns_some HW1.out (by omega)
      have c1 := ns_cell HA.out hlt
      have c2 := ns_cell HW1.out hlt
      have e1 : (i : Int) < (zs.length : Int) := by omega
      generalize zs.getD i 0 = x at *
      have z3 : (x != x) = false := by simp
      go_wp2
      go_quiet (fail)
      go_wp2
      go_roundw
      case rel => exact ⟨i + 1, by omega, by go_num, d + nq, by simp⟩
      case measure => simp [intOf]; omega
    · go_wp2
      go_ret2
      exact ⟨_, rfl, owns_drew' HO.out ⟨d, rfl⟩, HB.out.trans (below_drew' ⟨d, rfl⟩)⟩
end Go.Proofs.Ytoccbeefmagklaa
