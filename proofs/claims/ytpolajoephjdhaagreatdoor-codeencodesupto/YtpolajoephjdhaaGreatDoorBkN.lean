import Derived.Test.YtpolajoephjdhaaGreatDoorBkM
/-
  The law's own looks, at lists that are one.
-/
namespace Go.Proofs.YtpolajoephjdhaaGreatDoor
open Go.RowKit
set_option maxRecDepth 100000
section
variable {Q Q' : Nat → Prop} {W : World}
theorem sets_eq {va vb : Value} {l : List Int} (ha : Nl Q W va l) (hb : Nl Q' W vb l) : Calls Tryz.prog 30 #[va, vb] W fun e w' => e = .returned (.bool true) ∧ Below W.heap.size W w' := by
  have HA := hide ha
  have HB := hide hb
  obtain ⟨ao, c, rfl, h1, h2, -⟩ := ha
  obtain ⟨bo, d, rfl, -, -, -⟩ := hb
  unfold maxLen at h2
  obtain ⟨n, hn⟩ : ∃ n, n = l.length := ⟨_, rfl⟩
  rw [← hn] at HA HB h1 ⊢
  have HN := hide hn
  clear hn
  go_enter Tryz.func30, Tryz.ntmps30
  go_wp2_with fail
  go_loopw [5] (fun v wr => ∃ k : Nat, v = .int .i64 (k : Int) ∧ k ≤ n ∧ Hid (Below W.heap.size W wr)) (fun v _ => n - (intOf v).toNat)
  case atStart => exact ⟨0, rfl, by omega, Below.refl _ _⟩
  case round =>
    obtain ⟨k, rfl, hk, hbw⟩ := hrel
    by_cases hlt : k < n
    · have hlt' : k < l.length := by rw [← HN.out]; exact hlt
      obtain ⟨g, o, rfl, -, c0, -⟩ := (HA.out.mv (Mv.of_below hbw.out (fun _ => False)) (fun _ _ e => e)).nth hlt'
      obtain ⟨g', o', rfl, -, c1, -⟩ := (HB.out.mv (Mv.of_below hbw.out (fun _ => False)) (fun _ _ e => e)).nth hlt'
      generalize l[k] = x at *
      have HB2 := hide (below_on hbw.out (below_drew wr))
      go_wp2_with (fail)
      go_region
      all_goals go_wp2_with fail
      all_goals exact ⟨⟨k + 1, by go_num, by omega, HB2.out⟩, by simp [intOf]; omega⟩
    · go_wp2_with fail
      go_ret
      exact ⟨rfl, hbw.out⟩
theorem same_eq {va vb : Value} {l : List Ins} (ha : Il Q W va l) (hb : Il Q' W vb l) : Calls Tryz.prog 55 #[va, vb] W fun e w' => e = .returned (.bool true) ∧ Below W.heap.size W w' := by
  have HA := hide ha
  have HB := hide hb
  obtain ⟨ao, c, rfl, h1, h2, -⟩ := ha
  obtain ⟨bo, d, rfl, -, -, -⟩ := hb
  unfold maxLen at h2
  obtain ⟨n, hn⟩ : ∃ n, n = l.length := ⟨_, rfl⟩
  rw [← hn] at HA HB h1 ⊢
  have HN := hide hn
  clear hn
  go_enter Tryz.func55, Tryz.ntmps55
  go_wp2_with fail
  go_loopw [5] (fun v wr => ∃ k : Nat, v = .int .i64 (k : Int) ∧ k ≤ n ∧ Hid (Below W.heap.size W wr)) (fun v _ => n - (intOf v).toNat)
  case atStart => exact ⟨0, rfl, by omega, Below.refl _ _⟩
  case round =>
    obtain ⟨k, rfl, hk, hbw⟩ := hrel
    by_cases hlt : k < n
    · have hlt' : k < l.length := by rw [← HN.out]; exact hlt
      obtain ⟨g, o, rfl, -, c0, c2, -⟩ := (HA.out.later hbw.out).nth hlt'
      obtain ⟨g', o', rfl, -, c1, c3, -⟩ := (HB.out.later hbw.out).nth hlt'
      generalize l[k].op = x at *
      generalize l[k].a = y at *
      have HB2 := hide (below_on hbw.out (below_drew wr))
      go_wp2_with (fail)
      go_region
      all_goals go_wp2_with fail
      all_goals exact ⟨⟨k + 1, by go_num, by omega, HB2.out⟩, by simp [intOf]; omega⟩
    · go_wp2_with fail
      go_ret
      exact ⟨rfl, hbw.out⟩
end
end Go.Proofs.YtpolajoephjdhaaGreatDoor

/-
  The law's own looks, at routines that are one.
-/
namespace Go.Proofs.YtpolajoephjdhaaGreatDoor
open Go.RowKit
set_option maxRecDepth 100000
section
variable {Q Q' : Nat → Prop} {W : World}
set_option maxHeartbeats 2000000 in
theorem routines_eq {va vb : Value} (r : Rt) (ha : Il Q W va r.code) (hb : Il Q' W vb r.code) : Calls Tryz.prog 21 #[rtV r va, rtV r vb] W fun e w' => e = .returned (.bool true) ∧ Below W.heap.size W w' := by
  obtain ⟨nm, pa, lo, code⟩ := r
  unfold rtV
  dsimp only at ha hb ⊢
  obtain ⟨w0, hw0⟩ : ∃ X, X = W.alloc (.cells #[.string nm, .int .i64 pa, .int .i64 lo, va] 45) := ⟨_, rfl⟩
  obtain ⟨w1, hw1⟩ : ∃ X, X = w0.alloc (.cells #[.string nm, .int .i64 pa, .int .i64 lo, vb] 45) := ⟨_, rfl⟩
  have B0 : Below W.heap.size W w0 := hw0 ▸ below_alloc W _
  have B1 : Below w0.heap.size w0 w1 := hw1 ▸ below_alloc w0 _
  have n0 : w0.heap[W.heap.size]? = some (.cells #[.string nm, .int .i64 pa, .int .i64 lo, va] 45 (0, 0)) := by rw [hw0]; exact heap_alloc_new W _
  have e0 : w0.heap.size = W.heap.size + 1 := by rw [hw0]; exact Array.size_push ..
  have n1 : w1.heap[W.heap.size + 1]? = some (.cells #[.string nm, .int .i64 pa, .int .i64 lo, vb] 45 (0, 0)) := by rw [hw1, ← e0]; exact heap_alloc_new w0 _
  have n2 := (B1.block W.heap.size (lt_of_block n0)).trans n0
  have Y1 := hide (below_on B0 B1)
  have A1 := ha.later Y1.out
  have A2 := hb.later Y1.out
  have J := hide (same_eq A1 A2)
  obtain ⟨ao, c, rfl, -⟩ := ha
  obtain ⟨bo, d, rfl, -⟩ := hb
  obtain ⟨p, hp⟩ : ∃ p, p = W.heap.size := ⟨_, rfl⟩
  obtain ⟨q, hq⟩ : ∃ p, p = W.heap.size + 1 := ⟨_, rfl⟩
  rw [← hp] at n2
  rw [← hq] at n1
  obtain ⟨x0, x1, x2, x3⟩ := row4 n2
  obtain ⟨y0, y1, y2, y3⟩ := row4 n1
  have N1 := hide n1
  have N2 := hide n2
  clear B0 B1 n0 n1 n2 e0 A1 A2
  generalize code.length = n at *
  have t1 : (nm.toList == nm.toList) = true := by simp
  go_enter Tryz.func21, Tryz.ntmps21
  go_upto_region 1 with fail
  rw [← hw0, ← hw1, ← hq, ← hp]
  clear hw0 hw1 hp hq
  go_wp2_with fail
  refine J.out.mono ?_
  rintro e w2 ⟨rfl, hb2⟩
  have Y2 := hide (below_on Y1.out hb2)
  clear x0 x1 x2 x3 y0 y1 y2 y3
  obtain ⟨x0, x1, x2, x3⟩ := row4 ((hb2.block _ (lt_of_block N2.out)).trans N2.out)
  obtain ⟨y0, y1, y2, y3⟩ := row4 ((hb2.block _ (lt_of_block N1.out)).trans N1.out)
  clear hb2 J Y1 N1 N2
  go_wp2_with fail
  go_ret
  exact ⟨rfl, Y2.out⟩
end
end Go.Proofs.YtpolajoephjdhaaGreatDoor
