/-
  DiceRolls: one roll.
-/
import Derived.Test.YtihlhidpiehehaaRlM
namespace Go.Proofs.Ytihlhidpiehehaa
open Go.RowKit
set_option maxRecDepth 100000
def I6 (a : Int) : Prop := -9223372036854775808 ≤ a ∧ a ≤ 9223372036854775807
/-- What a roll leaves. -/
def Rolled (w : World) (B : Nat) (own : Nat → Nat) (kb gd gr : Nat) (w' : World) : Prop := ∃ own' s', Bo w' B own' kb ∧ Dz w' gd s' ∧ Rz w' gr s' ∧ (∀ k, k < w.heap.size → own' k = own k) ∧ Mv w w' (fun k => k = gd ∨ k = gr ∨ own k ≠ 0)
theorem rolled_plain {w w1 w2 w3 : World} {B kb gd gr : Nat} {own : Nat → Nat} {s' : Int} (h : Bo w B own kb) (hb : Below w.heap.size w w1) (m2 : Mv w1 w2 (fun k => k = gd)) (m3 : Mv w2 w3 (fun k => k = gr)) (hd : Dz w2 gd s') (hr : Rz w3 gr s') (o1 : own gd = 0) (o2 : own gr = 0) (hne : gd ≠ gr) : Rolled w B own kb gd gr w3 := by
  obtain ⟨vl, vw, ls, ms, ρ, hk⟩ := h
  refine ⟨own, s', ⟨vl, vw, ls, ms, ρ, ((hk.later hb).frame m2 (fun k e => by rw [e]; exact o1)).frame m3 (fun k e => by rw [e]; exact o2)⟩, hd.frame m3 (fun e => hne e), hr, fun _ _ => rfl, ?_⟩
  exact (((Mv.of_below hb (fun k => k = gd ∨ k = gr ∨ own k ≠ 0))).trans m2 (fun k _ e => .inl e)).trans m3 (fun k _ e => .inr (.inl e))
section
variable {w : World} {B : Nat} {own : Nat → Nat} {kb gd gr : Nat} {s : Int}
set_option maxHeartbeats 4000000 in
theorem roll_1 (h : Bo w B own kb) (hd : Dz w gd s) (hr : Rz w gr s) (o1 : own gd = 0) (o2 : own gr = 0) (hne : gd ≠ gr) (kd on nn a b : Int) (hkd : I6 kd) (ha : I6 a) (_hb : I6 b) (hp : pickI kd 4 = 1) :
    Calls Try.prog 12 #[.pointer (some ⟨kb, 0, none⟩), .pointer (some ⟨gd, 0, none⟩), .pointer (some ⟨gr, 0, none⟩), .agg #[.int .i64 kd, .int .i64 on, .int .i64 nn, .int .i64 a, .int .i64 b]] w fun e w' => e = .returned (.bool true) ∧ Rolled w B own kb gd gr w' := by
  obtain ⟨w1, hw1⟩ : ∃ W, W = w.alloc (.cells #[.int .i64 kd, .int .i64 on, .int .i64 nn, .int .i64 a, .int .i64 b] 39) := ⟨_, rfl⟩
  obtain ⟨ko, hko⟩ : ∃ k, k = w.heap.size := ⟨_, rfl⟩
  have hk1 : w1.heap[ko]? = some (.cells #[.int .i64 kd, .int .i64 on, .int .i64 nn, .int .i64 a, .int .i64 b] 39 (0, 0)) := by rw [hw1, hko]; exact heap_alloc_new _ _
  have hb1 : Below w.heap.size w w1 := hw1 ▸ below_alloc w _
  have hgk : gd ≠ ko ∧ gr ≠ ko := by have := hd.lt; have := hr.lt; omega
  have HC : Hid (∀ W, Mv w1 W (fun k => k = gd ∨ k = gr) → W.cell? ⟨ko, 0, none⟩ = some (.int .i64 kd) ∧ W.cell? ⟨ko, 1, none⟩ = some (.int .i64 on) ∧ W.cell? ⟨ko, 2, none⟩ = some (.int .i64 nn) ∧ W.cell? ⟨ko, 3, none⟩ = some (.int .i64 a) ∧ W.cell? ⟨ko, 4, none⟩ = some (.int .i64 b)) := fun W hm => by
    have := hm.at hk1 (fun e => by omega)
    refine ⟨?_, ?_, ?_, ?_, ?_⟩ <;> rw [cell_of_row W ko _ _ 39 (0, 0) this] <;> rfl
  have HD1 := hide (hd.later hb1)
  have HR1 := hide (hr.later hb1)
  have HB1 := hide hb1
  have H := hide h
  have JP := hide (pick_any kd 4 w1 hkd (by omega) (by omega))
  rw [hp] at JP
  obtain ⟨x0, x1, x2, x3, x4⟩ := HC.out w1 (Mv.refl _ _)
  clear h hd hr hk1 hb1 hp
  go_enter Try.func12, Try.ntmps12
  go_wp2_with fail
  rw [← hko, ← hw1]
  have HKO := hide hko
  clear hko hw1
  refine JP.out.mono ?_
  rintro e w1' ⟨rfl, rfl⟩
  have J1 := hide (fun (W : World) (hb : Below w1'.heap.size w1' W) => below_any (HD1.out.later hb) a ha.1 ha.2)
  have J2 := hide (fun (W : World) (hm : Mv w1' W (fun k => k = gd)) => dbelow_any (HR1.out.frame hm (fun e => hne e.symm)) a ha.1 ha.2)
  go_upto_region 3 with fail
  go_region_held3 (fun W => W.cell? ⟨ko, 3, none⟩ = some (.int .i64 a)) (go_keep) (first | (go_at_call 15; refine (J1.out _ (below_drew w1')).mono ?_; rintro e w2 ⟨rfl, hd2, hm2⟩; have hm2' := (Mv.of_below (below_drew w1') (fun k => k = gd)).trans hm2 (fun _ _ e => e); obtain ⟨y0, y1, y2, y3, y4⟩ := HC.out w2 (hm2'.mono (fun _ _ e => .inl e))) | (go_at_call 20; refine (J2.out _ hm2').mono ?_; rintro e w3 ⟨rfl, hr3, hm3⟩; obtain ⟨z0, z1, z2, z3, z4⟩ := HC.out w3 ((hm2'.mono (fun _ _ e => .inl e)).trans hm3 (fun _ _ e => .inr e))))
  have HF := hide (rolled_plain H.out HB1.out hm2' hm3 hd2 hr3 o1 o2 hne)
  clear hd2 hm2 hm2' hr3 hm3
  go_wp2_with fail
  go_ret
  exact ⟨rfl, HF.out⟩
set_option maxHeartbeats 4000000 in
theorem roll_2 (h : Bo w B own kb) (hd : Dz w gd s) (hr : Rz w gr s) (o1 : own gd = 0) (o2 : own gr = 0) (hne : gd ≠ gr) (kd on nn a b : Int) (hkd : I6 kd) (ha : I6 a) (hb : I6 b) (hp : pickI kd 4 = 2) :
    Calls Try.prog 12 #[.pointer (some ⟨kb, 0, none⟩), .pointer (some ⟨gd, 0, none⟩), .pointer (some ⟨gr, 0, none⟩), .agg #[.int .i64 kd, .int .i64 on, .int .i64 nn, .int .i64 a, .int .i64 b]] w fun e w' => e = .returned (.bool true) ∧ Rolled w B own kb gd gr w' := by
  obtain ⟨w1, hw1⟩ : ∃ W, W = w.alloc (.cells #[.int .i64 kd, .int .i64 on, .int .i64 nn, .int .i64 a, .int .i64 b] 39) := ⟨_, rfl⟩
  obtain ⟨ko, hko⟩ : ∃ k, k = w.heap.size := ⟨_, rfl⟩
  have hk1 : w1.heap[ko]? = some (.cells #[.int .i64 kd, .int .i64 on, .int .i64 nn, .int .i64 a, .int .i64 b] 39 (0, 0)) := by rw [hw1, hko]; exact heap_alloc_new _ _
  have hb1 : Below w.heap.size w w1 := hw1 ▸ below_alloc w _
  have hgk : gd ≠ ko ∧ gr ≠ ko := by have := hd.lt; have := hr.lt; omega
  have HC : Hid (∀ W, Mv w1 W (fun k => k = gd ∨ k = gr) → W.cell? ⟨ko, 0, none⟩ = some (.int .i64 kd) ∧ W.cell? ⟨ko, 1, none⟩ = some (.int .i64 on) ∧ W.cell? ⟨ko, 2, none⟩ = some (.int .i64 nn) ∧ W.cell? ⟨ko, 3, none⟩ = some (.int .i64 a) ∧ W.cell? ⟨ko, 4, none⟩ = some (.int .i64 b)) := fun W hm => by
    have := hm.at hk1 (fun e => by omega)
    refine ⟨?_, ?_, ?_, ?_, ?_⟩ <;> rw [cell_of_row W ko _ _ 39 (0, 0) this] <;> rfl
  have HD1 := hide (hd.later hb1)
  have HR1 := hide (hr.later hb1)
  have HB1 := hide hb1
  have H := hide h
  have JP := hide (pick_any kd 4 w1 hkd (by omega) (by omega))
  rw [hp] at JP
  obtain ⟨x0, x1, x2, x3, x4⟩ := HC.out w1 (Mv.refl _ _)
  clear h hd hr hk1 hb1 hp
  go_enter Try.func12, Try.ntmps12
  go_wp2_with fail
  rw [← hko, ← hw1]
  have HKO := hide hko
  clear hko hw1
  refine JP.out.mono ?_
  rintro e w1' ⟨rfl, rfl⟩
  have hb2 := hb
  have J1 := hide (fun (W : World) (hb : Below w1'.heap.size w1' W) => between_any (HD1.out.later hb) a b ha hb2)
  have J2 := hide (fun (W : World) (hm : Mv w1' W (fun k => k = gd)) => dbetween_any (HR1.out.frame hm (fun e => hne e.symm)) a b ha hb2)
  go_upto_region 5 with fail
  go_region_held3 (fun W => W.cell? ⟨ko, 3, none⟩ = some (.int .i64 a) ∧ W.cell? ⟨ko, 4, none⟩ = some (.int .i64 b)) (go_keep) (first | (go_at_call 16; refine (J1.out _ (below_drew w1')).mono ?_; rintro e w2 ⟨rfl, hd2, hm2⟩; have hm2' := (Mv.of_below (below_drew w1') (fun k => k = gd)).trans hm2 (fun _ _ e => e); obtain ⟨y0, y1, y2, y3, y4⟩ := HC.out w2 (hm2'.mono (fun _ _ e => .inl e))) | (go_at_call 21; refine (J2.out _ hm2').mono ?_; rintro e w3 ⟨rfl, hr3, hm3⟩; obtain ⟨z0, z1, z2, z3, z4⟩ := HC.out w3 ((hm2'.mono (fun _ _ e => .inl e)).trans hm3 (fun _ _ e => .inr e))))
  have HF := hide (rolled_plain H.out HB1.out hm2' hm3 hd2 hr3 o1 o2 hne)
  clear hd2 hm2 hm2' hr3 hm3
  go_wp2_with fail
  go_ret
  exact ⟨rfl, HF.out⟩
set_option maxHeartbeats 4000000 in
theorem roll_0 (h : Bo w B own kb) (hd : Dz w gd s) (hr : Rz w gr s) (o1 : own gd = 0) (o2 : own gr = 0) (hne : gd ≠ gr) (kd on nn a b : Int) (hkd : I6 kd) (_ha : I6 a) (_hb : I6 b) (hp : pickI kd 4 = 0) :
    Calls Try.prog 12 #[.pointer (some ⟨kb, 0, none⟩), .pointer (some ⟨gd, 0, none⟩), .pointer (some ⟨gr, 0, none⟩), .agg #[.int .i64 kd, .int .i64 on, .int .i64 nn, .int .i64 a, .int .i64 b]] w fun e w' => e = .returned (.bool true) ∧ Rolled w B own kb gd gr w' := by
  obtain ⟨w1, hw1⟩ : ∃ W, W = w.alloc (.cells #[.int .i64 kd, .int .i64 on, .int .i64 nn, .int .i64 a, .int .i64 b] 39) := ⟨_, rfl⟩
  obtain ⟨ko, hko⟩ : ∃ k, k = w.heap.size := ⟨_, rfl⟩
  have hk1 : w1.heap[ko]? = some (.cells #[.int .i64 kd, .int .i64 on, .int .i64 nn, .int .i64 a, .int .i64 b] 39 (0, 0)) := by rw [hw1, hko]; exact heap_alloc_new _ _
  have hb1 : Below w.heap.size w w1 := hw1 ▸ below_alloc w _
  have hgk : gd ≠ ko ∧ gr ≠ ko := by have := hd.lt; have := hr.lt; omega
  have HC : Hid (∀ W, Mv w1 W (fun k => k = gd ∨ k = gr) → W.cell? ⟨ko, 0, none⟩ = some (.int .i64 kd) ∧ W.cell? ⟨ko, 1, none⟩ = some (.int .i64 on) ∧ W.cell? ⟨ko, 2, none⟩ = some (.int .i64 nn) ∧ W.cell? ⟨ko, 3, none⟩ = some (.int .i64 a) ∧ W.cell? ⟨ko, 4, none⟩ = some (.int .i64 b)) := fun W hm => by
    have := hm.at hk1 (fun e => by omega)
    refine ⟨?_, ?_, ?_, ?_, ?_⟩ <;> rw [cell_of_row W ko _ _ 39 (0, 0) this] <;> rfl
  have HD1 := hide (hd.later hb1)
  have HR1 := hide (hr.later hb1)
  have HB1 := hide hb1
  have H := hide h
  have JP := hide (pick_any kd 4 w1 hkd (by omega) (by omega))
  rw [hp] at JP
  obtain ⟨x0, x1, x2, x3, x4⟩ := HC.out w1 (Mv.refl _ _)
  clear h hd hr hk1 hb1 hp
  go_enter Try.func12, Try.ntmps12
  go_wp2_with fail
  rw [← hko, ← hw1]
  have HKO := hide hko
  clear hko hw1
  refine JP.out.mono ?_
  rintro e w1' ⟨rfl, rfl⟩
  have J1 := hide (next_any HD1.out)
  have J2 := hide (fun (W : World) (hm : Mv w1' W (fun k => k = gd)) => dnext_any (HR1.out.frame hm (fun e => hne e.symm)))
  go_wp2_with fail
  refine J1.out.mono ?_
  rintro e w2 ⟨rfl, hd2, hm2⟩
  have HD2 := hide hd2
  have HM2 := hide hm2
  clear hd2 hm2
  go_wp2_with fail
  refine (J2.out _ HM2.out).mono ?_
  rintro e w3 ⟨rfl, hr3, hm3⟩
  have HF := hide (rolled_plain H.out HB1.out HM2.out hm3 HD2.out hr3 o1 o2 hne)
  clear hr3 hm3
  go_wp2_with fail
  go_ret
  exact ⟨rfl, HF.out⟩
end
end Go.Proofs.Ytihlhidpiehehaa
