/-
  The document's plan in memory; its Conflict.
-/
import Derived.Test.YthgjdmomcpcolaaDa
namespace Go.Proofs.Ythgjdmomcpcolaa
open Go.RowKit
set_option maxRecDepth 100000
/-- The document's plan: reads and writes as they came. -/
def Dp (W : World) (B g : Nat) (L : List Sy) : Prop :=
  ∃ vr vw rs ws, W.heap[g]? = some (.cells #[vr, vw] 58 (0, 0)) ∧ W.ownsRow B 23 1 vr rs.length rs ∧ W.ownsRow B 23 1 vw ws.length ws ∧ rs.length = L.length ∧ ws.length = L.length ∧ (∀ i (h1 : i < rs.length) (h2 : i < ws.length) (h3 : i < L.length), Rw W B rs[i] L[i].1 ∧ Rw W B ws[i] L[i].2) ∧ L.length ≤ 1000 ∧ B ≤ g
theorem Dp.later {W W' : World} {B g : Nat} {L : List Sy} (h : Dp W B g L) (hb : Below W.heap.size W W') : Dp W' B g L := by
  obtain ⟨vr, vw, rs, ws, h1, h2, h3, h4, h5, h6, h7⟩ := h
  exact ⟨vr, vw, rs, ws, (hb.block g (lt_of_block h1)).trans h1, own_later h2 hb, own_later h3 hb, h4, h5, fun i k1 k2 k3 => ⟨own_later (h6 i k1 k2 k3).1 hb, own_later (h6 i k1 k2 k3).2 hb⟩, h7⟩
theorem meets_swap (a b : List Int) : meets a b = meets b a := by
  rw [Bool.eq_iff_iff, meets_iff, meets_iff]
  constructor <;> exact fun ⟨x, h1, h2⟩ => ⟨x, h2, h1⟩
theorem cz_doc {L : List Sy} (ka kb : Nat) (h1 : ka < L.length) (h2 : kb < L.length) (hne : ka ≠ kb) : cz L (ka : Int) (kb : Int) = (meets L[ka].2 L[kb].1 || meets L[kb].2 L[ka].1 || meets L[ka].2 L[kb].2) := by
  rw [cz_nat L ka kb h1 h2 hne, cn_at L ka kb h1 h2, cf, meets_swap L[ka].1 L[kb].2]
  cases meets L[ka].2 L[kb].2 <;> cases meets L[ka].2 L[kb].1 <;> cases meets L[kb].2 L[ka].1 <;> rfl
theorem cz_out {L : List Sy} {a b : Int} (h : a < 0 ∨ b < 0 ∨ a ≥ L.length ∨ b ≥ L.length ∨ a = b) : cz L a b = false := by
  unfold cz
  rw [decide_eq_false (by omega)]
  rfl
set_option maxHeartbeats 8000000 in
theorem dconflict_any {w : World} {B g : Nat} {L : List Sy} (h : Dp w B g L) (a b : Int) : Calls Try.prog 16 #[.pointer (some ⟨g, 0, none⟩), .int .i64 a, .int .i64 b] w fun e w' => e = .returned (.bool (cz L a b)) ∧ Below w.heap.size w w' := by
  have H := hide h
  obtain ⟨vr, vw, rs, ws, h1, h2, h3, h4, h5, h6, h7, h8⟩ := h
  have HR2 := hide h2
  have HR3 := hide h3
  have HR6 := hide h6
  have HB0 : Hid (Below w.heap.size w w) := Below.refl _ _
  obtain ⟨ar, cr, rfl⟩ := own_len h2
  obtain ⟨aw, cw, rfl⟩ := own_len h3
  obtain ⟨hr1, hr2⟩ := own_cap h2
  obtain ⟨hw1, hw2⟩ := own_cap h3
  rw [h4] at h1 hr1
  rw [h5] at h1 hw1
  have e0 : w.cell? ⟨g, 0, none⟩ = some (.slice ar L.length cr) := by rw [cell_of_row _ _ _ _ 58 (0, 0) h1]; rfl
  have e1 : w.cell? ⟨g, 1, none⟩ = some (.slice aw L.length cw) := by rw [cell_of_row _ _ _ _ 58 (0, 0) h1]; rfl
  have H4 := hide h4
  have H5 := hide h5
  clear h1 h2 h3 h4 h5 h6 h7 h8
  by_cases q1 : a < 0
  · rw [cz_out (.inl q1)]
    go_enter Try.func16, Try.ntmps16
    go_wp2_with fail
    go_ret
    exact ⟨rfl, HB0.out⟩
  by_cases q2 : b < 0
  · rw [cz_out (.inr (.inl q2))]
    go_enter Try.func16, Try.ntmps16
    go_wp2_with fail
    go_ret
    exact ⟨rfl, HB0.out⟩
  by_cases q3 : a ≥ (L.length : Int)
  · rw [cz_out (.inr (.inr (.inl q3)))]
    go_enter Try.func16, Try.ntmps16
    go_wp2_with fail
    go_ret
    exact ⟨rfl, HB0.out⟩
  by_cases q4 : b ≥ (L.length : Int)
  · rw [cz_out (.inr (.inr (.inr (.inl q4))))]
    go_enter Try.func16, Try.ntmps16
    go_wp2_with fail
    go_ret
    exact ⟨rfl, HB0.out⟩
  by_cases q5 : a = b
  · rw [cz_out (.inr (.inr (.inr (.inr q5))))]
    subst q5
    go_enter Try.func16, Try.ntmps16
    go_wp2_with fail
    go_ret
    exact ⟨rfl, HB0.out⟩
  obtain ⟨ka, rfl⟩ : ∃ k : Nat, a = (k : Int) := ⟨a.toNat, by omega⟩
  obtain ⟨kb, rfl⟩ : ∃ k : Nat, b = (k : Int) := ⟨b.toNat, by omega⟩
  have hka : ka < L.length := by omega
  have hkb : kb < L.length := by omega
  rw [cz_doc ka kb hka hkb (by omega)]
  have t1 : (ka : Int) < (L.length : Int) := by omega
  have t2 : (kb : Int) < (L.length : Int) := by omega
  have t3 : ¬ ka = kb := by omega
  obtain ⟨gr, cr', er, -⟩ := own_form HR2.out (by have := H4.out; omega)
  simp only [Value.slice.injEq] at er
  obtain ⟨rfl, -, rfl⟩ := er
  obtain ⟨gw, cw', ew, -⟩ := own_form HR3.out (by have := H5.out; omega)
  simp only [Value.slice.injEq] at ew
  obtain ⟨rfl, -, rfl⟩ := ew
  have d1 := HR2.out.cellAt ka (by have := H4.out; omega)
  have d2 := HR2.out.cellAt kb (by have := H4.out; omega)
  have d3 := HR3.out.cellAt ka (by have := H5.out; omega)
  have d4 := HR3.out.cellAt kb (by have := H5.out; omega)
  rw [List.getElem?_eq_getElem (by have := H4.out; omega)] at d1 d2
  rw [List.getElem?_eq_getElem (by have := H5.out; omega)] at d3 d4
  obtain ⟨r1, r3⟩ := HR6.out ka (by have := H4.out; omega) (by have := H5.out; omega) hka
  obtain ⟨r2, r4⟩ := HR6.out kb (by have := H4.out; omega) (by have := H5.out; omega) hkb
  obtain ⟨a1, c1, ea1⟩ := own_len r1
  obtain ⟨a2, c2, ea2⟩ := own_len r2
  obtain ⟨a3, c3, ea3⟩ := own_len r3
  obtain ⟨a4, c4, ea4⟩ := own_len r4
  rw [ea1] at d1 r1
  rw [ea2] at d2 r2
  rw [ea3] at d3 r3
  rw [ea4] at d4 r4
  obtain ⟨k1, k1'⟩ := own_cap r1
  obtain ⟨k2, k2'⟩ := own_cap r2
  obtain ⟨k3, k3'⟩ := own_cap r3
  obtain ⟨k4, k4'⟩ := own_cap r4
  have HS : Hid (∀ X, Below w.heap.size w X → X.cell? ⟨g, 0, none⟩ = some (.slice (some ⟨gr, 0, none⟩) L.length cr) ∧ X.cell? ⟨g, 1, none⟩ = some (.slice (some ⟨gw, 0, none⟩) L.length cw) ∧ X.cell? ⟨gr, ka, none⟩ = some (.slice a1 L[ka].1.length c1) ∧ X.cell? ⟨gr, kb, none⟩ = some (.slice a2 L[kb].1.length c2) ∧ X.cell? ⟨gw, ka, none⟩ = some (.slice a3 L[ka].2.length c3) ∧ X.cell? ⟨gw, kb, none⟩ = some (.slice a4 L[kb].2.length c4)) := fun X hX => by
    have mv : ∀ b q x, w.cell? ⟨b, q, none⟩ = some x → X.cell? ⟨b, q, none⟩ = some x := fun b q x hx => (World.cell?_of_block (hX.block b (World.block_lt_of_cell? w _ hx))).trans hx
    exact ⟨mv _ _ _ e0, mv _ _ _ e1, mv _ _ _ d1, mv _ _ _ d2, mv _ _ _ d3, mv _ _ _ d4⟩
  have J1 : Hid (∀ X, Below w.heap.size w X → Calls Try.prog 39 #[.slice a3 L[ka].2.length c3, .slice a2 L[kb].1.length c2] X fun e w' => e = .returned (.bool (meets L[ka].2 L[kb].1)) ∧ Below X.heap.size X w') := fun X hX => dmeet_any ((Rl.of r3).later hX) ((Rl.of r2).later hX)
  have J2 : Hid (∀ X, Below w.heap.size w X → Calls Try.prog 39 #[.slice a4 L[kb].2.length c4, .slice a1 L[ka].1.length c1] X fun e w' => e = .returned (.bool (meets L[kb].2 L[ka].1)) ∧ Below X.heap.size X w') := fun X hX => dmeet_any ((Rl.of r4).later hX) ((Rl.of r1).later hX)
  have J3 : Hid (∀ X, Below w.heap.size w X → Calls Try.prog 39 #[.slice a3 L[ka].2.length c3, .slice a4 L[kb].2.length c4] X fun e w' => e = .returned (.bool (meets L[ka].2 L[kb].2)) ∧ Below X.heap.size X w') := fun X hX => dmeet_any ((Rl.of r3).later hX) ((Rl.of r4).later hX)
  obtain ⟨m1, hm1⟩ : ∃ m, m = meets L[ka].2 L[kb].1 := ⟨_, rfl⟩
  obtain ⟨m2, hm2⟩ : ∃ m, m = meets L[kb].2 L[ka].1 := ⟨_, rfl⟩
  obtain ⟨m3, hm3⟩ : ∃ m, m = meets L[ka].2 L[kb].2 := ⟨_, rfl⟩
  rw [← hm1, ← hm2, ← hm3]
  rw [← hm1] at J1
  rw [← hm2] at J2
  rw [← hm3] at J3
  clear hm1 hm2 hm3 r1 r2 r3 r4 ea1 ea2 ea3 ea4
  have S0 := hide (HS.out w HB0.out)
  go_enter Try.func16, Try.ntmps16
  go_wp2_with fail
  have hs0 := S0.out
  go_region_held3 (fun X => X.cell? ⟨g, 0, none⟩ = some (.slice (some ⟨gr, 0, none⟩) L.length cr) ∧ X.cell? ⟨g, 1, none⟩ = some (.slice (some ⟨gw, 0, none⟩) L.length cw) ∧ X.cell? ⟨gr, ka, none⟩ = some (.slice a1 L[ka].1.length c1) ∧ X.cell? ⟨gr, kb, none⟩ = some (.slice a2 L[kb].1.length c2) ∧ X.cell? ⟨gw, ka, none⟩ = some (.slice a3 L[ka].2.length c3) ∧ X.cell? ⟨gw, kb, none⟩ = some (.slice a4 L[kb].2.length c4)) (first | exact S0.out | exact S1) ((go_at_call 39; refine (J1.out _ (below_drew w)).mono ?_; rintro e w1 ⟨rfl, b1⟩; have B1 := hide (below_on (below_drew w) b1); have S1 := HS.out w1 B1.out; clear b1))
  have S1' := hide S1
  clear S1 hs0 e0 e1 d1 d2 d3 d4
  obtain ⟨e0, e1, d1, d2, d3, d4⟩ := S1'.out
  go_wp2_with fail
  have hs1 := S1'.out
  go_region_held3 (fun X => X.cell? ⟨g, 0, none⟩ = some (.slice (some ⟨gr, 0, none⟩) L.length cr) ∧ X.cell? ⟨g, 1, none⟩ = some (.slice (some ⟨gw, 0, none⟩) L.length cw) ∧ X.cell? ⟨gr, ka, none⟩ = some (.slice a1 L[ka].1.length c1) ∧ X.cell? ⟨gr, kb, none⟩ = some (.slice a2 L[kb].1.length c2) ∧ X.cell? ⟨gw, ka, none⟩ = some (.slice a3 L[ka].2.length c3) ∧ X.cell? ⟨gw, kb, none⟩ = some (.slice a4 L[kb].2.length c4)) (first | exact S1'.out | exact S2) ((go_at_call 39; refine (J2.out _ (below_on B1.out (below_drew w1))).mono ?_; rintro e w2 ⟨rfl, b2⟩; have B2 := hide (below_on B1.out (below_on (below_drew w1) b2)); have S2 := HS.out w2 B2.out; clear b2))
  have S2' := hide S2
  clear S2 hs1 e0 e1 d1 d2 d3 d4
  obtain ⟨e0, e1, d1, d2, d3, d4⟩ := S2'.out
  go_wp2_with fail
  have hs2 := S2'.out
  go_region_held3 (fun X => X.cell? ⟨g, 0, none⟩ = some (.slice (some ⟨gr, 0, none⟩) L.length cr) ∧ X.cell? ⟨g, 1, none⟩ = some (.slice (some ⟨gw, 0, none⟩) L.length cw) ∧ X.cell? ⟨gr, ka, none⟩ = some (.slice a1 L[ka].1.length c1) ∧ X.cell? ⟨gr, kb, none⟩ = some (.slice a2 L[kb].1.length c2) ∧ X.cell? ⟨gw, ka, none⟩ = some (.slice a3 L[ka].2.length c3) ∧ X.cell? ⟨gw, kb, none⟩ = some (.slice a4 L[kb].2.length c4)) (first | exact S2'.out | exact S3) ((go_at_call 39; refine (J3.out _ (below_on B2.out (below_drew w2))).mono ?_; rintro e w3 ⟨rfl, b3⟩; have B3 := hide (below_on B2.out (below_on (below_drew w2) b3)); have S3 := HS.out w3 B3.out; clear b3))
  clear S3 hs2 e0 e1 d1 d2 d3 d4
  cases m1 <;> cases m2 <;> cases m3 <;> (go_wp2_with fail; go_ret; exact ⟨rfl, B3.out⟩)
end Go.Proofs.Ythgjdmomcpcolaa
