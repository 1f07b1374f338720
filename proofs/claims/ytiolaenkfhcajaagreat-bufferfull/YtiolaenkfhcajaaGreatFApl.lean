/-
  Buffer, full: Apply of a hundred thousand commands that nobody can do.
-/
import Derived.Test.YtiolaenkfhcajaaGreatFRem
import Derived.Test.YtiolaenkfhcajaaGreatMgD
namespace Go.Proofs.YtiolaenkfhcajaaGreat
open Go.RowKit
set_option maxRecDepth 100000
set_option maxHeartbeats 8000000 in
theorem apply_full {w : World} {S U : Nat → Prop} {gb gm n sz gw : Nat} {f : Int × Int → Option Value} {L : Int × Int → List Cm} (h : Bg w S U gb gm n f L sz) (hsz : sz ≤ 100000)
    (ha : ∀ ss : List (Int × Int), (∀ x, x ∈ ss ↔ L x ≠ []) → ss.Pairwise ltT → ∃ t : List Nat, allL L ss = t.map cmR ∧ t.length = 100000)
    (JA : Hid (∀ V (k : Nat), Below w.heap.size w V → Calls Tryz.prog 20 #[.pointer (some ⟨gw, 0, none⟩), .agg #[.int .i64 4, .int .i64 0, .int .i64 0, .int .i64 (k : Int), .slice none 0 0, .slice none 0 0]] V fun e w' => e = .returned (.tuple #[.agg #[.int .i64 0, .int .i64 0], .int .i64 41]) ∧ Below V.heap.size V w')) :
    Calls Tryz.prog 10 #[.pointer (some ⟨gb, 0, none⟩), .pointer (some ⟨gw, 0, none⟩)] w fun e w' => e = .returned (.tuple #[.slice none 0 0, .int .i64 100000]) ∧ Below w.heap.size w w' := by
  have g0 : w.cell? ⟨gb, 0, none⟩ = some (.map (some gm)) := by rw [cell_of_row w _ _ _ 54 (0, 0) h.row]; rfl
  have JT : Hid (Calls Tryz.prog 18 #[.map (some gm), .func (.func 19) #[] #[]] w fun e w' => ∃ g c, ∃ t : List Nat, e = .returned (.slice (some ⟨g, 0, none⟩) 100000 c) ∧ 100000 ≤ c ∧ t.length = 100000 ∧ (∀ (j : Nat) (hj : j < t.length), w'.cell? ⟨g, j * 6, none⟩ = some (.int .i64 4) ∧ w'.cell? ⟨g, j * 6 + 1, none⟩ = some (.int .i64 0) ∧ w'.cell? ⟨g, j * 6 + 2, none⟩ = some (.int .i64 0) ∧ w'.cell? ⟨g, j * 6 + 3, none⟩ = some (.int .i64 (t[j] : Int)) ∧ w'.cell? ⟨g, j * 6 + 4, none⟩ = some (.slice none 0 0) ∧ w'.cell? ⟨g, j * 6 + 5, none⟩ = some (.slice none 0 0)) ∧ Below w.heap.size w w') := by
    refine (together_any h hsz).mono ?_
    rintro e w' ⟨v, ss, e1, q1, q2, q3, q4⟩
    obtain ⟨t, ht, htl⟩ := ha ss q1 q2
    rw [ht] at q3
    rcases q3.2 with ⟨-, e0⟩ | ⟨g, c, cur, rfl, -, -, hc, -⟩
    · rw [List.length_map] at e0
      omega
    · rw [List.length_map, htl] at e1 hc q3
      refine ⟨g, c, t, e1, hc, htl, fun j hj => ?_, q4⟩
      have hj2 : j < (t.map cmR).length := by rw [List.length_map]; exact hj
      obtain ⟨c0, c1, c2, c3, c4, c5⟩ := cz_at (t.map cmR) j hj2
      have ej : (t.map cmR)[j] = cmR t[j] := List.getElem_map ..
      rw [ej] at c0 c1 c2 c3 c4 c5
      have hb : ∀ k, k < 6 → j * 6 + k < 100000 * 6 := fun k hk => by omega
      exact ⟨(q3.cellAt (j * 6) (hb 0 (by omega))).trans c0, (q3.cellAt (j * 6 + 1) (hb 1 (by omega))).trans c1, (q3.cellAt (j * 6 + 2) (hb 2 (by omega))).trans c2, (q3.cellAt (j * 6 + 3) (hb 3 (by omega))).trans c3, (q3.cellAt (j * 6 + 4) (hb 4 (by omega))).trans c4, (q3.cellAt (j * 6 + 5) (hb 5 (by omega))).trans c5⟩
  clear h ha hsz
  go_enter Tryz.func10, Tryz.ntmps10
  go_wp2_with fail
  refine JT.out.mono ?_
  rintro e w1 ⟨g, c, t, rfl, hc, htl, ho, b1⟩
  have HO := hide ho
  have B1 := hide b1
  have HTL := hide htl
  clear ho b1 JT g0 htl
  have tm : min (100000 : Int) 2000 = 2000 := by decide
  have tn : (2000 : Int).toNat = 2000 := rfl
  have tx : max (2000 : Int) 0 = 2000 := by decide
  go_wp2_with fail
  go_loopw [4, 29, 5] (fun v4 v29 v5 W => ∃ i : Nat, i ≤ 2000 ∧ v4 = .slice none 0 0 ∧ v29 = .int .i64 (i : Int) ∧ v5 = .int .i64 (98000 + (i : Int)) ∧ Hid (Below w1.heap.size w1 W)) (fun _ v29 _ _ => 2000 - (intOf v29).toNat)
  case atStart => exact ⟨0, Nat.zero_le _, rfl, rfl, rfl, Below.refl _ _⟩
  case round =>
    obtain ⟨i, hi, rfl, rfl, rfl, HI⟩ := hrel
    by_cases hlt : i < 2000
    · have t1 : (i : Int) < 2000 := by omega
      have tw : IntKind.i64.wrap ((i : Int) + 1) = (i : Int) + 1 := by
        rw [IntKind.wrap_i64]
        omega
      have tw2 : IntKind.i64.wrap (98000 + (i : Int) + 1) = 98000 + (i : Int) + 1 := by
        rw [IntKind.wrap_i64]
        omega
      have hit : i < t.length := by have := HTL.out; omega
      obtain ⟨k, hk⟩ : ∃ k, k = t[i] := ⟨_, rfl⟩
      obtain ⟨y0, y1, y2, y3, y4, y5⟩ := HO.out i hit
      rw [← hk] at y3
      have m1 : Mv w1 wr (fun _ => False) := Mv.of_below HI.out _
      replace y0 := m1.cell y0 id
      replace y1 := m1.cell y1 id
      replace y2 := m1.cell y2 id
      replace y3 := m1.cell y3 id
      replace y4 := m1.cell y4 id
      replace y5 := m1.cell y5 id
      obtain ⟨V1, hV1⟩ : ∃ X, X = wr.alloc (.cells #[.int .i64 4, .int .i64 0, .int .i64 0, .int .i64 (k : Int), .slice none 0 0, .slice none 0 0] 40) := ⟨_, rfl⟩
      obtain ⟨kc, hkc⟩ : ∃ k, k = wr.heap.size := ⟨_, rfl⟩
      have bV1 : Below wr.heap.size wr V1 := by rw [hV1]; exact below_alloc wr _
      have rc : V1.heap[kc]? = some (.cells #[.int .i64 4, .int .i64 0, .int .i64 0, .int .i64 (k : Int), .slice none 0 0, .slice none 0 0] 40 (0, 0)) := by rw [hV1, hkc]; exact heap_alloc_new wr _
      have x0 : V1.cell? ⟨kc, 0, none⟩ = some (.int .i64 4) := by rw [cell_of_row V1 _ _ _ 40 (0, 0) rc]; rfl
      have x1 : V1.cell? ⟨kc, 1, none⟩ = some (.int .i64 0) := by rw [cell_of_row V1 _ _ _ 40 (0, 0) rc]; rfl
      have x2 : V1.cell? ⟨kc, 2, none⟩ = some (.int .i64 0) := by rw [cell_of_row V1 _ _ _ 40 (0, 0) rc]; rfl
      have x3 : V1.cell? ⟨kc, 3, none⟩ = some (.int .i64 (k : Int)) := by rw [cell_of_row V1 _ _ _ 40 (0, 0) rc]; rfl
      have x4 : V1.cell? ⟨kc, 4, none⟩ = some (.slice none 0 0) := by rw [cell_of_row V1 _ _ _ 40 (0, 0) rc]; rfl
      have x5 : V1.cell? ⟨kc, 5, none⟩ = some (.slice none 0 0) := by rw [cell_of_row V1 _ _ _ 40 (0, 0) rc]; rfl
      have BV : Hid (Below w1.heap.size w1 V1) := below_on HI.out bV1
      have CC := hide (JA.out V1 k (below_on B1.out BV.out))
      clear HI m1 bV1 rc hk
      go_upto_region 7 with fail
      rw [← hV1, ← hkc]
      clear hV1 hkc y0 y1 y2 y3 y4 y5
      go_wp2_with fail
      refine CC.out.mono ?_
      rintro e w2 ⟨rfl, hb2⟩
      have BX : Hid (∀ o, Below w1.heap.size w1 (w2.alloc o)) := fun o => below_on (below_on BV.out hb2) (below_alloc w2 o)
      clear hb2 CC x0 x1 x2 x3 x4 x5 BV
      go_wp2_with fail
      go_roundw
      case rel => exact ⟨i + 1, hlt, rfl, by go_num, by go_num, BX.out _⟩
      case measure => simp [intOf]; omega
    · have t1 : ¬ (i : Int) < 2000 := by omega
      obtain rfl : i = 2000 := by omega
      have hx : Hid (Below w.heap.size w wr) := below_on B1.out HI.out
      clear HI
      go_wp2_with fail
      go_ret2
      exact ⟨rfl, hx.out⟩
end Go.Proofs.YtiolaenkfhcajaaGreat
