import Derived.Test.YtpolajoephjdhaaGreatDoorShD
import Derived.Great.Walk
/-
  The document's table.
-/
namespace Go.Proofs.YtpolajoephjdhaaGreatDoor
open Go.RowKit
set_option maxRecDepth 100000
/-- What the document's row says of what is taken: below 0, by its A. -/
def tkD (k : Nat) : Int := if k = 21 then -1 else if k = 26 ∨ k = 28 then -2 else (tak k : Int)
/-- The document's table at its place. -/
def Td (W : World) (g : Nat) : Prop := ∀ k, k < 40 → W.cell? ⟨g, k * 4, none⟩ = some (.string (wd k)) ∧ W.cell? ⟨g, k * 4 + 1, none⟩ = some (.bool (numb k)) ∧ W.cell? ⟨g, k * 4 + 2, none⟩ = some (.int .i64 (tkD k)) ∧ W.cell? ⟨g, k * 4 + 3, none⟩ = some (.int .i64 (pts k : Int))
def tabC : Array Value := #[
  .string ⟨#[]⟩, .bool false, .int .i64 0, .int .i64 0,
  .string ⟨#[112, 117, 115, 104]⟩, .bool true, .int .i64 0, .int .i64 1,
  .string ⟨#[108, 111, 97, 100]⟩, .bool true, .int .i64 0, .int .i64 1,
  .string ⟨#[115, 116, 111, 114, 101]⟩, .bool true, .int .i64 1, .int .i64 0,
  .string ⟨#[102, 105, 101, 108, 100]⟩, .bool true, .int .i64 0, .int .i64 1,
  .string ⟨#[112, 117, 116]⟩, .bool true, .int .i64 1, .int .i64 0,
  .string ⟨#[97, 100, 100]⟩, .bool false, .int .i64 2, .int .i64 1,
  .string ⟨#[115, 117, 98]⟩, .bool false, .int .i64 2, .int .i64 1,
  .string ⟨#[109, 117, 108]⟩, .bool false, .int .i64 2, .int .i64 1,
  .string ⟨#[100, 105, 118]⟩, .bool false, .int .i64 2, .int .i64 1,
  .string ⟨#[114, 101, 109]⟩, .bool false, .int .i64 2, .int .i64 1,
  .string ⟨#[110, 101, 103]⟩, .bool false, .int .i64 1, .int .i64 1,
  .string ⟨#[101, 113]⟩, .bool false, .int .i64 2, .int .i64 1,
  .string ⟨#[110, 101]⟩, .bool false, .int .i64 2, .int .i64 1,
  .string ⟨#[108, 116]⟩, .bool false, .int .i64 2, .int .i64 1,
  .string ⟨#[108, 101]⟩, .bool false, .int .i64 2, .int .i64 1,
  .string ⟨#[103, 116]⟩, .bool false, .int .i64 2, .int .i64 1,
  .string ⟨#[103, 101]⟩, .bool false, .int .i64 2, .int .i64 1,
  .string ⟨#[110, 111, 116]⟩, .bool false, .int .i64 1, .int .i64 1,
  .string ⟨#[106, 117, 109, 112]⟩, .bool true, .int .i64 0, .int .i64 0,
  .string ⟨#[122, 101, 114, 111]⟩, .bool true, .int .i64 1, .int .i64 0,
  .string ⟨#[99, 97, 108, 108]⟩, .bool true, .int .i64 (-1), .int .i64 1,
  .string ⟨#[114, 101, 116]⟩, .bool false, .int .i64 1, .int .i64 0,
  .string ⟨#[115, 116, 111, 112]⟩, .bool false, .int .i64 0, .int .i64 0,
  .string ⟨#[115, 116, 101, 112]⟩, .bool false, .int .i64 0, .int .i64 0,
  .string ⟨#[101, 109, 105, 116]⟩, .bool false, .int .i64 2, .int .i64 0,
  .string ⟨#[112, 97, 114, 116]⟩, .bool true, .int .i64 (-2), .int .i64 0,
  .string ⟨#[115, 112, 97, 119, 110]⟩, .bool false, .int .i64 0, .int .i64 0,
  .string ⟨#[103, 105, 118, 101]⟩, .bool true, .int .i64 (-2), .int .i64 0,
  .string ⟨#[116, 97, 107, 101]⟩, .bool true, .int .i64 0, .int .i64 0,
  .string ⟨#[100, 105, 101]⟩, .bool false, .int .i64 0, .int .i64 0,
  .string ⟨#[114, 97, 110, 100]⟩, .bool false, .int .i64 1, .int .i64 1,
  .string ⟨#[116, 105, 99, 107]⟩, .bool false, .int .i64 0, .int .i64 1,
  .string ⟨#[109, 101]⟩, .bool false, .int .i64 0, .int .i64 1,
  .string ⟨#[105, 110, 112, 117, 116]⟩, .bool false, .int .i64 2, .int .i64 1,
  .string ⟨#[104, 97, 115]⟩, .bool true, .int .i64 0, .int .i64 1,
  .string ⟨#[109, 105, 110]⟩, .bool false, .int .i64 2, .int .i64 1,
  .string ⟨#[109, 97, 120]⟩, .bool false, .int .i64 2, .int .i64 1,
  .string ⟨#[97, 98, 115]⟩, .bool false, .int .i64 1, .int .i64 1,
  .string ⟨#[100, 114, 111, 112]⟩, .bool false, .int .i64 1, .int .i64 0
  ]
theorem tabC_at : ∀ k, k < 40 → tabC[k * 4]? = some (.string (wd k)) ∧ tabC[k * 4 + 1]? = some (.bool (numb k)) ∧ tabC[k * 4 + 2]? = some (.int .i64 (tkD k)) ∧ tabC[k * 4 + 3]? = some (.int .i64 (pts k : Int))
  | 0, _ => ⟨rfl, rfl, rfl, rfl⟩
  | 1, _ => ⟨rfl, rfl, rfl, rfl⟩
  | 2, _ => ⟨rfl, rfl, rfl, rfl⟩
  | 3, _ => ⟨rfl, rfl, rfl, rfl⟩
  | 4, _ => ⟨rfl, rfl, rfl, rfl⟩
  | 5, _ => ⟨rfl, rfl, rfl, rfl⟩
  | 6, _ => ⟨rfl, rfl, rfl, rfl⟩
  | 7, _ => ⟨rfl, rfl, rfl, rfl⟩
  | 8, _ => ⟨rfl, rfl, rfl, rfl⟩
  | 9, _ => ⟨rfl, rfl, rfl, rfl⟩
  | 10, _ => ⟨rfl, rfl, rfl, rfl⟩
  | 11, _ => ⟨rfl, rfl, rfl, rfl⟩
  | 12, _ => ⟨rfl, rfl, rfl, rfl⟩
  | 13, _ => ⟨rfl, rfl, rfl, rfl⟩
  | 14, _ => ⟨rfl, rfl, rfl, rfl⟩
  | 15, _ => ⟨rfl, rfl, rfl, rfl⟩
  | 16, _ => ⟨rfl, rfl, rfl, rfl⟩
  | 17, _ => ⟨rfl, rfl, rfl, rfl⟩
  | 18, _ => ⟨rfl, rfl, rfl, rfl⟩
  | 19, _ => ⟨rfl, rfl, rfl, rfl⟩
  | 20, _ => ⟨rfl, rfl, rfl, rfl⟩
  | 21, _ => ⟨rfl, rfl, rfl, rfl⟩
  | 22, _ => ⟨rfl, rfl, rfl, rfl⟩
  | 23, _ => ⟨rfl, rfl, rfl, rfl⟩
  | 24, _ => ⟨rfl, rfl, rfl, rfl⟩
  | 25, _ => ⟨rfl, rfl, rfl, rfl⟩
  | 26, _ => ⟨rfl, rfl, rfl, rfl⟩
  | 27, _ => ⟨rfl, rfl, rfl, rfl⟩
  | 28, _ => ⟨rfl, rfl, rfl, rfl⟩
  | 29, _ => ⟨rfl, rfl, rfl, rfl⟩
  | 30, _ => ⟨rfl, rfl, rfl, rfl⟩
  | 31, _ => ⟨rfl, rfl, rfl, rfl⟩
  | 32, _ => ⟨rfl, rfl, rfl, rfl⟩
  | 33, _ => ⟨rfl, rfl, rfl, rfl⟩
  | 34, _ => ⟨rfl, rfl, rfl, rfl⟩
  | 35, _ => ⟨rfl, rfl, rfl, rfl⟩
  | 36, _ => ⟨rfl, rfl, rfl, rfl⟩
  | 37, _ => ⟨rfl, rfl, rfl, rfl⟩
  | 38, _ => ⟨rfl, rfl, rfl, rfl⟩
  | 39, _ => ⟨rfl, rfl, rfl, rfl⟩
  | k + 40, h => absurd h (by omega)
theorem wp_buildSliceTo {P : Program} {o : Oper} {a : Act} {w : World} {K : Act → World → Prop} {Q : Exit → Act → World → Prop} (t e : TypeId) (len : Nat) (parts : Array (Nat × Operand)) (ho : o.op = .buildSlice t len parts)
    (hu : P.underlying t = some (.slice e)) (cells : Array Value)
    (hf : P.builtSlice e len (parts.map fun (i, x) => (i, a.eval x)).toList = some cells)
    (h : K (a.put o.dst (.slice (some ⟨w.heap.size, 0, none⟩) len len)) (w.alloc (.cells cells e))) : o.wp P a w K Q := by
  unfold Program.builtSlice at hf
  cases hie : P.info? e with
  | none => simp [hie] at hf
  | some ie =>
    simp only [hie] at hf
    cases hz : ie.zero with
    | none => simp [hz] at hf
    | some z =>
      simp only [hz] at hf
      by_cases hc : len * ie.size > 2 ^ 24 ∨ len * ie.size = 0
      · simp [hc] at hf
      · rw [if_neg hc] at hf
        exact wp_buildSlice t e len parts ho cells ie z hu hie hz (fun h' => hc (Or.inl h')) (fun h' => hc (Or.inr h')) hf h
set_option maxHeartbeats 2000000 in
theorem table_at (w : World) : Calls Tryz.prog 80 #[] w fun e w' => e = .returned (.slice (some ⟨w.heap.size, 0, none⟩) 40 40) ∧ w' = w.alloc (.cells tabC 134) := by
  obtain ⟨tc, htc⟩ : ∃ t, t = tabC := ⟨_, rfl⟩
  rw [← htc]
  have HT := hide htc
  clear htc
  go_enter Tryz.func80, Tryz.ntmps80
  go_wp2_with fail
  refine wp_buildSliceTo 135 134 40 _ rfl Tryz.underlying135 tc (by rw [HT.out]; kernel_rfl) ?_
  clear HT
  go_wp2_with fail
  go_ret
  exact ⟨rfl, rfl⟩
theorem table_any (w : World) : Calls Tryz.prog 80 #[] w fun e w' => e = .returned (.slice (some ⟨w.heap.size, 0, none⟩) 40 40) ∧ Below w.heap.size w w' ∧ Td w' w.heap.size := by
  refine (table_at w).mono ?_
  rintro e w' ⟨rfl, rfl⟩
  refine ⟨rfl, below_alloc w _, fun k hk => ?_⟩
  obtain ⟨a, b, c, d⟩ := tabC_at k hk
  have hn := heap_alloc_new w (.cells tabC 134)
  exact ⟨(cell_of_row _ _ _ _ 134 (0, 0) hn).trans a, (cell_of_row _ _ _ _ 134 (0, 0) hn).trans b, (cell_of_row _ _ _ _ 134 (0, 0) hn).trans c, (cell_of_row _ _ _ _ 134 (0, 0) hn).trans d⟩
end Go.Proofs.YtpolajoephjdhaaGreatDoor

/-
  The document's IsOp, Name, Number.
-/
namespace Go.Proofs.YtpolajoephjdhaaGreatDoor
open Go.RowKit
set_option maxRecDepth 100000
theorem disop_any (op : Int) (w : World) : Calls Tryz.prog 79 #[.int .i64 op] w fun e w' => e = .returned (.bool (decide (1 ≤ op ∧ op ≤ 39))) ∧ w' = w := by
  by_cases h : 1 ≤ op
  · go_enter Tryz.func79, Tryz.ntmps79
    go_wp2_with fail
    go_ret
    exact ⟨ret_bool (by simp [h]), rfl⟩
  · go_enter Tryz.func79, Tryz.ntmps79
    go_wp2_with fail
    go_ret
    exact ⟨ret_bool (by simp; omega), rfl⟩
theorem dname_any (op : Int) (w : World) : Calls Tryz.prog 48 #[.int .i64 op] w fun e w' => e = .returned (.string (wd (opk op))) ∧ Below w.heap.size w w' := by
  have i1 := hide (disop_any op)
  by_cases h : 1 ≤ op ∧ op ≤ 39
  · rw [opk_in h]
    have t1 : decide (1 ≤ op ∧ op ≤ 39) = true := by simp [h]
    rw [t1] at i1
    go_enter Tryz.func48, Tryz.ntmps48
    go_wp2_with fail
    refine (i1.out _).mono ?_
    rintro e w' ⟨rfl, rfl⟩
    go_wp2_with fail
    refine (table_any w').mono ?_
    rintro e w2 ⟨rfl, hb, ht⟩
    obtain ⟨c0, -, -, -⟩ := ht op.toNat (by omega)
    go_wp2_with fail
    go_ret
    exact ⟨rfl, hb⟩
  · rw [opk_out h]
    have t1 : decide (1 ≤ op ∧ op ≤ 39) = false := by simp; omega
    rw [t1] at i1
    go_enter Tryz.func48, Tryz.ntmps48
    go_wp2_with fail
    refine (i1.out _).mono ?_
    rintro e w' ⟨rfl, rfl⟩
    go_wp2_with fail
    go_ret
    exact ⟨rfl, Below.refl _ _⟩
theorem dnumber_any (s : ByteArray) (w : World) : Calls Tryz.prog 86 #[.string s] w fun e w' => e = .returned (.int .i64 (numOf s : Int)) ∧ Below w.heap.size w w' := by
  go_enter Tryz.func86, Tryz.ntmps86
  go_wp2
  go_loopw [3] (fun v wr => ∃ k : Nat, v = .int .i64 (k : Int) ∧ 1 ≤ k ∧ k ≤ 40 ∧ Hid (∀ j, 1 ≤ j → j < k → wd j ≠ s) ∧ Hid (Below w.heap.size w wr)) (fun v _ => 41 - (intOf v).toNat)
  case atStart => exact ⟨1, rfl, by omega, by omega, fun j h1 h2 => by omega, Below.refl _ _⟩
  case round =>
    obtain ⟨k, rfl, h1, h2, h3, hbw⟩ := hrel
    by_cases hk : k < 40
    · go_wp2_with fail
      refine (table_any wr).mono ?_
      rintro e w2 ⟨rfl, hb, ht⟩
      obtain ⟨c0, -, -, -⟩ := ht k hk
      have HB := hide (below_on hbw.out hb)
      clear hb ht hbw
      by_cases he : wd k = s
      · have hb : ((wd k).toList == s.toList) = true := by rw [beq_list]; simp [he]
        have HE := hide (numOf_at h1 hk he h3.out)
        clear he
        go_wp2_with fail
        go_ret
        rw [HE.out]
        exact ⟨rfl, HB.out⟩
      · have hb : ((wd k).toList == s.toList) = false := by rw [beq_list]; simp [he]
        have HE : Hid (∀ j, 1 ≤ j → j < k + 1 → wd j ≠ s) := fun j a b => by
          by_cases hj : j = k
          · subst hj; exact he
          · exact h3.out j a (by omega)
        clear he
        go_wp2_with fail
        refine ⟨⟨k + 1, by go_num, by omega, by omega, HE, HB⟩, by simp [intOf]; omega⟩
    · have HE := hide (numOf_no (s := s) (fun j a b => h3.out j a (by omega)))
      go_wp2_with fail
      go_ret
      rw [HE.out]
      exact ⟨rfl, hbw.out⟩
end Go.Proofs.YtpolajoephjdhaaGreatDoor
