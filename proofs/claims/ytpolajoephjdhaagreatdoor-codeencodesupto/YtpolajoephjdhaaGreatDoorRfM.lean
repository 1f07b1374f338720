import Derived.Test.YtpolajoephjdhaaGreatDoorShD
import Derived.Great.Walk
import Derived.Test.YtpolajoephjdhaaGreatDoorCpD
/-
  The document's table.
-/
namespace Go.Proofs.YtpolajoephjdhaaGreatDoor
open Go.RowKit
set_option maxRecDepth 100000
/-- What the document's row says of what is taken: below 0, by its A. -/
def tkD (k : Nat) : Int := if k = 21 then -1 else if k = 26 ∨ k = 28 then -2 else (tak k : Int)
/-- The document's table at its place. -/
def Td (W : World) (g : Nat) : Prop := ∀ k, k < 40 → W.cell? ⟨g, k * 4, none⟩ = some (.string (wd k)) ∧ W.cell? ⟨g, k * 4 + 1, none⟩ = some (.bool (numb k)) ∧ W.cell? ⟨g, k * 4 + 2, none⟩ = some (.int .i64 (tkD k)) ∧ W.cell? ⟨g, k * 4 + 3, none⟩ = some (.int .i64 (pts k : Int))
def tabC : Array Value := #[
  .string ⟨#[]⟩, .bool false, .int .i64 0, .int .i64 0,
  .string ⟨#[112, 117, 115, 104]⟩, .bool true, .int .i64 0, .int .i64 1,
  .string ⟨#[108, 111, 97, 100]⟩, .bool true, .int .i64 0, .int .i64 1,
  .string ⟨#[115, 116, 111, 114, 101]⟩, .bool true, .int .i64 1, .int .i64 0,
  .string ⟨#[102, 105, 101, 108, 100]⟩, .bool true, .int .i64 0, .int .i64 1,
  .string ⟨#[112, 117, 116]⟩, .bool true, .int .i64 1, .int .i64 0,
  .string ⟨#[97, 100, 100]⟩, .bool false, .int .i64 2, .int .i64 1,
  .string ⟨#[115, 117, 98]⟩, .bool false, .int .i64 2, .int .i64 1,
  .string ⟨#[109, 117, 108]⟩, .bool false, .int .i64 2, .int .i64 1,
  .string ⟨#[100, 105, 118]⟩, .bool false, .int .i64 2, .int .i64 1,
  .string ⟨#[114, 101, 109]⟩, .bool false, .int .i64 2, .int .i64 1,
  .string ⟨#[110, 101, 103]⟩, .bool false, .int .i64 1, .int .i64 1,
  .string ⟨#[101, 113]⟩, .bool false, .int .i64 2, .int .i64 1,
  .string ⟨#[110, 101]⟩, .bool false, .int .i64 2, .int .i64 1,
  .string ⟨#[108, 116]⟩, .bool false, .int .i64 2, .int .i64 1,
  .string ⟨#[108, 101]⟩, .bool false, .int .i64 2, .int .i64 1,
  .string ⟨#[103, 116]⟩, .bool false, .int .i64 2, .int .i64 1,
  .string ⟨#[103, 101]⟩, .bool false, .int .i64 2, .int .i64 1,
  .string ⟨#[110, 111, 116]⟩, .bool false, .int .i64 1, .int .i64 1,
  .string ⟨#[106, 117, 109, 112]⟩, .bool true, .int .i64 0, .int .i64 0,
  .string ⟨#[122, 101, 114, 111]⟩, .bool true, .int .i64 1, .int .i64 0,
  .string ⟨#[99, 97, 108, 108]⟩, .bool true, .int .i64 (-1), .int .i64 1,
  .string ⟨#[114, 101, 116]⟩, .bool false, .int .i64 1, .int .i64 0,
  .string ⟨#[115, 116, 111, 112]⟩, .bool false, .int .i64 0, .int .i64 0,
  .string ⟨#[115, 116, 101, 112]⟩, .bool false, .int .i64 0, .int .i64 0,
  .string ⟨#[101, 109, 105, 116]⟩, .bool false, .int .i64 2, .int .i64 0,
  .string ⟨#[112, 97, 114, 116]⟩, .bool true, .int .i64 (-2), .int .i64 0,
  .string ⟨#[115, 112, 97, 119, 110]⟩, .bool false, .int .i64 0, .int .i64 0,
  .string ⟨#[103, 105, 118, 101]⟩, .bool true, .int .i64 (-2), .int .i64 0,
  .string ⟨#[116, 97, 107, 101]⟩, .bool true, .int .i64 0, .int .i64 0,
  .string ⟨#[100, 105, 101]⟩, .bool false, .int .i64 0, .int .i64 0,
  .string ⟨#[114, 97, 110, 100]⟩, .bool false, .int .i64 1, .int .i64 1,
  .string ⟨#[116, 105, 99, 107]⟩, .bool false, .int .i64 0, .int .i64 1,
  .string ⟨#[109, 101]⟩, .bool false, .int .i64 0, .int .i64 1,
  .string ⟨#[105, 110, 112, 117, 116]⟩, .bool false, .int .i64 2, .int .i64 1,
  .string ⟨#[104, 97, 115]⟩, .bool true, .int .i64 0, .int .i64 1,
  .string ⟨#[109, 105, 110]⟩, .bool false, .int .i64 2, .int .i64 1,
  .string ⟨#[109, 97, 120]⟩, .bool false, .int .i64 2, .int .i64 1,
  .string ⟨#[97, 98, 115]⟩, .bool false, .int .i64 1, .int .i64 1,
  .string ⟨#[100, 114, 111, 112]⟩, .bool false, .int .i64 1, .int .i64 0
  ]
theorem tabC_at : ∀ k, k < 40 → tabC[k * 4]? = some (.string (wd k)) ∧ tabC[k * 4 + 1]? = some (.bool (numb k)) ∧ tabC[k * 4 + 2]? = some (.int .i64 (tkD k)) ∧ tabC[k * 4 + 3]? = some (.int .i64 (pts k : Int))
  | 0, _ => ⟨rfl, rfl, rfl, rfl⟩
  | 1, _ => ⟨rfl, rfl, rfl, rfl⟩
  | 2, _ => ⟨rfl, rfl, rfl, rfl⟩
  | 3, _ => ⟨rfl, rfl, rfl, rfl⟩
  | 4, _ => ⟨rfl, rfl, rfl, rfl⟩
  | 5, _ => ⟨rfl, rfl, rfl, rfl⟩
  | 6, _ => ⟨rfl, rfl, rfl, rfl⟩
  | 7, _ => ⟨rfl, rfl, rfl, rfl⟩
  | 8, _ => ⟨rfl, rfl, rfl, rfl⟩
  | 9, _ => ⟨rfl, rfl, rfl, rfl⟩
  | 10, _ => ⟨rfl, rfl, rfl, rfl⟩
  | 11, _ => ⟨rfl, rfl, rfl, rfl⟩
  | 12, _ => ⟨rfl, rfl, rfl, rfl⟩
  | 13, _ => ⟨rfl, rfl, rfl, rfl⟩
  | 14, _ => ⟨rfl, rfl, rfl, rfl⟩
  | 15, _ => ⟨rfl, rfl, rfl, rfl⟩
  | 16, _ => ⟨rfl, rfl, rfl, rfl⟩
  | 17, _ => ⟨rfl, rfl, rfl, rfl⟩
  | 18, _ => ⟨rfl, rfl, rfl, rfl⟩
  | 19, _ => ⟨rfl, rfl, rfl, rfl⟩
  | 20, _ => ⟨rfl, rfl, rfl, rfl⟩
  | 21, _ => ⟨rfl, rfl, rfl, rfl⟩
  | 22, _ => ⟨rfl, rfl, rfl, rfl⟩
  | 23, _ => ⟨rfl, rfl, rfl, rfl⟩
  | 24, _ => ⟨rfl, rfl, rfl, rfl⟩
  | 25, _ => ⟨rfl, rfl, rfl, rfl⟩
  | 26, _ => ⟨rfl, rfl, rfl, rfl⟩
  | 27, _ => ⟨rfl, rfl, rfl, rfl⟩
  | 28, _ => ⟨rfl, rfl, rfl, rfl⟩
  | 29, _ => ⟨rfl, rfl, rfl, rfl⟩
  | 30, _ => ⟨rfl, rfl, rfl, rfl⟩
  | 31, _ => ⟨rfl, rfl, rfl, rfl⟩
  | 32, _ => ⟨rfl, rfl, rfl, rfl⟩
  | 33, _ => ⟨rfl, rfl, rfl, rfl⟩
  | 34, _ => ⟨rfl, rfl, rfl, rfl⟩
  | 35, _ => ⟨rfl, rfl, rfl, rfl⟩
  | 36, _ => ⟨rfl, rfl, rfl, rfl⟩
  | 37, _ => ⟨rfl, rfl, rfl, rfl⟩
  | 38, _ => ⟨rfl, rfl, rfl, rfl⟩
  | 39, _ => ⟨rfl, rfl, rfl, rfl⟩
  | k + 40, h => absurd h (by omega)
theorem wp_buildSliceTo {P : Program} {o : Oper} {a : Act} {w : World} {K : Act → World → Prop} {Q : Exit → Act → World → Prop} (t e : TypeId) (len : Nat) (parts : Array (Nat × Operand)) (ho : o.op = .buildSlice t len parts)
    (hu : P.underlying t = some (.slice e)) (cells : Array Value)
    (hf : P.builtSlice e len (parts.map fun (i, x) => (i, a.eval x)).toList = some cells)
    (h : K (a.put o.dst (.slice (some ⟨w.heap.size, 0, none⟩) len len)) (w.alloc (.cells cells e))) : o.wp P a w K Q := by
  unfold Program.builtSlice at hf
  cases hie : P.info? e with
  | none => simp [hie] at hf
  | some ie =>
    simp only [hie] at hf
    cases hz : ie.zero with
    | none => simp [hz] at hf
    | some z =>
      simp only [hz] at hf
      by_cases hc : len * ie.size > 2 ^ 24 ∨ len * ie.size = 0
      · simp [hc] at hf
      · rw [if_neg hc] at hf
        exact wp_buildSlice t e len parts ho cells ie z hu hie hz (fun h' => hc (Or.inl h')) (fun h' => hc (Or.inr h')) hf h
set_option maxHeartbeats 2000000 in
theorem table_at (w : World) : Calls Tryz.prog 80 #[] w fun e w' => e = .returned (.slice (some ⟨w.heap.size, 0, none⟩) 40 40) ∧ w' = w.alloc (.cells tabC 134) := by
  obtain ⟨tc, htc⟩ : ∃ t, t = tabC := ⟨_, rfl⟩
  rw [← htc]
  have HT := hide htc
  clear htc
  go_enter Tryz.func80, Tryz.ntmps80
  go_wp2_with fail
  refine wp_buildSliceTo 135 134 40 _ rfl Tryz.underlying135 tc (by rw [HT.out]; kernel_rfl) ?_
  clear HT
  go_wp2_with fail
  go_ret
  exact ⟨rfl, rfl⟩
theorem table_any (w : World) : Calls Tryz.prog 80 #[] w fun e w' => e = .returned (.slice (some ⟨w.heap.size, 0, none⟩) 40 40) ∧ Below w.heap.size w w' ∧ Td w' w.heap.size := by
  refine (table_at w).mono ?_
  rintro e w' ⟨rfl, rfl⟩
  refine ⟨rfl, below_alloc w _, fun k hk => ?_⟩
  obtain ⟨a, b, c, d⟩ := tabC_at k hk
  have hn := heap_alloc_new w (.cells tabC 134)
  exact ⟨(cell_of_row _ _ _ _ 134 (0, 0) hn).trans a, (cell_of_row _ _ _ _ 134 (0, 0) hn).trans b, (cell_of_row _ _ _ _ 134 (0, 0) hn).trans c, (cell_of_row _ _ _ _ 134 (0, 0) hn).trans d⟩
end Go.Proofs.YtpolajoephjdhaaGreatDoor

/-
  The document's IsOp, Name, Number.
-/
namespace Go.Proofs.YtpolajoephjdhaaGreatDoor
open Go.RowKit
set_option maxRecDepth 100000
theorem disop_any (op : Int) (w : World) : Calls Tryz.prog 79 #[.int .i64 op] w fun e w' => e = .returned (.bool (decide (1 ≤ op ∧ op ≤ 39))) ∧ w' = w := by
  by_cases h : 1 ≤ op
  · go_enter Tryz.func79, Tryz.ntmps79
    go_wp2_with fail
    go_ret
    exact ⟨ret_bool (by simp [h]), rfl⟩
  · go_enter Tryz.func79, Tryz.ntmps79
    go_wp2_with fail
    go_ret
    exact ⟨ret_bool (by simp; omega), rfl⟩
theorem dname_any (op : Int) (w : World) : Calls Tryz.prog 48 #[.int .i64 op] w fun e w' => e = .returned (.string (wd (opk op))) ∧ Below w.heap.size w w' := by
  have i1 := hide (disop_any op)
  by_cases h : 1 ≤ op ∧ op ≤ 39
  · rw [opk_in h]
    have t1 : decide (1 ≤ op ∧ op ≤ 39) = true := by simp [h]
    rw [t1] at i1
    go_enter Tryz.func48, Tryz.ntmps48
    go_wp2_with fail
    refine (i1.out _).mono ?_
    rintro e w' ⟨rfl, rfl⟩
    go_wp2_with fail
    refine (table_any w').mono ?_
    rintro e w2 ⟨rfl, hb, ht⟩
    obtain ⟨c0, -, -, -⟩ := ht op.toNat (by omega)
    go_wp2_with fail
    go_ret
    exact ⟨rfl, hb⟩
  · rw [opk_out h]
    have t1 : decide (1 ≤ op ∧ op ≤ 39) = false := by simp; omega
    rw [t1] at i1
    go_enter Tryz.func48, Tryz.ntmps48
    go_wp2_with fail
    refine (i1.out _).mono ?_
    rintro e w' ⟨rfl, rfl⟩
    go_wp2_with fail
    go_ret
    exact ⟨rfl, Below.refl _ _⟩
theorem dnumber_any (s : ByteArray) (w : World) : Calls Tryz.prog 86 #[.string s] w fun e w' => e = .returned (.int .i64 (numOf s : Int)) ∧ Below w.heap.size w w' := by
  go_enter Tryz.func86, Tryz.ntmps86
  go_wp2
  go_loopw [3] (fun v wr => ∃ k : Nat, v = .int .i64 (k : Int) ∧ 1 ≤ k ∧ k ≤ 40 ∧ Hid (∀ j, 1 ≤ j → j < k → wd j ≠ s) ∧ Hid (Below w.heap.size w wr)) (fun v _ => 41 - (intOf v).toNat)
  case atStart => exact ⟨1, rfl, by omega, by omega, fun j h1 h2 => by omega, Below.refl _ _⟩
  case round =>
    obtain ⟨k, rfl, h1, h2, h3, hbw⟩ := hrel
    by_cases hk : k < 40
    · go_wp2_with fail
      refine (table_any wr).mono ?_
      rintro e w2 ⟨rfl, hb, ht⟩
      obtain ⟨c0, -, -, -⟩ := ht k hk
      have HB := hide (below_on hbw.out hb)
      clear hb ht hbw
      by_cases he : wd k = s
      · have hb : ((wd k).toList == s.toList) = true := by rw [beq_list]; simp [he]
        have HE := hide (numOf_at h1 hk he h3.out)
        clear he
        go_wp2_with fail
        go_ret
        rw [HE.out]
        exact ⟨rfl, HB.out⟩
      · have hb : ((wd k).toList == s.toList) = false := by rw [beq_list]; simp [he]
        have HE : Hid (∀ j, 1 ≤ j → j < k + 1 → wd j ≠ s) := fun j a b => by
          by_cases hj : j = k
          · subst hj; exact he
          · exact h3.out j a (by omega)
        clear he
        go_wp2_with fail
        refine ⟨⟨k + 1, by go_num, by omega, by omega, HE, HB⟩, by simp [intOf]; omega⟩
    · have HE := hide (numOf_no (s := s) (fun j a b => h3.out j a (by omega)))
      go_wp2_with fail
      go_ret
      rw [HE.out]
      exact ⟨rfl, hbw.out⟩
end Go.Proofs.YtpolajoephjdhaaGreatDoor

/-
  The document's HasA, instrs, routine, listed.
-/
namespace Go.Proofs.YtpolajoephjdhaaGreatDoor
open Go.RowKit
set_option maxRecDepth 100000
theorem dhasa_any (op : Int) (w : World) : Calls Tryz.prog 49 #[.int .i64 op] w fun e w' => e = .returned (.bool (numb (opk op))) ∧ Below w.heap.size w w' := by
  have i1 := hide (disop_any op)
  by_cases h : 1 ≤ op ∧ op ≤ 39
  · rw [opk_in h]
    have t1 : decide (1 ≤ op ∧ op ≤ 39) = true := by simp [h]
    rw [t1] at i1
    go_enter Tryz.func49, Tryz.ntmps49
    go_wp2_with fail
    refine (i1.out _).mono ?_
    rintro e w' ⟨rfl, rfl⟩
    go_wp2_with fail
    refine (table_any w').mono ?_
    rintro e w2 ⟨rfl, hb, ht⟩
    obtain ⟨-, c1, -, -⟩ := ht op.toNat (by omega)
    go_wp2_with fail
    go_ret
    exact ⟨rfl, hb⟩
  · rw [opk_out h]
    have t1 : decide (1 ≤ op ∧ op ≤ 39) = false := by simp; omega
    rw [t1] at i1
    go_enter Tryz.func49, Tryz.ntmps49
    go_wp2_with fail
    refine (i1.out _).mono ?_
    rintro e w' ⟨rfl, rfl⟩
    go_wp2_with fail
    go_ret
    exact ⟨rfl, Below.refl _ _⟩
set_option maxHeartbeats 2000000 in
theorem dinstrs_any {Q : Nat → Prop} {W : World} {v : Value} {l : List Ins} (h : Il Q W v l) : Calls Tryz.prog 96 #[v] W fun e w' => e = .returned (.bool (l.all isIns)) ∧ Below W.heap.size W w' := by
  have H := hide h
  obtain ⟨ao, c, rfl, hc1, hc2⟩ := h.at
  obtain ⟨n, hn⟩ : ∃ n, n = l.length := ⟨_, rfl⟩
  rw [← hn] at H hc1 ⊢
  have HN := hide hn
  obtain ⟨te, hte⟩ : ∃ t, t = l.all isIns := ⟨_, rfl⟩
  rw [← hte]
  have TE := hide hte
  clear h hn hte
  go_enter Tryz.func96, Tryz.ntmps96
  go_wp2_with fail
  go_loopw [3] (fun u wr => ∃ k : Nat, u = .int .i64 (k : Int) ∧ k ≤ n ∧ Hid (Below W.heap.size W wr) ∧ Hid ((l.take k).all isIns = true)) (fun u _ => n - (intOf u).toNat)
  case atStart => exact ⟨0, rfl, by omega, Below.refl _ _, rfl⟩
  case round =>
    obtain ⟨k, rfl, hk, hb, ha⟩ := hrel
    by_cases hlt : k < n
    · have hlt' : k < l.length := by rw [← HN.out]; exact hlt
      have E4 : Hid ((l.take (k + 1)).all isIns = isIns l[k]) := by
        unfold Hid
        rw [List.take_add_one, List.getElem?_eq_getElem hlt', List.all_append, ha.out]
        simp
      have E5 : Hid (isIns l[k] = false → l.all isIns = false) := fun h => by
        rw [List.all_eq_false]
        exact ⟨l[k], List.getElem_mem _, by rw [h]; simp⟩
      obtain ⟨g, o, rfl, -, d0, d1, -, -⟩ := (H.out.later hb.out).nth hlt'
      have J0 := hide (H.out.later hb.out)
      have NT : Hid (∀ w', Below wr.heap.size wr w' → w'.cell? ⟨g, o + k * 2, none⟩ = some (.int .i64 l[k].op) ∧ w'.cell? ⟨g, o + k * 2 + 1, none⟩ = some (.int .i64 l[k].a)) := fun w' hb' => ⟨(hb'.cell (World.block_lt_of_cell? wr _ d0)).trans d0, (hb'.cell (World.block_lt_of_cell? wr _ d1)).trans d1⟩
      have ID : Hid (isIns l[k] = (decide (1 ≤ l[k].op ∧ l[k].op ≤ 39) && (l[k].a == 0 || numb (opk l[k].op)))) := rfl
      have i1 := hide (disop_any l[k].op wr)
      have i2 := hide (dhasa_any l[k].op wr)
      generalize hq : isIns l[k] = q at *
      generalize l[k] = x at *
      obtain ⟨xo, xa⟩ := x
      dsimp only at d0 d1 ID i1 i2 NT
      clear J0 hq
      generalize decide (1 ≤ xo ∧ xo ≤ 39) = t1 at *
      generalize numb (opk xo) = t2 at *
      go_wp2_with fail
      refine i1.out.mono ?_
      rintro e w1 ⟨rfl, rfl⟩
      go_wp2_with fail
      refine i2.out.mono ?_
      rintro e w2 ⟨rfl, hb2⟩
      obtain ⟨e0, e1⟩ := NT.out w2 hb2
      have HX := hide (below_on hb.out hb2)
      clear d0 d1 hb2 i1 i2 NT
      cases t1 with
      | false =>
        obtain rfl : q = false := by rw [ID.out]; rfl
        obtain rfl : te = false := by rw [TE.out]; exact E5.out rfl
        go_wp2_with fail
        go_ret
        exact ⟨rfl, HX.out⟩
      | true =>
        cases t2 with
        | true =>
          obtain rfl : q = true := by rw [ID.out]; simp
          go_wp2_with fail
          exact ⟨⟨k + 1, by go_num, by omega, HX.out, E4.out⟩, by simp [intOf]; omega⟩
        | false =>
          by_cases hx : xa = 0
          · obtain rfl : q = true := by rw [ID.out]; simp [hx]
            subst hx
            go_wp2_with fail
            exact ⟨⟨k + 1, by go_num, by omega, HX.out, E4.out⟩, by simp [intOf]; omega⟩
          · obtain rfl : q = false := by rw [ID.out]; simp [hx]
            obtain rfl : te = false := by rw [TE.out]; exact E5.out rfl
            have hx' : (xa != 0) = true := by simpa using hx
            go_wp2_with fail
            go_ret
            exact ⟨rfl, HX.out⟩
    · obtain rfl : k = n := by omega
      obtain rfl : te = true := by
        rw [TE.out]
        have := ha.out
        rw [HN.out, List.take_length] at this
        exact this
      go_wp2_with fail
      go_ret
      exact ⟨rfl, hb.out⟩
end Go.Proofs.YtpolajoephjdhaaGreatDoor

/-
  The document's routine and listed.
-/
namespace Go.Proofs.YtpolajoephjdhaaGreatDoor
open Go.RowKit
set_option maxRecDepth 100000
/-- May a routine be written, but for its length? -/
def rtD (r : Rt) : Bool := decide (1 ≤ r.name.size ∧ r.name.size ≤ 16 ∧ 0 ≤ r.pa ∧ r.pa ≤ 4 ∧ r.pa ≤ r.lo ∧ r.lo ≤ 32) && r.code.all isIns
theorem rtOk_rtD (r : Rt) : rtOk r = (rtD r && decide (r.code.length ≤ 2000)) := by
  rw [Bool.eq_iff_iff]
  unfold rtOk rtD
  simp only [Bool.and_eq_true, decide_eq_true_eq]
  constructor
  · rintro ⟨⟨⟨⟨⟨a, b⟩, c, d⟩, e, f⟩, g⟩, h⟩
    exact ⟨⟨⟨a, b, c, d, e, f⟩, h⟩, g⟩
  · rintro ⟨⟨⟨a, b, c, d, e, f⟩, h⟩, g⟩
    exact ⟨⟨⟨⟨⟨a, b⟩, c, d⟩, e, f⟩, g⟩, h⟩
set_option maxHeartbeats 2000000 in
theorem droutine_at {Q : Nat → Prop} {W : World} {n c : Nat} {ao : Option Addr} (nm : ByteArray) (pa lo : Int) (code : List Ins) (h : Il Q W (.slice ao n c) code) (hs : nm.size ≤ 9223372036854775807) : Calls Tryz.prog 73 #[.agg #[.string nm, .int .i64 pa, .int .i64 lo, .slice ao n c]] W fun e w' => e = .returned (.bool (rtD ⟨nm, pa, lo, code⟩)) ∧ Below W.heap.size W w' := by
  obtain ⟨w0, hw0⟩ : ∃ X, X = W.alloc (.cells #[.string nm, .int .i64 pa, .int .i64 lo, .slice ao n c] 45) := ⟨_, rfl⟩
  have B0 : Below W.heap.size W w0 := hw0 ▸ below_alloc W _
  have n1 : w0.heap[W.heap.size]? = some (.cells #[.string nm, .int .i64 pa, .int .i64 lo, .slice ao n c] 45 (0, 0)) := by rw [hw0]; exact heap_alloc_new W _
  obtain ⟨B, hB⟩ : ∃ B, B = W.heap.size := ⟨_, rfl⟩
  rw [← hB] at n1
  have AT : Hid (∀ w', Below w0.heap.size w0 w' → w'.cell? ⟨B, 0, none⟩ = some (.string nm) ∧ w'.cell? ⟨B, 1, none⟩ = some (.int .i64 pa) ∧ w'.cell? ⟨B, 2, none⟩ = some (.int .i64 lo) ∧ w'.cell? ⟨B, 3, none⟩ = some (.slice ao n c)) := fun w' hb => row4 ((hb.block B (lt_of_block n1)).trans n1)
  have J := hide (dinstrs_any (h.later B0))
  obtain ⟨te, hte⟩ : ∃ t, t = rtD ⟨nm, pa, lo, code⟩ := ⟨_, rfl⟩
  rw [← hte]
  have TE := hide hte
  have HB := hide B0
  unfold rtD at TE
  dsimp only at TE
  generalize code.all isIns = q at *
  clear hte n1 B0 h
  go_enter Tryz.func73, Tryz.ntmps73
  go_upto_region 1 with fail
  rw [← hw0, ← hB]
  clear hw0 hB
  obtain ⟨c0, c1, c2, c3⟩ := AT.out w0 (Below.refl _ _)
  go_wp2_with fail
  refine J.out.mono ?_
  rintro e w2 ⟨rfl, hb2⟩
  clear c0 c1 c2 c3
  obtain ⟨c0, c1, c2, c3⟩ := AT.out w2 hb2
  have HX := hide (below_on HB.out hb2)
  clear J AT HB hb2
  cases q with
  | false =>
    obtain rfl : te = false := by rw [TE.out]; simp
    go_wp2_with fail
    go_ret
    exact ⟨rfl, HX.out⟩
  | true =>
    rw [Bool.and_true] at TE
    rcases (show ¬ (1 : Int) ≤ nm.size ∨ ((1 : Int) ≤ nm.size ∧ ¬ (nm.size : Int) ≤ 16) ∨ ((1 : Int) ≤ nm.size ∧ (nm.size : Int) ≤ 16 ∧ ¬ 0 ≤ pa) ∨ ((1 : Int) ≤ nm.size ∧ (nm.size : Int) ≤ 16 ∧ 0 ≤ pa ∧ ¬ pa ≤ 4) ∨ ((1 : Int) ≤ nm.size ∧ (nm.size : Int) ≤ 16 ∧ 0 ≤ pa ∧ pa ≤ 4 ∧ ¬ pa ≤ lo) ∨ ((1 : Int) ≤ nm.size ∧ (nm.size : Int) ≤ 16 ∧ 0 ≤ pa ∧ pa ≤ 4 ∧ pa ≤ lo) by omega) with a1 | ⟨a1, a2⟩ | ⟨a1, a2, a3⟩ | ⟨a1, a2, a3, a4⟩ | ⟨a1, a2, a3, a4, a5⟩ | ⟨a1, a2, a3, a4, a5⟩
    · obtain rfl : te = false := by rw [TE.out]; exact decide_eq_false (by omega)
      go_wp2_with fail
      go_ret
      exact ⟨rfl, HX.out⟩
    · obtain rfl : te = false := by rw [TE.out]; exact decide_eq_false (by omega)
      go_wp2_with fail
      go_ret
      exact ⟨rfl, HX.out⟩
    · obtain rfl : te = false := by rw [TE.out]; exact decide_eq_false (by omega)
      go_wp2_with fail
      go_ret
      exact ⟨rfl, HX.out⟩
    · obtain rfl : te = false := by rw [TE.out]; exact decide_eq_false (by omega)
      go_wp2_with fail
      go_ret
      exact ⟨rfl, HX.out⟩
    · obtain rfl : te = false := by rw [TE.out]; exact decide_eq_false (by omega)
      go_wp2_with fail
      go_ret
      exact ⟨rfl, HX.out⟩
    · obtain rfl : te = decide (lo ≤ 32) := by rw [TE.out, decide_eq_decide]; omega
      go_wp2_with fail
      go_ret
      exact ⟨rfl, HX.out⟩
theorem droutine_any {Q : Nat → Prop} {W : World} {vc : Value} (r : Rt) (h : Il Q W vc r.code) (hs : r.name.size ≤ 9223372036854775807) : Calls Tryz.prog 73 #[rtV r vc] W fun e w' => e = .returned (.bool (rtD r)) ∧ Below W.heap.size W w' := by
  obtain ⟨ao, c, rfl, -⟩ := h.at
  exact droutine_at r.name r.pa r.lo r.code h hs
set_option maxHeartbeats 2000000 in
theorem dlisted_at {Q : Nat → Prop} {W : World} {n c : Nat} {ao : Option Addr} (nm : ByteArray) (pa lo : Int) (code : List Ins) (hn : n = code.length) (_hc1 : n ≤ c) (_hc2 : c ≤ 9223372036854775807) (h : Il Q W (.slice ao n c) code) (hs : nm.size ≤ 9223372036854775807) : Calls Tryz.prog 46 #[.agg #[.string nm, .int .i64 pa, .int .i64 lo, .slice ao n c]] W fun e w' => e = .returned (.bool (lstOk ⟨nm, pa, lo, code⟩)) ∧ Below W.heap.size W w' := by
  obtain ⟨w0, hw0⟩ : ∃ X, X = W.alloc (.cells #[.string nm, .int .i64 pa, .int .i64 lo, .slice ao n c] 45) := ⟨_, rfl⟩
  have B0 : Below W.heap.size W w0 := hw0 ▸ below_alloc W _
  have n1 : w0.heap[W.heap.size]? = some (.cells #[.string nm, .int .i64 pa, .int .i64 lo, .slice ao n c] 45 (0, 0)) := by rw [hw0]; exact heap_alloc_new W _
  obtain ⟨B, hB⟩ : ∃ B, B = W.heap.size := ⟨_, rfl⟩
  rw [← hB] at n1
  have AT : Hid (∀ w', Below w0.heap.size w0 w' → w'.cell? ⟨B, 0, none⟩ = some (.string nm) ∧ w'.cell? ⟨B, 1, none⟩ = some (.int .i64 pa) ∧ w'.cell? ⟨B, 2, none⟩ = some (.int .i64 lo) ∧ w'.cell? ⟨B, 3, none⟩ = some (.slice ao n c)) := fun w' hb => row4 ((hb.block B (lt_of_block n1)).trans n1)
  have J := hide (droutine_at nm pa lo code (h.later B0) hs)
  obtain ⟨te, hte⟩ : ∃ t, t = lstOk ⟨nm, pa, lo, code⟩ := ⟨_, rfl⟩
  rw [← hte]
  have HB := hide B0
  have TE : Hid (te = (rtD ⟨nm, pa, lo, code⟩ && decide (n ≤ 2000) && nm.data.toList.all seen)) := by
    unfold Hid
    rw [hte, hn, ← rtOk_rtD]
    rfl
  generalize rtD ⟨nm, pa, lo, code⟩ = q at *
  clear hte n1 B0 h hn
  go_enter Tryz.func46, Tryz.ntmps46
  go_upto_region 1 with fail
  rw [← hw0, ← hB]
  clear hw0 hB
  obtain ⟨c0, c1, c2, c3⟩ := AT.out w0 (Below.refl _ _)
  go_wp2_with fail
  go_loop [3] (fun v => ∃ k : Nat, v = .int .i64 (k : Int) ∧ k ≤ nm.size ∧ Hid ((nm.data.toList.take k).all seen = true)) (fun v => nm.size - (intOf v).toNat)
  case atStart => exact ⟨0, rfl, by omega, rfl⟩
  case round =>
    obtain ⟨k, rfl, hk, ha⟩ := hrel
    by_cases hlt : k < nm.size
    · have E4 := hide (seen_go hlt ha.out)
      have E5 := hide (fun h => seen_no hlt h)
      by_cases hsn : 33 ≤ nm[k].toNat ∧ nm[k].toNat ≤ 126
      · have e2 : Hid (seen nm[k] = true) := by unfold Hid seen; exact decide_eq_true hsn
        have h33 : ¬ (nm[k].toNat : Int) < 33 := by omega
        have h126 : ¬ (126 : Int) < (nm[k].toNat : Int) := by omega
        clear hsn
        go_wp2_with fail
        exact ⟨⟨k + 1, by go_num, by omega, E4.out.trans e2.out⟩, by simp [intOf]; omega⟩
      · have e2 : Hid (seen nm[k] = false) := by unfold Hid seen; exact decide_eq_false hsn
        obtain rfl : te = false := by rw [TE.out, E5.out e2.out]; simp
        rcases (show nm[k].toNat < 33 ∨ (33 ≤ nm[k].toNat ∧ 126 < nm[k].toNat) by omega) with h33 | ⟨h33, h126⟩
        · have h33' : (nm[k].toNat : Int) < 33 := by omega
          clear hsn
          go_wp2_with fail
          go_ret
          exact ⟨rfl, HB.out⟩
        · have h33' : ¬ (nm[k].toNat : Int) < 33 := by omega
          have h126' : (126 : Int) < (nm[k].toNat : Int) := by omega
          clear hsn
          go_wp2_with fail
          go_ret
          exact ⟨rfl, HB.out⟩
    · obtain rfl : te = (q && decide (n ≤ 2000)) := by
        rw [TE.out]
        have := ha.out
        rw [List.take_of_length_le (by rw [Array.length_toList]; show nm.size ≤ k; omega)] at this
        rw [this, Bool.and_true]
      go_wp2_with fail
      refine J.out.mono ?_
      rintro e w2 ⟨rfl, hb2⟩
      clear c0 c1 c2 c3
      obtain ⟨c0, c1, c2, c3⟩ := AT.out w2 hb2
      have HX := hide (below_on HB.out hb2)
      clear hb2
      cases q with
      | false =>
        go_wp2_with fail
        go_ret
        exact ⟨rfl, HX.out⟩
      | true =>
        go_wp2_with fail
        go_ret
        exact ⟨ret_bool (by rw [Bool.true_and, decide_eq_decide]; omega), HX.out⟩
theorem dlisted_any {Q : Nat → Prop} {W : World} {vc : Value} (r : Rt) (h : Il Q W vc r.code) (hs : r.name.size ≤ 9223372036854775807) : Calls Tryz.prog 46 #[rtV r vc] W fun e w' => e = .returned (.bool (lstOk r)) ∧ Below W.heap.size W w' := by
  obtain ⟨ao, c, rfl, hc1, hc2⟩ := h.at
  exact dlisted_at r.name r.pa r.lo r.code rfl hc1 hc2 h hs
end Go.Proofs.YtpolajoephjdhaaGreatDoor
