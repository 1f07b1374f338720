import Derived.Test.YtfkhhplcogedmaaGreatDoorMgQ
import Derived.Great.Walk
import Derived.Test.YtfkhhplcogedmaaGreatDoorMgR
import Derived.Test.YtfkhhplcogedmaaGreatDoorMgM
/-
  The document's table.
-/
namespace Go.Proofs.YtfkhhplcogedmaaGreatDoor
open Go.RowKit
set_option maxRecDepth 100000
/-- What the document's row says of what is taken: below 0, by its A. -/
def tkD (k : Nat) : Int := if k = 21 then -1 else if k = 26 ∨ k = 28 then -2 else (tak k : Int)
/-- The document's table at its place. -/
def Td (W : World) (g : Nat) : Prop := ∀ k, k < 40 → W.cell? ⟨g, k * 4, none⟩ = some (.string (wd k)) ∧ W.cell? ⟨g, k * 4 + 1, none⟩ = some (.bool (numb k)) ∧ W.cell? ⟨g, k * 4 + 2, none⟩ = some (.int .i64 (tkD k)) ∧ W.cell? ⟨g, k * 4 + 3, none⟩ = some (.int .i64 (pts k : Int))
def tabC : Array Value := #[
  .string ⟨#[]⟩, .bool false, .int .i64 0, .int .i64 0,
  .string ⟨#[112, 117, 115, 104]⟩, .bool true, .int .i64 0, .int .i64 1,
  .string ⟨#[108, 111, 97, 100]⟩, .bool true, .int .i64 0, .int .i64 1,
  .string ⟨#[115, 116, 111, 114, 101]⟩, .bool true, .int .i64 1, .int .i64 0,
  .string ⟨#[102, 105, 101, 108, 100]⟩, .bool true, .int .i64 0, .int .i64 1,
  .string ⟨#[112, 117, 116]⟩, .bool true, .int .i64 1, .int .i64 0,
  .string ⟨#[97, 100, 100]⟩, .bool false, .int .i64 2, .int .i64 1,
  .string ⟨#[115, 117, 98]⟩, .bool false, .int .i64 2, .int .i64 1,
  .string ⟨#[109, 117, 108]⟩, .bool false, .int .i64 2, .int .i64 1,
  .string ⟨#[100, 105, 118]⟩, .bool false, .int .i64 2, .int .i64 1,
  .string ⟨#[114, 101, 109]⟩, .bool false, .int .i64 2, .int .i64 1,
  .string ⟨#[110, 101, 103]⟩, .bool false, .int .i64 1, .int .i64 1,
  .string ⟨#[101, 113]⟩, .bool false, .int .i64 2, .int .i64 1,
  .string ⟨#[110, 101]⟩, .bool false, .int .i64 2, .int .i64 1,
  .string ⟨#[108, 116]⟩, .bool false, .int .i64 2, .int .i64 1,
  .string ⟨#[108, 101]⟩, .bool false, .int .i64 2, .int .i64 1,
  .string ⟨#[103, 116]⟩, .bool false, .int .i64 2, .int .i64 1,
  .string ⟨#[103, 101]⟩, .bool false, .int .i64 2, .int .i64 1,
  .string ⟨#[110, 111, 116]⟩, .bool false, .int .i64 1, .int .i64 1,
  .string ⟨#[106, 117, 109, 112]⟩, .bool true, .int .i64 0, .int .i64 0,
  .string ⟨#[122, 101, 114, 111]⟩, .bool true, .int .i64 1, .int .i64 0,
  .string ⟨#[99, 97, 108, 108]⟩, .bool true, .int .i64 (-1), .int .i64 1,
  .string ⟨#[114, 101, 116]⟩, .bool false, .int .i64 1, .int .i64 0,
  .string ⟨#[115, 116, 111, 112]⟩, .bool false, .int .i64 0, .int .i64 0,
  .string ⟨#[115, 116, 101, 112]⟩, .bool false, .int .i64 0, .int .i64 0,
  .string ⟨#[101, 109, 105, 116]⟩, .bool false, .int .i64 2, .int .i64 0,
  .string ⟨#[112, 97, 114, 116]⟩, .bool true, .int .i64 (-2), .int .i64 0,
  .string ⟨#[115, 112, 97, 119, 110]⟩, .bool false, .int .i64 0, .int .i64 0,
  .string ⟨#[103, 105, 118, 101]⟩, .bool true, .int .i64 (-2), .int .i64 0,
  .string ⟨#[116, 97, 107, 101]⟩, .bool true, .int .i64 0, .int .i64 0,
  .string ⟨#[100, 105, 101]⟩, .bool false, .int .i64 0, .int .i64 0,
  .string ⟨#[114, 97, 110, 100]⟩, .bool false, .int .i64 1, .int .i64 1,
  .string ⟨#[116, 105, 99, 107]⟩, .bool false, .int .i64 0, .int .i64 1,
  .string ⟨#[109, 101]⟩, .bool false, .int .i64 0, .int .i64 1,
  .string ⟨#[105, 110, 112, 117, 116]⟩, .bool false, .int .i64 2, .int .i64 1,
  .string ⟨#[104, 97, 115]⟩, .bool true, .int .i64 0, .int .i64 1,
  .string ⟨#[109, 105, 110]⟩, .bool false, .int .i64 2, .int .i64 1,
  .string ⟨#[109, 97, 120]⟩, .bool false, .int .i64 2, .int .i64 1,
  .string ⟨#[97, 98, 115]⟩, .bool false, .int .i64 1, .int .i64 1,
  .string ⟨#[100, 114, 111, 112]⟩, .bool false, .int .i64 1, .int .i64 0
  ]
theorem tabC_at : ∀ k, k < 40 → tabC[k * 4]? = some (.string (wd k)) ∧ tabC[k * 4 + 1]? = some (.bool (numb k)) ∧ tabC[k * 4 + 2]? = some (.int .i64 (tkD k)) ∧ tabC[k * 4 + 3]? = some (.int .i64 (pts k : Int))
  | 0, _ => ⟨rfl, rfl, rfl, rfl⟩
  | 1, _ => ⟨rfl, rfl, rfl, rfl⟩
  | 2, _ => ⟨rfl, rfl, rfl, rfl⟩
  | 3, _ => ⟨rfl, rfl, rfl, rfl⟩
  | 4, _ => ⟨rfl, rfl, rfl, rfl⟩
  | 5, _ => ⟨rfl, rfl, rfl, rfl⟩
  | 6, _ => ⟨rfl, rfl, rfl, rfl⟩
  | 7, _ => ⟨rfl, rfl, rfl, rfl⟩
  | 8, _ => ⟨rfl, rfl, rfl, rfl⟩
  | 9, _ => ⟨rfl, rfl, rfl, rfl⟩
  | 10, _ => ⟨rfl, rfl, rfl, rfl⟩
  | 11, _ => ⟨rfl, rfl, rfl, rfl⟩
  | 12, _ => ⟨rfl, rfl, rfl, rfl⟩
  | 13, _ => ⟨rfl, rfl, rfl, rfl⟩
  | 14, _ => ⟨rfl, rfl, rfl, rfl⟩
  | 15, _ => ⟨rfl, rfl, rfl, rfl⟩
  | 16, _ => ⟨rfl, rfl, rfl, rfl⟩
  | 17, _ => ⟨rfl, rfl, rfl, rfl⟩
  | 18, _ => ⟨rfl, rfl, rfl, rfl⟩
  | 19, _ => ⟨rfl, rfl, rfl, rfl⟩
  | 20, _ => ⟨rfl, rfl, rfl, rfl⟩
  | 21, _ => ⟨rfl, rfl, rfl, rfl⟩
  | 22, _ => ⟨rfl, rfl, rfl, rfl⟩
  | 23, _ => ⟨rfl, rfl, rfl, rfl⟩
  | 24, _ => ⟨rfl, rfl, rfl, rfl⟩
  | 25, _ => ⟨rfl, rfl, rfl, rfl⟩
  | 26, _ => ⟨rfl, rfl, rfl, rfl⟩
  | 27, _ => ⟨rfl, rfl, rfl, rfl⟩
  | 28, _ => ⟨rfl, rfl, rfl, rfl⟩
  | 29, _ => ⟨rfl, rfl, rfl, rfl⟩
  | 30, _ => ⟨rfl, rfl, rfl, rfl⟩
  | 31, _ => ⟨rfl, rfl, rfl, rfl⟩
  | 32, _ => ⟨rfl, rfl, rfl, rfl⟩
  | 33, _ => ⟨rfl, rfl, rfl, rfl⟩
  | 34, _ => ⟨rfl, rfl, rfl, rfl⟩
  | 35, _ => ⟨rfl, rfl, rfl, rfl⟩
  | 36, _ => ⟨rfl, rfl, rfl, rfl⟩
  | 37, _ => ⟨rfl, rfl, rfl, rfl⟩
  | 38, _ => ⟨rfl, rfl, rfl, rfl⟩
  | 39, _ => ⟨rfl, rfl, rfl, rfl⟩
  | k + 40, h => absurd h (by omega)
theorem wp_buildSliceTo {P : Program} {o : Oper} {a : Act} {w : World} {K : Act → World → Prop} {Q : Exit → Act → World → Prop} (t e : TypeId) (len : Nat) (parts : Array (Nat × Operand)) (ho : o.op = .buildSlice t len parts)
    (hu : P.underlying t = some (.slice e)) (cells : Array Value)
    (hf : P.builtSlice e len (parts.map fun (i, x) => (i, a.eval x)).toList = some cells)
    (h : K (a.put o.dst (.slice (some ⟨w.heap.size, 0, none⟩) len len)) (w.alloc (.cells cells e))) : o.wp P a w K Q := by
  unfold Program.builtSlice at hf
  cases hie : P.info? e with
  | none => simp [hie] at hf
  | some ie =>
    simp only [hie] at hf
    cases hz : ie.zero with
    | none => simp [hz] at hf
    | some z =>
      simp only [hz] at hf
      by_cases hc : len * ie.size > 2 ^ 24 ∨ len * ie.size = 0
      · simp [hc] at hf
      · rw [if_neg hc] at hf
        exact wp_buildSlice t e len parts ho cells ie z hu hie hz (fun h' => hc (Or.inl h')) (fun h' => hc (Or.inr h')) hf h
set_option maxHeartbeats 2000000 in
theorem table_at (w : World) : Calls Tryz.prog 103 #[] w fun e w' => e = .returned (.slice (some ⟨w.heap.size, 0, none⟩) 40 40) ∧ w' = w.alloc (.cells tabC 176) := by
  obtain ⟨tc, htc⟩ : ∃ t, t = tabC := ⟨_, rfl⟩
  rw [← htc]
  have HT := hide htc
  clear htc
  go_enter Tryz.func103, Tryz.ntmps103
  go_wp2_with fail
  refine wp_buildSliceTo 177 176 40 _ rfl Tryz.underlying177 tc (by rw [HT.out]; kernel_rfl) ?_
  clear HT
  go_wp2_with fail
  go_ret
  exact ⟨rfl, rfl⟩
theorem table_any (w : World) : Calls Tryz.prog 103 #[] w fun e w' => e = .returned (.slice (some ⟨w.heap.size, 0, none⟩) 40 40) ∧ Below w.heap.size w w' ∧ Td w' w.heap.size := by
  refine (table_at w).mono ?_
  rintro e w' ⟨rfl, rfl⟩
  refine ⟨rfl, below_alloc w _, fun k hk => ?_⟩
  obtain ⟨a, b, c, d⟩ := tabC_at k hk
  have hn := heap_alloc_new w (.cells tabC 176)
  exact ⟨(cell_of_row _ _ _ _ 176 (0, 0) hn).trans a, (cell_of_row _ _ _ _ 176 (0, 0) hn).trans b, (cell_of_row _ _ _ _ 176 (0, 0) hn).trans c, (cell_of_row _ _ _ _ 176 (0, 0) hn).trans d⟩
end Go.Proofs.YtfkhhplcogedmaaGreatDoor

/-
  The document's IsOp, Name, Number.
-/
namespace Go.Proofs.YtfkhhplcogedmaaGreatDoor
open Go.RowKit
set_option maxRecDepth 100000
theorem disop_any (op : Int) (w : World) : Calls Tryz.prog 101 #[.int .i64 op] w fun e w' => e = .returned (.bool (decide (1 ≤ op ∧ op ≤ 39))) ∧ w' = w := by
  by_cases h : 1 ≤ op
  · go_enter Tryz.func101, Tryz.ntmps101
    go_wp2_with fail
    go_ret
    exact ⟨ret_bool (by simp [h]), rfl⟩
  · go_enter Tryz.func101, Tryz.ntmps101
    go_wp2_with fail
    go_ret
    exact ⟨ret_bool (by simp; omega), rfl⟩
end Go.Proofs.YtfkhhplcogedmaaGreatDoor

/-
  Verify: the document's search for a way back, plain.
-/
namespace Go.Proofs.YtfkhhplcogedmaaGreatDoor
section
variable {E : Nat → List Nat} {n a : Nat} {seen : Nat → Bool} {todo : List Nat}
/-- What the document's search for a way back holds: the places that were seen, those to look at (the first is next). -/
structure Wo (E : Nat → List Nat) (n a : Nat) (seen : Nat → Bool) (todo : List Nat) : Prop where
  way : ∀ y ∈ todo, ∃ k, pth E k a y
  next : ∀ z, (z = a ∨ seen z = true) → z ∈ todo ∨ ∀ y ∈ E z, y ≠ a ∧ seen y = true
  lt : ∀ y ∈ todo, y < n
/-- Within a turn of it: x is looked at, of its own these are left. -/
structure Wb (E : Nat → List Nat) (n a : Nat) (seen : Nat → Bool) (todo : List Nat) (x : Nat) (r : List Nat) : Prop where
  way : ∀ y ∈ todo, ∃ k, pth E k a y
  now : ∀ y ∈ r, ∃ k, pth E (k + 1) a y
  next : ∀ z, (z = a ∨ seen z = true) → z ∈ todo ∨ ∀ y ∈ E z, (y ≠ a ∧ seen y = true) ∨ (z = x ∧ y ∈ r)
  lt : ∀ y ∈ todo, y < n
theorem Wo.init (ha : a < n) : Wo E n a (fun _ => false) [a] where
  way := fun y hy => ⟨0, by rw [List.mem_singleton.1 hy]; rfl⟩
  next := fun z hz => by
    rcases hz with rfl | h
    · exact .inl (by simp)
    · cases h
  lt := fun y hy => by rw [List.mem_singleton.1 hy]; exact ha
theorem Wo.pop {x : Nat} (h : Wo E n a seen (x :: todo)) : Wb E n a seen todo x (E x) where
  way := fun y hy => h.way y (by simp [hy])
  now := fun y hy => by
    obtain ⟨k, hk⟩ := h.way x (by simp)
    exact ⟨k, pth_snoc hk hy⟩
  next := fun z hz => by
    rcases h.next z hz with e | e
    · rw [List.mem_cons] at e
      rcases e with rfl | e
      · exact .inr fun y hy => .inr ⟨rfl, hy⟩
      · exact .inl e
    · exact .inr fun y hy => .inl (e y hy)
  lt := fun y hy => h.lt y (by simp [hy])
theorem Wb.hit {x y : Nat} {r : List Nat} (h : Wb E n a seen todo x (y :: r)) (hy : y = a) : Cyc E a := by
  obtain ⟨k, hk⟩ := h.now y (by simp)
  subst hy
  exact ⟨k, hk⟩
theorem Wb.known {x y : Nat} {r : List Nat} (h : Wb E n a seen todo x (y :: r)) (hy : y ≠ a) (hs : seen y = true) : Wb E n a seen todo x r where
  way := h.way
  now := fun z hz => h.now z (by simp [hz])
  next := fun z hz => by
    rcases h.next z hz with e | e
    · exact .inl e
    · refine .inr fun w hw => ?_
      rcases e w hw with e1 | ⟨e1, e2⟩
      · exact .inl e1
      · rw [List.mem_cons] at e2
        rcases e2 with rfl | e2
        · exact .inl ⟨hy, hs⟩
        · exact .inr ⟨e1, e2⟩
  lt := h.lt
/-- One more is seen. -/
def addS (seen : Nat → Bool) (y : Nat) : Nat → Bool := fun z => seen z || decide (z = y)
theorem addS_iff {y z : Nat} : addS seen y z = true ↔ seen z = true ∨ z = y := by unfold addS; simp
theorem Wb.put {x y : Nat} {r : List Nat} (h : Wb E n a seen todo x (y :: r)) (hy : y ≠ a) (hn : y < n) : Wb E n a (addS seen y) (todo ++ [y]) x r where
  way := fun z hz => by
    rw [List.mem_append, List.mem_singleton] at hz
    rcases hz with hz | rfl
    · exact h.way z hz
    · obtain ⟨k, hk⟩ := h.now z (by simp)
      exact ⟨k + 1, hk⟩
  now := fun z hz => h.now z (by simp [hz])
  next := fun z hz => by
    have key : (z = a ∨ seen z = true) → z ∈ todo ++ [y] ∨ ∀ w ∈ E z, (w ≠ a ∧ addS seen y w = true) ∨ (z = x ∧ w ∈ r) := fun hz => by
      rcases h.next z hz with e | e
      · exact .inl (by simp [e])
      · refine .inr fun w hw => ?_
        rcases e w hw with ⟨e1, e2⟩ | ⟨e1, e2⟩
        · exact .inl ⟨e1, addS_iff.2 (.inl e2)⟩
        · rw [List.mem_cons] at e2
          rcases e2 with rfl | e2
          · exact .inl ⟨hy, addS_iff.2 (.inr rfl)⟩
          · exact .inr ⟨e1, e2⟩
    rcases hz with hz | hz
    · exact key (.inl hz)
    · rcases addS_iff.1 hz with hz | rfl
      · exact key (.inr hz)
      · exact .inl (by simp)
  lt := fun z hz => by
    rw [List.mem_append, List.mem_singleton] at hz
    rcases hz with hz | rfl
    · exact h.lt z hz
    · exact hn
theorem Wb.leave {x : Nat} (h : Wb E n a seen todo x []) : Wo E n a seen todo where
  way := h.way
  next := fun z hz => by
    rcases h.next z hz with e | e
    · exact .inl e
    · refine .inr fun w hw => ?_
      rcases e w hw with e1 | ⟨e1, e2⟩
      · exact e1
      · cases e2
  lt := h.lt
theorem Wo.done (h : Wo E n a seen []) : ¬ Cyc E a := by
  have key : ∀ k b c, (b = a ∨ seen b = true) → pth E (k + 1) b c → c ≠ a ∧ seen c = true := by
    intro k
    induction k with
    | zero =>
      rintro b c hb ⟨d, hd, e⟩
      have e' : d = c := e
      subst e'
      rcases h.next b hb with e1 | e1
      · cases e1
      · exact e1 d hd
    | succ k ih =>
      rintro b c hb ⟨d, hd, e⟩
      rcases h.next b hb with e1 | e1
      · cases e1
      · exact ih d c (.inr (e1 d hd).2) e
  rintro ⟨k, hk⟩
  exact (key k a a (.inl rfl) hk).1 rfl
/-- How much is left. -/
def woM (n : Nat) (seen : Nat → Bool) (todo : List Nat) : Nat := sumU n (fun y => if seen y then 0 else 1) + todo.length
theorem woM_pop {x : Nat} : woM n seen todo + 1 = woM n seen (x :: todo) := by
  unfold woM
  rw [List.length_cons]
  omega
theorem woM_put {y : Nat} (hy : y < n) (hs : seen y = false) : woM n (addS seen y) (todo ++ [y]) = woM n seen todo := by
  unfold woM
  rw [List.length_append, List.length_singleton]
  have := sumU_less (n := n) (x := y) (c := 1) (f := fun z => if seen z then 0 else 1) (g := fun z => if addS seen y z then 0 else 1) hy (fun z hz => by simp [addS, hz]) (by simp [addS, hs])
  omega
theorem woM_init (a : Nat) : woM n (fun _ => false) [a] = n + 1 := by
  have key : ∀ m, sumU m (fun _ => if false then 0 else 1) = m := fun m => by
    induction m with
    | zero => rfl
    | succ m ih => rw [sumU_succ, ih]; rfl
  unfold woM
  rw [List.length_singleton]
  exact congrArg (· + 1) (key n)
theorem woM_len : todo.length ≤ woM n seen todo := by unfold woM; omega
end
end Go.Proofs.YtfkhhplcogedmaaGreatDoor

/-
  Verify: a list of numbers from which the first is taken away, in memory; what was seen.
-/
namespace Go.Proofs.YtfkhhplcogedmaaGreatDoor
open Go.RowKit
set_option maxRecDepth 100000
theorem infoQi : (Tryz.prog.info? 3).map (fun i => (i.zero, i.size, i.bytes)) = some (some (.int .i64 0), 1, 8) := by kernel_rfl
theorem nzl (l : List Nat) : (nz l).length = l.length := by simp [nz]
/-- Numbers from which the first is taken away, and behind which one is put. -/
def Qi (W : World) (B : Nat) (v : Value) (l : List Nat) : Prop :=
  ∃ g o c cs, v = .slice (some ⟨g, o, none⟩) l.length c ∧ B ≤ g ∧ W.heap[g]? = some (.cells cs 3 (0, 0)) ∧ l.length ≤ c ∧ c ≤ maxLen ∧ (0 < c → o + c = cs.size) ∧ ∀ j u, (nz l)[j]? = some u → cs[o + j]? = some u
theorem Qi.later {W W' : World} {B : Nat} {v : Value} {l : List Nat} (h : Qi W B v l) (hb : Below W.heap.size W W') : Qi W' B v l := by
  obtain ⟨g, o, c, cs, h1, h2, h3, h4⟩ := h
  exact ⟨g, o, c, cs, h1, h2, (hb.block g (lt_of_block h3)).trans h3, h4⟩
theorem Qi.kind {W W' : World} {B : Nat} {v : Value} {l : List Nat} (h : Qi W B v l) (hk : ∀ g cs, v.ownBlock = some g → W.heap[g]? = some (.cells cs 3 (0, 0)) → W'.heap[g]? = some (.cells cs 3 (0, 0))) : Qi W' B v l := by
  obtain ⟨g, o, c, cs, h1, h2, h3, h4⟩ := h
  exact ⟨g, o, c, cs, h1, h2, hk g cs (by rw [h1]; rfl) h3, h4⟩
theorem Qi.pop1 {W : World} {B g o o' : Nat} {m : Nat} {l : List Nat} {n : Nat} (h : Qi W B (.slice (some ⟨g, o, none⟩) n 1) (m :: l)) : l = [] ∧ n = 1 ∧ Qi W B (.slice (some ⟨g, o', none⟩) 0 0) [] := by
  obtain ⟨g', o2, c, cs, h1, h2, h3, h4, h5, h6, h7⟩ := h
  injection h1 with e1 e2 e3
  injection e1 with e1
  injection e1 with e1 e4
  subst e1 e2 e3 e4
  rw [List.length_cons] at h4
  have : l = [] := List.eq_nil_of_length_eq_zero (by omega)
  subst this
  exact ⟨rfl, rfl, g, o', 0, cs, rfl, h2, h3, Nat.le_refl _, Nat.zero_le _, fun h => absurd h (by omega), fun j u h => by simp [nz] at h⟩
theorem Qi.pop {W : World} {B g o c n : Nat} {m : Nat} {l : List Nat} (h : Qi W B (.slice (some ⟨g, o, none⟩) (n + 1) (c + 1)) (m :: l)) : Qi W B (.slice (some ⟨g, o + 1, none⟩) n c) l := by
  obtain ⟨g', o2, c', cs, h1, h2, h3, h4, h5, h6, h7⟩ := h
  injection h1 with e1 e2 e3
  injection e1 with e1
  injection e1 with e1 e4
  subst e1 e4
  rw [List.length_cons] at e2
  obtain rfl : n = l.length := by omega
  subst e3
  rw [List.length_cons] at h4
  refine ⟨g, o + 1, c, cs, rfl, h2, h3, by omega, by omega, fun _ => by have := h6 (by omega); omega, fun j u hj => ?_⟩
  have := h7 (j + 1) u (by simpa [nz] using hj)
  rwa [show o + 1 + j = o + (j + 1) by omega]
theorem Qi.head {W : World} {B g o c n : Nat} {p : Nat} {l : List Nat} (h : Qi W B (.slice (some ⟨g, o, none⟩) n c) (p :: l)) : W.cell? ⟨g, o, none⟩ = some (.int .i64 (p : Int)) := by
  obtain ⟨g', o2, c', cs, h1, h2, h3, h4, h5, h6, h7⟩ := h
  injection h1 with e1 e2 e3
  injection e1 with e1
  injection e1 with e1 e4
  subst e1 e4
  rw [cell_of_row W _ _ _ 3 (0, 0) h3]
  exact h7 0 _ rfl
theorem Qi.form {W : World} {B : Nat} {v : Value} {l : List Nat} (h : Qi W B v l) : ∃ g o c, v = .slice (some ⟨g, o, none⟩) l.length c ∧ l.length ≤ c ∧ c ≤ 9223372036854775807 ∧ B ≤ g ∧ ∃ cs, W.heap[g]? = some (.cells cs 3 (0, 0)) := by
  obtain ⟨g, o, c, cs, h1, h2, h3, h4, h5, -⟩ := h
  exact ⟨g, o, c, h1, h4, by unfold maxLen at h5; omega, h2, cs, h3⟩
theorem nz_append (a b : List Nat) : nz (a ++ b) = nz a ++ nz b := by simp [nz]
theorem nz_one (l : List Nat) : ∀ u ∈ nz l, u.oneCell' = true := by
  intro u hu
  unfold nz at hu
  obtain ⟨y, -, rfl⟩ := List.mem_map.1 hu
  rfl
theorem run_appendN (w : World) (ty B : Nat) (v : Value) (l : List Nat) (hq : Qi w B v l) (ad : Addr) (c y : Nat) (hy : ∀ j u, (nz [y])[j]? = some u → w.cell? (ad.add j) = some u) (hb : l.length ≤ 1000000) (hB : B ≤ w.heap.size) :
    ∃ v' w', (Builtin.append_ #[36, 36] ty #[v, .slice (some ad) 1 c]).run Tryz.prog w = .ok v' w' ∧ Qi w' B v' (l ++ [y]) ∧ w.grownBy w' v.ownBlock ∧ (v'.ownBlock = v.ownBlock ∨ v'.ownBlock = some w.heap.size) := by
  obtain ⟨i0, hi, hz0, hz1, hz2⟩ := info_parts infoQi
  obtain ⟨g, o, k, cs, rfl, h2, h3, h4, h5, h6, h7⟩ := hq
  have hml := nzl l
  by_cases hroom : l.length + 1 ≤ k
  · have hcs := h6 (by omega)
    have hlen2 : (nz [y]).length = 1 := rfl
    have hr := run_append_roomAt (P := Tryz.prog) w 36 ty 3 i0 Tryz.underlying36 hi g o l.length k cs h3 ad 1 c (nz [y]) (by rw [hz1]; rfl) hy (nz_one _) hroom (by rw [hz1, hlen2]; omega)
    refine ⟨_, _, hr, ⟨g, o, k, _, by rw [List.length_append, List.length_singleton], h2, setRow_heap w g cs _ 3 _ h3, by rw [List.length_append, List.length_singleton]; exact hroom, h5, fun h => ?_, fun j u hj => ?_⟩, ⟨rfl, rfl, rfl, by simp, fun j _ hj => setRow_other w g j _ (fun e => hj (by simp [Value.ownBlock, e]))⟩, .inl rfl⟩
    · rw [hcs, hz1]
      simp only [List.size_toArray, List.length_append, List.length_take, List.length_drop, Array.length_toList, hlen2]
      omega
    · rw [hz1, Nat.mul_one]
      rw [nz_append] at hj
      rw [List.getElem?_toArray]
      by_cases hjl : j < l.length
      · rw [List.getElem?_append_left (by omega)] at hj
        have hx := h7 j u hj
        rw [List.append_assoc, List.getElem?_append_left (by rw [List.length_take, (Array.length_toList : cs.toList.length = cs.size)]; omega), List.getElem?_take_of_lt (by omega), (Array.getElem?_toList : cs.toList[o + j]? = cs[o + j]?)]
        exact hx
      · rw [List.getElem?_append_right (by omega), hml] at hj
        have hj2 := (List.getElem?_eq_some_iff.1 hj).1
        rw [hlen2] at hj2
        have hlt : (cs.toList.take (o + l.length)).length = o + l.length := by rw [List.length_take, (Array.length_toList : cs.toList.length = cs.size)]; omega
        rw [List.append_assoc, List.getElem?_append_right (by omega), hlt, List.getElem?_append_left (by rw [hlen2]; omega), show o + j - (o + l.length) = j - l.length by omega]
        exact hj
  · have hh : ∀ j u, (nz l)[j]? = some u → w.cell? ((⟨g, o, none⟩ : Addr).add j) = some u := fun j u hj => by
      rw [Addr.add_lit, cell_of_row w _ _ _ 3 (0, 0) h3]
      exact h7 j u hj
    have hr := run_append_grow (P := Tryz.prog) w 36 ty 3 i0 (.int .i64 0) Tryz.underlying36 hi hz0 ⟨g, o, none⟩ l.length k (nz l) (by rw [hz1, Nat.mul_one]; exact hml) hh ad 1 c (nz [y]) (by rw [hz1]; rfl) hy (by omega) (by omega) (growslice_fits (by omega) (by rw [hz2]; omega))
    have hge := grownCap_ge w (l.length + 1) k 3
    have hcm : grownCap w (l.length + 1) k 3 ≤ maxLen := grownCap_le_maxLen w (l.length + 1) k 3 (by unfold maxLen; omega)
    refine ⟨_, _, hr, ⟨w.heap.size, 0, _, _, by rw [List.length_append, List.length_singleton], hB, heap_alloc_new w.drew _, by rw [List.length_append, List.length_singleton]; exact hge, hcm, fun _ => ?_, fun j u hj => ?_⟩, ⟨rfl, rfl, rfl, by simp, fun k hk _ => heap_alloc_old w.drew _ hk⟩, .inr rfl⟩
    · simp only [Array.size_append, List.size_toArray, size_zeroCells, hml]
      have : (nz [y]).length = 1 := rfl
      rw [this]
      show 0 + _ = _ + (_ - _) * 1
      omega
    · rw [nz_append] at hj
      have hlt := (List.getElem?_eq_some_iff.1 hj).1
      rw [Nat.zero_add, Array.append_assoc, Array.getElem?_append]
      simp only [List.size_toArray]
      by_cases hjl : j < (nz l).length
      · rw [if_pos hjl, List.getElem?_toArray]
        rwa [List.getElem?_append_left hjl] at hj
      · rw [if_neg hjl, Array.getElem?_append]
        rw [List.getElem?_append_right (by omega)] at hj
        simp only [List.size_toArray]
        rw [if_pos (List.getElem?_eq_some_iff.1 hj).1, List.getElem?_toArray]
        exact hj
/-- At the operation. -/
theorem appendN {w : World} {ops : Array Oper} {rest : List Oper} {o : Oper} {a : Act} {Q : Exit → Act → World → Prop} (hgd : o.guard = none) (s x : Operand)
    (ho : o.op = .call { callee := .builtin .append, args := #[s, x], argTypes := #[36, 36] })
    (B : Nat) (v : Value) (l : List Nat) (hs : a.eval s = v) (hq : Qi w B v l) (ad : Addr) (c y : Nat) (hx : a.eval x = .slice (some ad) 1 c) (hy : ∀ j u, (nz [y])[j]? = some u → w.cell? (ad.add j) = some u) (hb : l.length ≤ 1000000) (hB : B ≤ w.heap.size)
    (h : ∀ v' w', Qi w' B v' (l ++ [y]) → w.grownBy w' v.ownBlock → (v'.ownBlock = v.ownBlock ∨ v'.ownBlock = some w.heap.size) → wpList Tryz.prog ops Q rest (a.put o.dst v') w') :
    wpList Tryz.prog ops Q (o :: rest) a w := by
  refine wpList_plain hgd fun K hK => ?_
  obtain ⟨v', w', hr, h2, h3, h4⟩ := run_appendN w o.type B v l hq ad c y hy hb hB
  unfold Oper.wp execOp
  simp only [ho, resolve, invoke, builtin, Sem.run_bind, Sem.run_pure, Result.andThen_ok, List.map_toArray, List.map_cons, List.map_nil, hs, hx, hr]
  exact hK _ _ (h v' w' h2 h3 h4)
theorem run_sliceN (w : World) (g o n c : Nat) (hc : n + 1 ≤ c) : (Instr.slice 36 (.slice (some ⟨g, o, none⟩) (n + 1) c) (some (.int .i64 1)) none none).run Tryz.prog w = .ok (.slice (if c = 1 then some ⟨g, o, none⟩ else some ⟨g, o + 1, none⟩) n (c - 1)) w := by
  obtain ⟨i0, hi, hz0, hz1, hz2⟩ := info_parts infoQi
  have hb : (Instr.sliceBounds true (n + 1) c (some (.int .i64 1)) none none).run Tryz.prog w = .ok (1, n + 1, c) w := by
    have := run_sliceBound (P := Tryz.prog) w .i64 1 (n + 1) .sliceB (by omega) (by omega)
    simp [Instr.sliceBounds, this]
  simp only [Instr.slice, Sem.run_bind, run_underlying Tryz.underlying36, Result.andThen_ok, hb, Go.sizeOf, typeInfo, Sem.run_pure]
  by_cases e : c = 1
  · subst e
    simp [hi, hz1]
  · simp [hi, hz1, e, Addr.add_lit]
theorem sliceN {w : World} {ops : Array Oper} {rest : List Oper} {o : Oper} {a : Act} {Q : Exit → Act → World → Prop} (hgd : o.guard = none) (x : Operand)
    (ho : o.op = .slice 36 x (some (.const (.int .i64 1))) none none)
    (B : Nat) (v : Value) (m : Nat) (l : List Nat) (hx : a.eval x = v) (hq : Qi w B v (m :: l))
    (h : ∀ v', Qi w B v' l → wpList Tryz.prog ops Q rest (a.put o.dst v') w) :
    wpList Tryz.prog ops Q (o :: rest) a w := by
  refine wpList_plain hgd fun K hK => ?_
  obtain ⟨g, o', c, cs, e, hh⟩ := id hq
  subst e
  rw [List.length_cons] at hx hq hh
  have hr := run_sliceN w g o' l.length c hh.2.2.1
  have hr2 : (Instr.sliceAt 36 (.slice (some ⟨g, o', none⟩) (l.length + 1) c) (some (.int .i64 1)) none none).run Tryz.prog w = .ok (.slice (if c = 1 then some ⟨g, o', none⟩ else some ⟨g, o' + 1, none⟩) l.length (c - 1)) w := (run_sliceAt_slice (P := Tryz.prog) w _ _ _ _ _ Tryz.underlying36).trans hr
  unfold Oper.wp execOp
  simp only [ho, hx, Option.map, Sem.run_bind, Sem.run_pure]
  rw [show a.eval (.const (.int .i64 1)) = .int .i64 1 from rfl, hr2]
  simp only [Result.andThen_ok]
  refine hK _ _ (h _ ?_)
  by_cases e : c = 1
  · subst e
    rw [if_pos rfl]
    obtain ⟨rfl, -, h3⟩ := hq.pop1 (o' := o')
    exact h3
  · obtain ⟨k, rfl⟩ : ∃ k, c = k + 1 := ⟨c - 1, by have := hh.2.2.1; omega⟩
    rw [if_neg e]
    exact hq.pop
/-- The table of those seen. -/
def Bm (W : World) (g n : Nat) (seen : Nat → Bool) : Prop := ∃ cs, W.heap[g]? = some (.cells cs 4 (0, 0)) ∧ cs.size = n ∧ ∀ p, p < n → cs[p]? = some (.bool (seen p))
theorem Bm.later {W W' : World} {g n : Nat} {seen : Nat → Bool} (h : Bm W g n seen) (hb : Below W.heap.size W W') : Bm W' g n seen := by
  obtain ⟨cs, h1, h2⟩ := h
  exact ⟨cs, (hb.block g (lt_of_block h1)).trans h1, h2⟩
theorem Bm.at {W : World} {g n p : Nat} {seen : Nat → Bool} (h : Bm W g n seen) (hp : p < n) : W.cell? ⟨g, p, none⟩ = some (.bool (seen p)) ∧ W.frozen? ⟨g, p, none⟩ = false := by
  obtain ⟨cs, h1, h2, h3⟩ := h
  exact ⟨by rw [cell_of_row W _ _ _ 4 (0, 0) h1]; exact h3 p hp, frozen_of_row W g _ _ 4 h1⟩
theorem Bm.put {W : World} {g n p : Nat} {seen : Nat → Bool} (h : Bm W g n seen) (hp : p < n) : Bm (W.setCell ⟨g, p, none⟩ (.bool true)) g n (addS seen p) := by
  obtain ⟨cs, h1, h2, h3⟩ := h
  refine ⟨_, heap_setCell_same W g _ _ 4 _ h1, by simpa using h2, fun q hq => ?_⟩
  rw [Array.getElem?_setIfInBounds]
  by_cases c : p = q
  · subst c
    rw [if_pos rfl, if_pos (by omega), addS_iff.2 (.inr rfl)]
  · rw [if_neg c, h3 q hq]
    have : ¬ q = p := fun e => c e.symm
    simp [addS, this]
theorem Bm.grown {W W' : World} {B g n : Nat} {v : Value} {l : List Nat} {seen : Nat → Bool} (hq : Qi W B v l) (hg : W.grownBy W' v.ownBlock) (h : Bm W g n seen) : Bm W' g n seen := by
  obtain ⟨g', o, c, cs', rfl, -, h3, -⟩ := hq
  obtain ⟨cs, h1, h2⟩ := h
  refine ⟨cs, (hg.block g (lt_of_block h1) (fun e => ?_)).trans h1, h2⟩
  have e' : g = g' := by simpa [Value.ownBlock] using e
  subst e'
  rw [h3] at h1
  injection h1 with h1
  injection h1 with h5 h6
  exact absurd h6 (by decide)
end Go.Proofs.YtfkhhplcogedmaaGreatDoor

/-
  Verify: the document's rounds, plain.
-/
namespace Go.Proofs.YtfkhhplcogedmaaGreatDoor
section
variable {fs : List Rt} {c : List Ins}
theorem pth_map {E E' : Nat → List Nat} {P : Nat → Prop} (h : ∀ x y, P x → y ∈ E x → y ∈ E' x ∧ P y) : ∀ k a b, P a → pth E k a b → pth E' k a b
  | 0, _, _, _, e => e
  | k + 1, a, b, ha, ⟨d, hd, e⟩ => by
    obtain ⟨h1, h2⟩ := h a d ha hd
    exact ⟨d, h1, pth_map h k d b h2 e⟩
/-- The ways of the document's round. -/
noncomputable def rdE (fs : List Rt) (c : List Ins) : Nat → List Nat := fun x => if dpR fs c x < 0 ∨ (iat c x).op = 24 ∨ (iat c x).op = 21 then [] else (nextD c x).map Int.toNat
theorem dpR_neg {x : Nat} : dpR fs c x < 0 ↔ ¬ Rcd fs c x := by
  unfold dpR
  by_cases h : Rcd fs c x
  · rw [dif_pos h]
    exact ⟨fun e => absurd e (by omega), fun e => absurd h e⟩
  · rw [dif_neg h]
    exact ⟨fun _ => h, fun _ => by omega⟩
theorem RD.ok (h : RD fs c) {x d : Nat} (hr : Rch fs c x d) : x < c.length ∧ (∃ d', behI fs c x d = some d') ∧ ∀ y ∈ nextD c x, 0 ≤ y ∧ y < (c.length : Int) := by
  obtain ⟨h0, h1⟩ := h
  have hl : 0 < c.length := List.length_pos_iff.2 h0
  have hx := (hr.lt hl).1
  have hw : wrR 150 151 153 fs c x = 0 := Classical.byContradiction fun e => h1 x hx ⟨⟨d, hr⟩, e⟩
  obtain ⟨-, -, hj, hb, hn⟩ := wrR_ok (by decide) (by decide) (by decide) hr hw
  have hj2 : (isJ (iat c x) && !thereI c (iat c x).a) = false := by
    cases e : isJ (iat c x) with
    | false => rfl
    | true => rw [hj e]; rfl
  refine ⟨hx, hb, fun y hy => ⟨(nextD_nn y hy).1, ?_⟩⟩
  apply Classical.byContradiction
  intro e
  have h2 := (endD_iff hj2).2 ⟨y, hy, by omega⟩
  obtain ⟨z, hz, hz2⟩ := onw_less.1 h2
  exact hz2 (hn z hz)
theorem stl_eg {x : Nat} (hx : x < c.length) : Eg (stl c c.length) x = stlI c x := by
  rw [Eg_at (by simp [stl]; exact hx)]
  simp [stl, hx]
theorem rdE_to (h : RD fs c) {x y : Nat} (hy : y ∈ rdE fs c x) : y ∈ Eg (stl c c.length) x ∧ Rcd fs c x ∧ Rcd fs c y := by
  unfold rdE at hy
  by_cases e : dpR fs c x < 0 ∨ (iat c x).op = 24 ∨ (iat c x).op = 21
  · rw [if_pos e] at hy
    cases hy
  · rw [if_neg e] at hy
    have hrc : Rcd fs c x := Classical.byContradiction fun q => e (.inl (dpR_neg.2 q))
    obtain ⟨d, hd⟩ := hrc
    obtain ⟨hx, ⟨d', hb⟩, hn⟩ := h.ok hd
    obtain ⟨z, hz, rfl⟩ := List.mem_map.1 hy
    obtain ⟨z1, z2⟩ := hn z hz
    have hon : z.toNat ∈ onwI c x := onwD_iff.2 ⟨by rw [show ((z.toNat : Nat) : Int) = z by omega]; exact hz, by omega⟩
    refine ⟨?_, ⟨d, hd⟩, d', hd.on hb hon⟩
    rw [stl_eg hx]
    unfold stlI
    rw [if_pos ⟨fun q => e (.inr (.inl q)), fun q => e (.inr (.inr q))⟩]
    exact hon
theorem rdE_of (h : RD fs c) {x y : Nat} (hr : Rcd fs c x) (hy : y ∈ Eg (stl c c.length) x) : y ∈ rdE fs c x := by
  obtain ⟨d, hd⟩ := hr
  obtain ⟨hx, -, -⟩ := h.ok hd
  rw [stl_eg hx] at hy
  unfold stlI at hy
  by_cases e : (iat c x).op ≠ 24 ∧ (iat c x).op ≠ 21
  · rw [if_pos e] at hy
    unfold rdE
    rw [if_neg (by
      rintro (q | q | q)
      · exact dpR_neg.1 q ⟨d, hd⟩
      · exact e.1 q
      · exact e.2 q)]
    obtain ⟨h1, h2⟩ := onwD_iff.1 hy
    exact List.mem_map.2 ⟨(y : Int), h1, by omega⟩
  · rw [if_neg e] at hy
    cases hy
theorem rdE_lt (h : RD fs c) {x y : Nat} (hy : y ∈ rdE fs c x) : y < c.length := by
  obtain ⟨-, -, d, hd⟩ := rdE_to h hy
  exact (h.ok hd).1
/-- The document's rounds are the code's. -/
theorem cyc_rd (h : RD fs c) {a : Nat} : Cyc (rdE fs c) a ↔ Rcd fs c a ∧ Cyc (Eg (stl c c.length)) a := by
  constructor
  · rintro ⟨k, d, hd, e⟩
    have h1 := rdE_to h hd
    refine ⟨h1.2.1, k, pth_map (E := rdE fs c) (P := fun _ => True) (fun x y _ hy => ⟨(rdE_to h hy).1, trivial⟩) (k + 1) a a trivial ⟨d, hd, e⟩⟩
  · rintro ⟨hr, k, hk⟩
    exact ⟨k, pth_map (P := Rcd fs c) (fun x y hx hy => ⟨rdE_of h hx hy, (rdE_to h (rdE_of h hx hy)).2.2⟩) (k + 1) a a hr hk⟩
end
end Go.Proofs.YtfkhhplcogedmaaGreatDoor
