import Derived.Test.YtklamaibinjcmaaDoorVgJ
import Derived.Lib.SmallJoins
/-
  Verify: the three programs of the law's shown, plain.
-/
namespace Go.Proofs.YtklamaibinjcmaaDoor
def smK : List Kind := [(⟨#[80, 111, 115]⟩, [⟨#[120]⟩]), (⟨#[86, 101, 108]⟩, [⟨#[120]⟩])]
def onP (c : List Ins) : Pg := ⟨[⟨[], [], [2], [1], ⟨⟨#[115]⟩, 0, 0, c⟩⟩], []⟩
def cd1 : List Ins := [⟨24, 0⟩, ⟨4, 8⟩, ⟨4, 16⟩, ⟨6, 0⟩, ⟨5, 8⟩, ⟨23, 0⟩]
def cd2 : List Ins := [⟨24, 0⟩, ⟨4, 8⟩, ⟨4, 16⟩, ⟨6, 0⟩, ⟨5, 16⟩, ⟨23, 0⟩]
def cd3 : List Ins := [⟨19, 0⟩]
section
variable {fs : List Rt} {c : List Ins} {S : List (Nat × Nat)}
theorem rch_in (h0 : ((0, 0) : Nat × Nat) ∈ S) (hs : ∀ m ∈ S, ∀ y ∈ momI fs c m.1 m.2, y ∈ S) : ∀ k p d, rch fs c k p d → (p, d) ∈ S
  | 0, _, _, ⟨rfl, rfl⟩ => h0
  | k + 1, p, d, ⟨p', d', h1, h2, h3⟩ => hs (p', d') (rch_in h0 hs k p' d' h1) (p, d) (momI_of h2 h3)
theorem Rch_in (h0 : ((0, 0) : Nat × Nat) ∈ S) (hs : ∀ m ∈ S, ∀ y ∈ momI fs c m.1 m.2, y ∈ S) {p d : Nat} (h : Rch fs c p d) : (p, d) ∈ S := h.elim fun k hk => rch_in h0 hs k p d hk
theorem dpo_none (h0 : ((0, 0) : Nat × Nat) ∈ S) (hs : ∀ m ∈ S, ∀ y ∈ momI fs c m.1 m.2, y ∈ S) (h1 : ∀ m ∈ S, ∀ m' ∈ S, m.1 = m'.1 → m.2 = m'.2)
    (h2 : ∀ m ∈ S, (behI fs c m.1 m.2).isSome = true ∧ (isJ (iat c m.1) && !thereI c (iat c m.1).a) = false ∧ ¬ (onwI c m.1).length < (nextI c m.1).length) : Dpo 150 151 153 fs c none ∧ ∀ p, ¬ Bad fs c p := by
  have hb : ∀ p, ¬ Bad fs c p := by
    rintro p (⟨d, h3, h4⟩ | ⟨d, d', h3, h4, h5⟩)
    · have := (h2 _ (Rch_in h0 hs h3)).1
      dsimp only at this
      rw [h4] at this
      cases this
    · exact h5 (h1 _ (Rch_in h0 hs h3) _ (Rch_in h0 hs h4) rfl)
  refine ⟨?_, hb⟩
  rintro p hp ⟨⟨d, hd⟩, hw⟩
  obtain ⟨-, h4, h5⟩ := h2 _ (Rch_in h0 hs hd)
  dsimp only at h4 h5
  apply hw
  unfold wrR
  rw [if_neg (by rw [h4]; decide), if_neg (hb p), if_neg h5]
end
theorem isW_x : isW ⟨#[120]⟩ := ⟨by decide, by decide, by decide, by decide⟩
theorem smK_may : mayB smK := by
  refine ⟨by decide, by decide, ?_, ?_, by decide⟩
  · intro k hk
    have : k.2 = [⟨#[120]⟩] := by
      simp only [smK, List.mem_cons, List.not_mem_nil, or_false] at hk
      rcases hk with rfl | rfl <;> rfl
    refine ⟨by rw [this]; decide, ?_, by rw [this]; decide⟩
    rw [this]
    intro x hx
    rw [List.mem_singleton.1 hx]
    exact isW_x
  · intro x hx
    simp only [smK, List.map_cons, List.map_nil, List.mem_cons, List.not_mem_nil, or_false] at hx
    rcases hx with rfl | rfl
    · exact ⟨by decide, by decide, by decide, by decide⟩
    · exact ⟨by decide, by decide, by decide, by decide⟩
theorem onP_ros (c : List Ins) : rosOf (onP c) = [⟨⟨⟨#[115]⟩, 0, 0, c⟩, 0, true, [2], [1]⟩] := by
  simp [rosOf, roS, roF, onP, sumS]
abbrev onR (c : List Ins) : Ro := ⟨⟨⟨#[115]⟩, 0, 0, c⟩, 0, true, [2], [1]⟩
/-- What is left to ask of such a program. -/
theorem vo_on {c : List Ins} {o : Option (Int × Int)} (hm : mayOk (onP c) = true) (h : Vo (onP c) smK o) : ∃ o1, TcO 0 smK [onR c] o1 ∧ ((∃ x, o1 = some x ∧ o = some x) ∨ (o1 = none ∧ ∃ o3, DaO [] [onR c] o3 ∧ ((∃ x, o3 = some x ∧ o = some x) ∨ (o3 = none ∧ RnO [] [onR c] o)))) := by
  rcases h with ⟨h, -⟩ | ⟨-, h, -⟩ | ⟨-, -, on, h1, h2⟩
  · exact absurd smK_may h
  · rw [hm] at h
    cases h
  · have : on = none := by
      cases on with
      | none => rfl
      | some i =>
        obtain ⟨hi, ⟨_, k, hk, hk2⟩, -⟩ := h1
        have hi' : i = 0 := by
          have : i < 1 := hi
          omega
        subst hi'
        have : k = 2 ∨ k = 1 := by simpa [onP] using hk
        have e : (smK.length : Int) = 2 := rfl
        rw [e] at hk2
        omega
    subst this
    rcases h2 with ⟨n, e, -⟩ | ⟨-, o1, h3, h4⟩
    · cases e
    rw [onP_ros] at h3
    refine ⟨o1, h3, ?_⟩
    rcases h4 with h4 | ⟨e, on, h5, h6⟩
    · exact .inl h4
    refine .inr ⟨e, ?_⟩
    rcases h6 with ⟨n, rfl, -⟩ | ⟨-, o3, h7, h8⟩
    · exact absurd h5.1 (Nat.not_lt_zero _)
    rw [onP_ros] at h7 h8
    exact ⟨o3, h7, h8⟩
theorem tco_none {c : List Ins} {o : Option (Int × Int)} (hn : ∀ a ∈ List.range c.length, mtI 0 smK (onR c) a = true ∧ (isJ (iat c a) && bhpI c (iat c a).a) = false) (h : TcO 0 smK [onR c] o) : o = none := by
  rcases h with ⟨h, -⟩ | ⟨n, a, hn1, -, ⟨h1, h2, -⟩, -⟩
  · exact h
  · have e : n = 0 := by
      have : n < 1 := hn1
      omega
    subst e
    have h1' : a < c.length := h1
    obtain ⟨h3, h4⟩ := hn a (List.mem_range.2 h1')
    rcases h2 with h2 | h2
    · have : mtI 0 smK (onR c) a = false := h2
      rw [h3] at this
      cases this
    · have : (isJ (iat c a) && bhpI c (iat c a).a) = true := h2
      rw [h4] at this
      cases this
theorem dao_none {c : List Ins} {o : Option (Int × Int)} (h0 : c ≠ []) (hd : Dpo 150 151 153 [] c none) (h : DaO [] [onR c] o) : o = none := by
  rcases h with ⟨h, -⟩ | ⟨n, hn, -, h⟩
  · exact h
  · have e : n = 0 := by
      have : n < 1 := hn
      omega
    subst e
    rcases h with ⟨h, -⟩ | ⟨a, -, h, -⟩
    · exact absurd h h0
    · have := Fst.unique hd h fun i _ => Iff.rfl
      cases this
theorem pth_up {E : Nat → List Nat} (h : ∀ x, ∀ y ∈ E x, x < y) : ∀ k a b, pth E k a b → a ≤ b
  | 0, a, b, e => Nat.le_of_eq e
  | k + 1, a, b, ⟨x, hx, e⟩ => by
    have := h a x hx
    have := pth_up h k x b e
    omega
theorem no_cyc {E : Nat → List Nat} (h : ∀ x, ∀ y ∈ E x, x < y) (a : Nat) : ¬ Cyc E a := by
  rintro ⟨k, x, hx, e⟩
  have := h a x hx
  have := pth_up h k x a e
  omega
theorem vo1 {o : Option (Int × Int)} (h : Vo (onP cd1) smK o) : o = none := by
  obtain ⟨o1, h1, h2⟩ := vo_on (by decide) h
  obtain rfl := tco_none (by decide) h1
  rcases h2 with ⟨_, e, -⟩ | ⟨-, o3, h3, h4⟩
  · cases e
  obtain rfl := dao_none (by decide) (dpo_none (S := [(0, 0), (1, 0), (2, 1), (3, 2), (4, 1), (5, 0)]) (by decide) (by decide) (by decide) (by decide)).1 h3
  rcases h4 with ⟨_, e, -⟩ | ⟨-, h4⟩
  · cases e
  rcases h4 with ⟨h4, -⟩ | ⟨n, a, hn, -, ⟨-, ⟨-, h5⟩, -⟩, -⟩
  · exact h4
  · have e : n = 0 := by
      have : n < 1 := hn
      omega
    subst e
    refine absurd h5 (no_cyc (fun x y hy => ?_) a)
    have hx : x < 6 := by
      apply Classical.byContradiction
      intro c
      have : Eg (stl cd1 cd1.length) x = [] := by
        unfold Eg
        rw [List.getD_eq_getElem?_getD, List.getElem?_eq_none (by show 6 ≤ x; omega)]
        rfl
      have hy' : y ∈ Eg (stl cd1 cd1.length) x := hy
      rw [this] at hy'
      cases hy'
    have : ∀ x ∈ List.range 6, ∀ y ∈ Eg (stl cd1 cd1.length) x, x < y := by decide
    exact this x (List.mem_range.2 hx) y hy
theorem vo2 {o : Option (Int × Int)} (h : Vo (onP cd2) smK o) : o = some (4, 152) := by
  obtain ⟨o1, h1, h2⟩ := vo_on (by decide) h
  have e4 : TB 0 smK (onR cd2) 4 := .inl (by decide)
  rcases h1 with ⟨-, h1⟩ | ⟨n, a, hn, -, ⟨ha, h3, h4⟩, rfl⟩
  · exact absurd ⟨by decide, 4, by decide, e4⟩ (h1 0 (by decide))
  have e : n = 0 := by
    have : n < 1 := hn
    omega
  subst e
  have h5 : ∀ a ∈ List.range 6, a ≠ 4 → mtI 0 smK (onR cd2) a = true ∧ (isJ (iat cd2 a) && bhpI cd2 (iat cd2 a).a) = false := by decide
  have ha' : a < 6 := ha
  have : a = 4 := by
    apply Classical.byContradiction
    intro c
    obtain ⟨h6, h7⟩ := h5 a (List.mem_range.2 ha') c
    rcases h3 with h3 | h3
    · have : mtI 0 smK (onR cd2) a = false := h3
      rw [h6] at this
      cases this
    · have : (isJ (iat cd2 a) && bhpI cd2 (iat cd2 a).a) = true := h3
      rw [h7] at this
      cases this
  subst this
  rcases h2 with ⟨x, e, rfl⟩ | ⟨e, -⟩
  · rw [← e]
    show some ((((0 : Nat) : Int) + ((4 : Nat) : Int), tbE 0 smK (onR cd2) 4) : Int × Int) = some (4, 152)
    decide
  · cases e
theorem vo3 {o : Option (Int × Int)} (h : Vo (onP cd3) smK o) : o = some (0, 153) := by
  obtain ⟨o1, h1, h2⟩ := vo_on (by decide) h
  obtain rfl := tco_none (by decide) h1
  rcases h2 with ⟨_, e, -⟩ | ⟨-, o3, h3, h4⟩
  · cases e
  obtain rfl := dao_none (by decide) (dpo_none (S := [(0, 0)]) (by decide) (by decide) (by decide) (by decide)).1 h3
  rcases h4 with ⟨_, e, -⟩ | ⟨-, h4⟩
  · cases e
  rcases h4 with ⟨-, h4⟩ | ⟨n, a, hn, -, ⟨ha, -, -⟩, rfl⟩
  · exact absurd ⟨⟨0, Rch.zero⟩, 0, 0, by decide, rfl⟩ (h4 0 (by decide) 0 (by decide))
  · have e : n = 0 := by
      have : n < 1 := hn
      omega
    subst e
    have e : a = 0 := by
      have : a < 1 := ha
      omega
    subst e
    rfl
/-- The depths of the first. -/
theorem dp1 {o : Option Nat} (h : Dpo 150 151 153 [] cd1 o) : o = none ∧ dpR [] cd1 3 = 2 ∧ dpR [] cd1 5 = 0 := by
  obtain ⟨h1, h2⟩ := dpo_none (fs := []) (c := cd1) (S := [(0, 0), (1, 0), (2, 1), (3, 2), (4, 1), (5, 0)]) (by decide) (by decide) (by decide) (by decide)
  have r1 : Rch [] cd1 1 0 := Rch.zero.on (d' := 0) (by decide) (by decide)
  have r2 : Rch [] cd1 2 1 := r1.on (by decide) (by decide)
  have r3 : Rch [] cd1 3 2 := r2.on (by decide) (by decide)
  have r4 : Rch [] cd1 4 1 := r3.on (by decide) (by decide)
  have r5 : Rch [] cd1 5 0 := r4.on (by decide) (by decide)
  exact ⟨(Fst.unique h1 h fun i _ => Iff.rfl).symm, dpR_of r3 (h2 3), dpR_of r5 (h2 5)⟩
end Go.Proofs.YtklamaibinjcmaaDoor

/-
  Verify: the law's small and one.
-/
namespace Go.Proofs.YtklamaibinjcmaaDoor
open Go.RowKit
set_option maxRecDepth 100000
set_option maxHeartbeats 4000000 in
theorem small_any (W : World) : Calls Tryd.prog 21 #[] W fun e w' => (∃ g, e = .returned (.slice (some ⟨g, 0, none⟩) 2 2) ∧ Kr w' (.slice (some ⟨g, 0, none⟩) 2 2) smK) ∧ Below W.heap.size W w' := by
  obtain ⟨w1, hw1⟩ : ∃ X, X = W.alloc (.cells #[.string ⟨#[120]⟩] 9) := ⟨_, rfl⟩
  obtain ⟨w2, hw2⟩ : ∃ X, X = w1.alloc (.cells #[.string ⟨#[120]⟩] 9) := ⟨_, rfl⟩
  obtain ⟨w3, hw3⟩ : ∃ X, X = w2.alloc (.cells #[.string ⟨#[80, 111, 115]⟩, .slice (some ⟨W.heap.size, 0, none⟩) 1 1, .string ⟨#[86, 101, 108]⟩, .slice (some ⟨W.heap.size + 1, 0, none⟩) 1 1] 97) := ⟨_, rfl⟩
  have s1 : w1.heap.size = W.heap.size + 1 := by rw [hw1]; exact Array.size_push ..
  have s2 : w2.heap.size = W.heap.size + 1 + 1 := by rw [hw2, ← s1]; exact Array.size_push ..
  have b1 : Below W.heap.size W w1 := hw1 ▸ below_alloc W _
  have b2 : Below w1.heap.size w1 w2 := hw2 ▸ below_alloc w1 _
  have b3 : Below w2.heap.size w2 w3 := hw3 ▸ below_alloc w2 _
  have n1 : w1.heap[W.heap.size]? = some (.cells #[.string ⟨#[120]⟩] 9 (0, 0)) := by rw [hw1]; exact heap_alloc_new W _
  have n2 : w2.heap[W.heap.size + 1]? = some (.cells #[.string ⟨#[120]⟩] 9 (0, 0)) := by rw [hw2, ← s1]; exact heap_alloc_new w1 _
  have n3 : w3.heap[W.heap.size + 1 + 1]? = some (.cells #[.string ⟨#[80, 111, 115]⟩, .slice (some ⟨W.heap.size, 0, none⟩) 1 1, .string ⟨#[86, 101, 108]⟩, .slice (some ⟨W.heap.size + 1, 0, none⟩) 1 1] 97 (0, 0)) := by rw [hw3, ← s2]; exact heap_alloc_new w2 _
  have m1 := (b3.block _ (lt_of_block ((b2.block _ (lt_of_block n1)).trans n1))).trans ((b2.block _ (lt_of_block n1)).trans n1)
  have m2 := (b3.block _ (lt_of_block n2)).trans n2
  have KR : Hid (Kr w3 (.slice (some ⟨W.heap.size + 1 + 1, 0, none⟩) 2 2) smK) := by
    refine ⟨_, 2, rfl, by decide, by decide, fun i hi => ?_⟩
    match i, hi with
    | 0, _ =>
      refine ⟨_, 0, .slice (some ⟨W.heap.size, 0, none⟩) 1 1, rfl, ?_, ?_, _, 1, rfl, Nat.le_refl 1, by decide, fun j hj => ?_⟩
      · rw [cell_of_row w3 _ _ _ 97 (0, 0) n3]; rfl
      · rw [cell_of_row w3 _ _ _ 97 (0, 0) n3]; rfl
      · match j, hj with
        | 0, _ => exact ⟨_, 0, rfl, by rw [cell_of_row w3 _ _ _ 9 (0, 0) m1]; rfl⟩
    | 1, _ =>
      refine ⟨_, 0, .slice (some ⟨W.heap.size + 1, 0, none⟩) 1 1, rfl, ?_, ?_, _, 1, rfl, Nat.le_refl 1, by decide, fun j hj => ?_⟩
      · rw [cell_of_row w3 _ _ _ 97 (0, 0) n3]; rfl
      · rw [cell_of_row w3 _ _ _ 97 (0, 0) n3]; rfl
      · match j, hj with
        | 0, _ => exact ⟨_, 0, rfl, by rw [cell_of_row w3 _ _ _ 9 (0, 0) m2]; rfl⟩
  have B := hide (below_on (below_on b1 b2) b3)
  go_enter Tryd.func21, Tryd.ntmps21
  go_wp2_with fail
  rw [← hw1, ← hw2, ← hw3]
  go_ret
  exact ⟨⟨_, rfl, KR.out⟩, B.out⟩
theorem undPg1 : (Tryd.prog.underlying 25).map (fun d => match d with | .struct _ | .array _ _ => true | _ => false) = some true := by kernel_rfl
theorem res_pg1 {fn : Func} {p : Tmp} (hr : fn.results = #[.cell p 25]) {tmps : Array Value} {W : World} {g : Nat} {x y : Value} (hp : tmps.getD p undef = .pointer (some ⟨g, 0, none⟩)) (hg : W.heap[g]? = some (.cells #[x, y] 25 (0, 0))) : (results fn tmps).run Tryd.prog W = .ok (.agg #[x, y]) W := by
  obtain ⟨d, hu, hd⟩ := Option.map_eq_some_iff.1 undPg1
  exact results_cell_row hr tmps W g 25 _ (0, 0) d hp hg hu (by cases d <;> first | rfl | cases hd) (by kernel_rfl)
/-- A program of one system, as one makes it. -/
def On (N : Nat) (W : World) (g : Nat) (vc : Value) : Prop := ∃ a b, (N ≤ g ∧ N ≤ a ∧ N ≤ b) ∧ W.heap[g]? = some (.cells #[.slice none 0 0, .slice none 0 0, .slice (some ⟨a, 0, none⟩) 1 1, .slice (some ⟨b, 0, none⟩) 1 1, .string ⟨#[115]⟩, .int .i64 0, .int .i64 0, vc] 60 (0, 0)) ∧ W.heap[a]? = some (.cells #[.int .i64 2] 3 (0, 0)) ∧ W.heap[b]? = some (.cells #[.int .i64 1] 3 (0, 0))
theorem On.later {N : Nat} {W W' : World} {g : Nat} {vc : Value} (h : On N W g vc) (hb : Below W.heap.size W W') : On N W' g vc := by
  obtain ⟨a, b, h0, h1, h2, h3⟩ := h
  exact ⟨a, b, h0, (hb.block _ (lt_of_block h1)).trans h1, (hb.block _ (lt_of_block h2)).trans h2, (hb.block _ (lt_of_block h3)).trans h3⟩
theorem On.mv {N q : Nat} {W W' : World} {g : Nat} {vc : Value} (h : On N W g vc) (hm : Mv W W' (fun k => k = q)) (hq : q < N) : On N W' g vc := by
  obtain ⟨a, b, h0, h1, h2, h3⟩ := h
  exact ⟨a, b, h0, hm.at h1 (fun e => by omega), hm.at h2 (fun e => by omega), hm.at h3 (fun e => by omega)⟩
theorem On.cell {N : Nat} {W : World} {g : Nat} {vc : Value} (h : On N W g vc) : W.cell? ⟨g, 4, none⟩ = some (.string ⟨#[115]⟩) ∧ W.cell? ⟨g, 5, none⟩ = some (.int .i64 0) ∧ W.cell? ⟨g, 6, none⟩ = some (.int .i64 0) ∧ W.cell? ⟨g, 7, none⟩ = some vc := by
  obtain ⟨a, b, -, h1, -, -⟩ := h
  refine ⟨?_, ?_, ?_, ?_⟩ <;> rw [cell_of_row W _ _ _ 60 (0, 0) h1] <;> rfl
theorem On.pgm {N : Nat} {W : World} {g : Nat} {vc : Value} {c : List Ins} (h : On N W g vc) (hc : Il (fun _ => True) W vc c) : Pgm (fun _ => True) W (.slice (some ⟨g, 0, none⟩) 1 1) (.slice none 0 0) (onP c) := by
  obtain ⟨a, b, -, h1, h2, h3⟩ := h
  have k : ∀ j, W.cell? ⟨g, j, none⟩ = (#[Value.slice none 0 0, .slice none 0 0, .slice (some ⟨a, 0, none⟩) 1 1, .slice (some ⟨b, 0, none⟩) 1 1, .string ⟨#[115]⟩, .int .i64 0, .int .i64 0, vc] : Array Value)[j]? := fun j => cell_of_row W _ _ _ 60 (0, 0) h1
  refine ⟨⟨_, 1, rfl, Nat.le_refl 1, by decide, fun _ => ⟨g, 0, rfl, trivial, fun i hi => ?_⟩⟩, ⟨_, 0, rfl, Nat.le_refl 0, by decide, fun h0 => absurd h0 (Nat.lt_irrefl 0)⟩⟩
  match i, hi with
  | 0, _ =>
    refine ⟨(⟨by decide, by decide⟩ : I6 0), (⟨by decide, by decide⟩ : I6 0), .slice none 0 0, .slice none 0 0, .slice (some ⟨a, 0, none⟩) 1 1, .slice (some ⟨b, 0, none⟩) 1 1, vc, k _, k _, k _, k _, k _, k _, k _, k _, ?_, ?_, ?_, ?_, hc⟩
    · exact ⟨_, 0, rfl, Nat.le_refl 0, by decide, fun h0 => absurd h0 (Nat.lt_irrefl 0)⟩
    · exact ⟨_, 0, rfl, Nat.le_refl 0, by decide, fun h0 => absurd h0 (Nat.lt_irrefl 0)⟩
    · refine ⟨_, 1, rfl, Nat.le_refl 1, by decide, fun _ => ⟨a, 0, rfl, trivial, fun j hj => ?_⟩⟩
      match j, hj with
      | 0, _ => exact ⟨(⟨by decide, by decide⟩ : I6 2), by rw [cell_of_row W _ _ _ 3 (0, 0) h2]; rfl⟩
    · refine ⟨_, 1, rfl, Nat.le_refl 1, by decide, fun _ => ⟨b, 0, rfl, trivial, fun j hj => ?_⟩⟩
      match j, hj with
      | 0, _ => exact ⟨(⟨by decide, by decide⟩ : I6 1), by rw [cell_of_row W _ _ _ 3 (0, 0) h3]; rfl⟩
set_option maxHeartbeats 4000000 in
theorem one_any (W : World) (a : Option Addr) (n c : Nat) : Calls Tryd.prog 20 #[.slice a n c] W fun e w' => (∃ g, e = .returned (.agg #[.slice (some ⟨g, 0, none⟩) 1 1, .slice none 0 0]) ∧ On W.heap.size w' g (.slice a n c)) ∧ Below W.heap.size W w' := by
  obtain ⟨w1, hw1⟩ : ∃ X, X = W.alloc (.cells #[.slice (some ⟨W.heap.size + 1 + 1 + 1, 0, none⟩) 1 1, .slice none 0 0] 25) := ⟨_, rfl⟩
  obtain ⟨w2, hw2⟩ : ∃ X, X = w1.alloc (.cells #[.int .i64 2] 3) := ⟨_, rfl⟩
  obtain ⟨w3, hw3⟩ : ∃ X, X = w2.alloc (.cells #[.int .i64 1] 3) := ⟨_, rfl⟩
  obtain ⟨w4, hw4⟩ : ∃ X, X = w3.alloc (.cells #[.slice none 0 0, .slice none 0 0, .slice (some ⟨W.heap.size + 1, 0, none⟩) 1 1, .slice (some ⟨W.heap.size + 1 + 1, 0, none⟩) 1 1, .string ⟨#[115]⟩, .int .i64 0, .int .i64 0, .slice a n c] 60) := ⟨_, rfl⟩
  have s1 : w1.heap.size = W.heap.size + 1 := by rw [hw1]; exact Array.size_push ..
  have s2 : w2.heap.size = W.heap.size + 1 + 1 := by rw [hw2, ← s1]; exact Array.size_push ..
  have s3 : w3.heap.size = W.heap.size + 1 + 1 + 1 := by rw [hw3, ← s2]; exact Array.size_push ..
  have b1 : Below W.heap.size W w1 := hw1 ▸ below_alloc W _
  have b2 : Below w1.heap.size w1 w2 := hw2 ▸ below_alloc w1 _
  have b3 : Below w2.heap.size w2 w3 := hw3 ▸ below_alloc w2 _
  have b4 : Below w3.heap.size w3 w4 := hw4 ▸ below_alloc w3 _
  have n1 : w1.heap[W.heap.size]? = some (.cells #[.slice (some ⟨W.heap.size + 1 + 1 + 1, 0, none⟩) 1 1, .slice none 0 0] 25 (0, 0)) := by rw [hw1]; exact heap_alloc_new W _
  have n2 : w2.heap[W.heap.size + 1]? = some (.cells #[.int .i64 2] 3 (0, 0)) := by rw [hw2, ← s1]; exact heap_alloc_new w1 _
  have n3 : w3.heap[W.heap.size + 1 + 1]? = some (.cells #[.int .i64 1] 3 (0, 0)) := by rw [hw3, ← s2]; exact heap_alloc_new w2 _
  have n4 : w4.heap[W.heap.size + 1 + 1 + 1]? = some (.cells #[.slice none 0 0, .slice none 0 0, .slice (some ⟨W.heap.size + 1, 0, none⟩) 1 1, .slice (some ⟨W.heap.size + 1 + 1, 0, none⟩) 1 1, .string ⟨#[115]⟩, .int .i64 0, .int .i64 0, .slice a n c] 60 (0, 0)) := by rw [hw4, ← s3]; exact heap_alloc_new w3 _
  have b34 := below_on b3 b4
  have b24 := below_on b2 b34
  have m1 := hide ((b24.block _ (lt_of_block n1)).trans n1)
  have m2 := (b34.block _ (lt_of_block n2)).trans n2
  have m3 := (b4.block _ (lt_of_block n3)).trans n3
  have ON : Hid (On W.heap.size w4 (W.heap.size + 1 + 1 + 1) (.slice a n c)) := ⟨_, _, ⟨by omega, by omega, by omega⟩, n4, m2, m3⟩
  have B := hide (below_on b1 b24)
  go_enter Tryd.func20, Tryd.ntmps20
  go_wp2_with fail
  rw [← hw1, ← hw2, ← hw3, ← hw4]
  exact bodyPost_ret (res_pg1 rfl rfl m1.out) rfl ⟨⟨_, rfl, ON.out⟩, B.out⟩
end Go.Proofs.YtklamaibinjcmaaDoor
