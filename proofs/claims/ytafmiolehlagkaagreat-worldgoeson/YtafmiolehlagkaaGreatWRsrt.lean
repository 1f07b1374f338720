/-
  World: rows are put in order by their numbers.
-/
import Derived.Test.YtafmiolehlagkaaGreatWLaid
import Derived.Shelf.SlSortCmp.WholeK
namespace Go.Proofs.YtafmiolehlagkaaGreat
open Go.RowKit Go.Shelf Go.Lib Go.Sort
set_option maxRecDepth 100000
/-- A row's three cells: its entity, where its parts lie. -/
abbrev Rt := Int × Int × Option Addr × Nat × Nat
def encR (p : Rt) : List Value := [.int .i64 p.1, .int .i64 p.2.1, .slice p.2.2.1 p.2.2.2.1 p.2.2.2.2]
def cfR (p r : Rt) : Int := Lib.compareInt p.1 r.1
set_option maxHeartbeats 1000000 in
theorem byIndex_any (p r : Rt) (w : World) : Calls Tryz.prog 83 #[.agg (encR p).toArray, .agg (encR r).toArray] w fun e w' => e = .returned (.int .i64 (cfR p r)) ∧ ∃ q os', w' = grow (w.drewN q) os' := by
  obtain ⟨x, x2, ax, nx, cx⟩ := p
  obtain ⟨y, y2, ay, ny, cy⟩ := r
  unfold encR cfR
  dsimp only
  have J := fun W => cmp_any x y W
  have J := hide J
  generalize Lib.compareInt x y = z at *
  go_enter Tryz.func83, Tryz.ntmps83
  go_wp2_with fail
  refine (J.out _).mono ?_
  rintro e w' ⟨rfl, rfl⟩
  go_wp2_with fail
  go_ret
  exact ⟨rfl, 0, _, by rw [alloc_eq_grow, alloc_eq_grow, grow_grow]; rfl⟩
/-! ### Rows of rows -/
def rz : List Rt → List Value
  | [] => []
  | p :: l => .int .i64 p.1 :: .int .i64 p.2.1 :: .slice p.2.2.1 p.2.2.2.1 p.2.2.2.2 :: rz l
theorem rz_len : ∀ l : List Rt, (rz l).length = l.length * 3
  | [] => rfl
  | p :: t => by simp [rz, rz_len t]; omega
theorem rz_append : ∀ a b : List Rt, rz (a ++ b) = rz a ++ rz b
  | [], _ => rfl
  | h :: t, b => by simp [rz, rz_append t b]
theorem rz_at : ∀ (l : List Rt) (i : Nat) (h : i < l.length), (rz l)[i * 3]? = some (.int .i64 l[i].1) ∧ (rz l)[i * 3 + 1]? = some (.int .i64 l[i].2.1) ∧ (rz l)[i * 3 + 2]? = some (.slice l[i].2.2.1 l[i].2.2.2.1 l[i].2.2.2.2)
  | p :: t, 0, _ => ⟨rfl, rfl, rfl⟩
  | p :: t, i + 1, h => by
    have := rz_at t i (by simpa using h)
    rw [show (i + 1) * 3 = i * 3 + 1 + 1 + 1 by omega]
    simpa [rz] using this
theorem rz_flat (l : List Rt) : (flatK encR 3 l.toArray).toList = rz l := by
  apply List.ext_getElem?
  intro j
  rw [Array.getElem?_toList]
  by_cases hj : j < l.length * 3
  · have h1 : j < (flatK encR 3 l.toArray).size := by simpa using hj
    rw [Array.getElem?_eq_getElem h1, ← getElem!_pos (flatK encR 3 l.toArray) j h1, get_flatK _ _ _ j (by simpa using hj)]
    have hi : j / 3 < l.length := by omega
    have e1 : (l.toArray[j / 3]!) = l[j / 3] := by rw [getElem!_pos _ _ (by simpa using hi)]; simp
    rw [e1]
    obtain ⟨a, b, c⟩ := rz_at l (j / 3) hi
    have hm : j % 3 = 0 ∨ j % 3 = 1 ∨ j % 3 = 2 := by omega
    rcases hm with h | h | h
    · rw [show j / 3 * 3 = j by omega] at a
      rw [h, a]
      rfl
    · rw [show j / 3 * 3 + 1 = j by omega] at b
      rw [h, b]
      rfl
    · rw [show j / 3 * 3 + 2 = j by omega] at c
      rw [h, c]
      rfl
  · rw [Array.getElem?_eq_none (by simpa using hj), List.getElem?_eq_none (by rw [rz_len]; omega)]
theorem row_holds {w : World} {g c : Nat} {l : List Rt} (h : w.ownsRow 0 87 3 (.slice (some ⟨g, 0, none⟩) l.length c) l.length (rz l)) : HoldsK encR 3 w g 0 l.toArray := by
  intro j hj
  have hj2 : j < l.length * 3 := by simpa using hj
  refine ⟨?_, ?_⟩
  · rw [Nat.zero_add, h.cellAt j hj2, ← rz_flat l, Array.getElem?_toList, Array.getElem?_eq_getElem hj, getElem!_pos (flatK encR 3 l.toArray) j hj]
    rfl
  · rw [Nat.zero_add]
    exact h.frozenAt j
theorem row_sorted {w : World} {g c n : Nat} {l l' : List Rt} {os : Array Obj} (h : w.ownsRow 0 87 3 (.slice (some ⟨g, 0, none⟩) l.length c) l.length (rz l)) (hl : l'.length = l.length) :
    (sortWorldK encR 3 w g 0 n l'.toArray os).ownsRow 0 87 3 (.slice (some ⟨g, 0, none⟩) l.length c) l.length (rz l') ∧ w.grownBy (sortWorldK encR 3 w g 0 n l'.toArray os) (some g) := by
  rcases h.2 with ⟨e0, _⟩ | ⟨g', cap', cur, e0, hb, hg, hn, hm, hs, ht⟩
  · cases e0
  · injection e0 with e1 _ e3
    injection e1 with e1
    injection e1 with e1
    subst e1; subst e3
    have hlt : g < w.heap.size := lt_of_block hg
    have hsz : (flatK encR 3 l'.toArray).size = l.length * 3 := by simp [hl]
    refine ⟨⟨by rw [rz_len, hl], .inr ⟨g, c, putCells id 0 (flatK encR 3 l'.toArray) cur, rfl, hb, ?_, hn, hm, by simpa [putCells] using hs, ?_⟩⟩, ⟨rfl, rfl, rfl, ?_, fun k hk hne => ?_⟩⟩
    · unfold sortWorldK
      rw [heap_grow_old _ _ (by simpa [putRowK, putRow, mapBlock, Sort.ahead] using hlt)]
      simp [putRowK, putRow, mapBlock, Sort.ahead, Array.getElem?_modify, hg, onCells]
    · rw [← rz_flat l']
      apply List.ext_getElem?
      intro j
      rw [List.getElem?_take, Array.getElem?_toList, Array.getElem?_toList]
      by_cases hj : j < l.length * 3
      · have hjc : j < cur.size := by rw [hs]; omega
        simp only [if_pos hj, putCells, Array.getElem?_mapIdx, Array.getElem?_eq_getElem hjc, Option.map_some]
        have hF : j < (flatK encR 3 l'.toArray).size := by omega
        rw [if_pos ⟨Nat.zero_le _, by omega⟩, Nat.sub_zero, Array.getElem?_eq_getElem hF, getElem!_pos (flatK encR 3 l'.toArray) j hF]
        rfl
      · rw [if_neg hj, Array.getElem?_eq_none (by omega)]
    · simp [sortWorldK, putRowK, putRow, mapBlock, Sort.ahead]
    · have hne2 : ¬ g = k := fun e => hne (by rw [e])
      unfold sortWorldK
      rw [heap_grow_old _ _ (by simpa [putRowK, putRow, mapBlock, Sort.ahead] using hk)]
      simp [putRowK, putRow, mapBlock, Sort.ahead, Array.getElem?_modify, hne2]
theorem ltR (x y : Rt) : ltOf cfR x y = decide (x.1 < y.1) := by
  unfold ltOf cfR Lib.compareInt
  by_cases h1 : x.1 < y.1
  · simp [h1]
  · by_cases h2 : y.1 < x.1 <;> simp [h1, h2]
theorem swoR : SWO (ltOf cfR) where
  irrefl x := by rw [ltR]; simp
  trans x y z h1 h2 := by rw [ltR] at *; simp at *; omega
  ntrans x y z h1 h2 := by rw [ltR] at *; simp at *; omega
/-! ### Nothing is put in order -/
theorem rins_none (ao : Option Addr) (c : Nat) (fv : Value) (w : World) : Calls Tryz.prog 184 #[.slice ao 0 c, .int .i64 0, .int .i64 0, fv] w fun e w' => e = .returned (.tuple #[]) ∧ w' = w := by
  go_enter Tryz.func184, Tryz.ntmps184
  go_wp2_with fail
  refine wp_loop_rounds 1 ?_
  rw [rounds_succ]
  go_wp2_with fail
  go_end0
  exact ⟨rfl, rfl⟩
set_option maxHeartbeats 2000000 in
theorem rpdq_none (ao : Option Addr) (c : Nat) (fv : Value) (w : World) (lim : Int) : Calls Tryz.prog 153 #[.slice ao 0 c, .int .i64 0, .int .i64 0, .int .i64 lim, fv] w fun e w' => e = .returned (.tuple #[]) ∧ w' = w := by
  have J := hide (rins_none ao c fv w)
  go_enter Tryz.func153, Tryz.ntmps153
  go_wp2_with fail
  refine wp_loop_rounds 1 ?_
  rw [rounds_succ]
  go_wp2_with fail
  refine J.out.mono ?_
  rintro e w' ⟨rfl, rfl⟩
  go_wp2_with fail
  (try simp only [Exit.inBlock, Exit.then]); refine bodyPost_ret (results_none rfl _ _ _) rfl ?_
  exact ⟨rfl, rfl⟩
set_option maxHeartbeats 2000000 in
theorem rsort_none (ao : Option Addr) (c : Nat) (fv : Value) (w : World) : Calls Tryz.prog 82 #[.slice ao 0 c, fv] w fun e w' => e = .returned (.tuple #[]) ∧ w' = w := by
  have JL := hide (len_small 0 w (by omega))
  have JP : Hid (∀ lim : Int, Calls Tryz.prog 153 #[.slice ao 0 c, .int .i64 0, .int .i64 0, .int .i64 lim, fv] w fun e w' => e = .returned (.tuple #[]) ∧ w' = w) := fun lim => rpdq_none ao c fv w lim
  go_enter Tryz.func82, Tryz.ntmps82
  go_wp2_with fail
  refine JL.out.mono ?_
  rintro e w' ⟨⟨l, rfl⟩, rfl⟩
  go_wp2_with fail
  refine (JP.out _).mono ?_
  rintro e w' ⟨rfl, rfl⟩
  go_wp2_with fail
  go_end0
  exact ⟨rfl, rfl⟩
/-- slices.SortFunc of rows, by their numbers. -/
theorem rsort_any {w : World} {v : Value} {l : List Rt} (h : w.ownsRow 0 87 3 v l.length (rz l)) (hn : l.length ≤ 1000000) : Calls Tryz.prog 82 #[v, .func (.func 83) #[] #[]] w fun e w' => e = .returned (.tuple #[]) ∧ ∃ l', l'.Perm l ∧ l'.Pairwise (fun x y => x.1 ≤ y.1) ∧ w'.ownsRow 0 87 3 v l.length (rz l') ∧ w.grownBy w' v.ownBlock := by
  by_cases hv : v = .slice none 0 0
  · subst hv
    have hl : l.length = 0 := by
      rcases h.2 with ⟨_, h0⟩ | ⟨g, c, cur, e, _⟩
      · exact h0
      · cases e
    obtain rfl := List.eq_nil_of_length_eq_zero hl
    refine (rsort_none none 0 _ w).mono ?_
    rintro e w' ⟨rfl, rfl⟩
    exact ⟨rfl, [], List.Perm.refl _, List.Pairwise.nil, h, grown_later (Below.refl _ _)⟩
  · obtain ⟨g, c, rfl⟩ : ∃ g c, v = .slice (some ⟨g, 0, none⟩) l.length c := by
      rcases h.2 with ⟨e, _⟩ | ⟨g, c, cur, e, _⟩
      · exact absurd e hv
      · exact ⟨g, c, e⟩
    have hg := (h.lt g rfl).2
    have eg : ∀ args w, (callFunc 83 args).run Tryz.prog w = .ok (.enter 83 args) w := enters_of Tryz.func83 (by kernel_rfl) rfl
    have hcon := AnyQ.slices_SortFunc laidR 3 (fun w => by kernel_rfl) (fun w => by kernel_rfl) encR (fun _ => rfl) (fun x v hv => by simp [encR] at hv; rcases hv with rfl | rfl | rfl <;> rfl) cfR swoR 83 #[] g 0 c l.toArray w eg (fun _ _ _ _ x y => byIndex_any x y _) (row_holds h) hg (by simp; omega)
    change Calls Tryz.prog 82 _ _ _ at hcon
    simp only [List.size_toArray] at hcon
    refine hcon.mono ?_
    rintro e w' ⟨rfl, d', n, os, ⟨hp1, -, hp3⟩, hs, rfl⟩
    have hsz : d'.toList.length = l.length := by simpa using hp1
    have hperm : d'.toList.Perm l := by
      have e1 : d'.extract 0 l.length = d' := by rw [← hsz]; simp
      rw [e1] at hp3
      simpa using hp3
    obtain ⟨k1, k2⟩ := row_sorted (n := n) (os := os) (l' := d'.toList) h hsz
    refine ⟨rfl, d'.toList, hperm, ?_, k1, k2⟩
    rw [List.pairwise_iff_getElem]
    intro i j hi hj hij
    have := hs i j (Nat.zero_le _) hij (by omega)
    rw [ltR, decide_eq_false_iff_not, getElem!_pos d' i (by simpa using hi), getElem!_pos d' j (by simpa using hj)] at this
    simp only [Array.getElem_toList]
    omega
end Go.Proofs.YtafmiolehlagkaaGreat
