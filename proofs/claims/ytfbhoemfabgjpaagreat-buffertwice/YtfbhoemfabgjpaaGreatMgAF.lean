import Derived.Test.YtfbhoemfabgjpaaGreatMgAE
import Derived.Shelf.SlSortCmp.InsertionK
import Derived.Deep.RegionHeld3
import Derived.Shelf.SlSortCmp.WholeK
/-
  World: parts are put in order by their kinds (slices.SortFunc at twelve or fewer).
-/
namespace Go.Proofs.YtfbhoemfabgjpaaGreat
open Go.RowKit Go.Shelf Go.Lib Go.Sort
set_option maxRecDepth 100000
set_option maxHeartbeats 1000000 in
theorem isnan_any (x : Int) (w : World) : Calls Tryz.prog 64 #[.int .i64 x] w fun e w' => e = .returned (.bool false) ∧ w' = w := by
  go_enter Tryz.func64, Tryz.ntmps64
  go_wp2_with fail
  go_ret
  exact ⟨rfl, rfl⟩
set_option maxHeartbeats 1000000 in
theorem cmp_any (x y : Int) (w : World) : Calls Tryz.prog 38 #[.int .i64 x, .int .i64 y] w fun e w' => e = .returned (.int .i64 (Lib.compareInt x y)) ∧ w' = w := by
  have J1 := fun W => isnan_any x W
  have J2 := fun W => isnan_any y W
  have J1 := hide J1
  have J2 := hide J2
  by_cases h1 : x < y
  · have e1 : Lib.compareInt x y = -1 := by unfold Lib.compareInt; rw [if_pos h1]
    rw [e1]
    go_enter Tryz.func38, Tryz.ntmps38
    go_wp2_with fail
    refine (J1.out _).mono ?_
    rintro e w' ⟨rfl, rfl⟩
    go_wp2_with fail
    refine (J2.out _).mono ?_
    rintro e w' ⟨rfl, rfl⟩
    go_wp2_with fail
    go_ret
    exact ⟨rfl, rfl⟩
  · by_cases h2 : x > y
    · have e1 : Lib.compareInt x y = 1 := by unfold Lib.compareInt; rw [if_neg h1, if_pos h2]
      rw [e1]
      go_enter Tryz.func38, Tryz.ntmps38
      go_wp2_with fail
      refine (J1.out _).mono ?_
      rintro e w' ⟨rfl, rfl⟩
      go_wp2_with fail
      refine (J2.out _).mono ?_
      rintro e w' ⟨rfl, rfl⟩
      go_wp2_with fail
      go_ret
      exact ⟨rfl, rfl⟩
    · have e1 : Lib.compareInt x y = 0 := by unfold Lib.compareInt; rw [if_neg h1, if_neg h2]
      rw [e1]
      go_enter Tryz.func38, Tryz.ntmps38
      go_wp2_with fail
      refine (J1.out _).mono ?_
      rintro e w' ⟨rfl, rfl⟩
      go_wp2_with fail
      refine (J2.out _).mono ?_
      rintro e w' ⟨rfl, rfl⟩
      go_wp2_with fail
      go_ret
      exact ⟨rfl, rfl⟩
/-- A part's two cells: its kind, where its values lie. -/
abbrev Pt := Int × Option Addr × Nat × Nat
def encP (p : Pt) : List Value := [.int .i64 p.1, .slice p.2.1 p.2.2.1 p.2.2.2]
def cfP (p r : Pt) : Int := Lib.compareInt p.1 r.1
set_option maxHeartbeats 1000000 in
theorem byKind_any (p r : Pt) (w : World) : Calls Tryz.prog 90 #[.agg (encP p).toArray, .agg (encP r).toArray] w fun e w' => e = .returned (.int .i64 (cfP p r)) ∧ ∃ q os', w' = grow (w.drewN q) os' := by
  obtain ⟨x, ax, nx, cx⟩ := p
  obtain ⟨y, ay, ny, cy⟩ := r
  unfold encP cfP
  dsimp only
  have J := fun W => cmp_any x y W
  have J := hide J
  generalize Lib.compareInt x y = z at *
  go_enter Tryz.func90, Tryz.ntmps90
  go_wp2_with fail
  refine (J.out _).mono ?_
  rintro e w' ⟨rfl, rfl⟩
  go_wp2_with fail
  go_ret
  exact ⟨rfl, 0, _, by rw [alloc_eq_grow, alloc_eq_grow, grow_grow]; rfl⟩
def renP : Ren := ⟨fun x => if x = 20 then 125 else x, fun x => if x = 22 then 36 else if x = 24 then 51 else if x = 25 then 154 else x, fun x => x⟩
set_option maxHeartbeats 4000000 in
theorem laidP : SlLaysF0.n20 Tryz.prog renP where
  mixed := by kernel_rfl
  f20 := ⟨"slices.insertionSortCmpFunc[hindcast/api.Part]", by decide, by kernel_rfl⟩
  t0 := by kernel_rfl
  a0 := fun w => by kernel_rfl
  z0 := fun w => by kernel_rfl
  v0 := fun w => by kernel_rfl
  t3 := by kernel_rfl
  a3 := fun w => by kernel_rfl
  z3 := fun w => by kernel_rfl
  v3 := fun w => by kernel_rfl
  t4 := by kernel_rfl
  a4 := fun w => by kernel_rfl
  z4 := fun w => by kernel_rfl
  v4 := fun w => by kernel_rfl
  t22 := by kernel_rfl
  a22 := fun w => by kernel_rfl
  z22 := fun w => by kernel_rfl
  v22 := fun w => by kernel_rfl
  t25 := by kernel_rfl
  a25 := fun w => by kernel_rfl
  z25 := fun w => by kernel_rfl
  v25 := fun w => by kernel_rfl
/-! ### Rows of parts -/
def pz : List Pt → List Value
  | [] => []
  | p :: l => .int .i64 p.1 :: .slice p.2.1 p.2.2.1 p.2.2.2 :: pz l
theorem pz_len : ∀ l : List Pt, (pz l).length = l.length * 2
  | [] => rfl
  | p :: t => by simp [pz, pz_len t]; omega
theorem pz_append : ∀ a b : List Pt, pz (a ++ b) = pz a ++ pz b
  | [], _ => rfl
  | h :: t, b => by simp [pz, pz_append t b]
theorem pz_at : ∀ (l : List Pt) (i : Nat) (h : i < l.length), (pz l)[i * 2]? = some (.int .i64 l[i].1) ∧ (pz l)[i * 2 + 1]? = some (.slice l[i].2.1 l[i].2.2.1 l[i].2.2.2)
  | p :: t, 0, _ => ⟨rfl, rfl⟩
  | p :: t, i + 1, h => by
    have := pz_at t i (by simpa using h)
    rw [show (i + 1) * 2 = i * 2 + 1 + 1 by omega]
    simpa [pz] using this
theorem pz_flat (l : List Pt) : (flatK encP 2 l.toArray).toList = pz l := by
  apply List.ext_getElem?
  intro j
  rw [Array.getElem?_toList]
  by_cases hj : j < l.length * 2
  · have h1 : j < (flatK encP 2 l.toArray).size := by simpa using hj
    rw [Array.getElem?_eq_getElem h1, ← getElem!_pos (flatK encP 2 l.toArray) j h1, get_flatK _ _ _ j (by simpa using hj)]
    have hi : j / 2 < l.length := by omega
    have e1 : (l.toArray[j / 2]!) = l[j / 2] := by rw [getElem!_pos _ _ (by simpa using hi)]; simp
    rw [e1]
    obtain ⟨a, b⟩ := pz_at l (j / 2) hi
    rcases Nat.mod_two_eq_zero_or_one j with h | h
    · rw [show j / 2 * 2 = j by omega] at a
      rw [h, a]
      rfl
    · rw [show j / 2 * 2 + 1 = j by omega] at b
      rw [h, b]
      rfl
  · rw [Array.getElem?_eq_none (by simpa using hj), List.getElem?_eq_none (by rw [pz_len]; omega)]
theorem part_holds {w : World} {g c : Nat} {l : List Pt} (h : w.ownsRow 0 51 2 (.slice (some ⟨g, 0, none⟩) l.length c) l.length (pz l)) : HoldsK encP 2 w g 0 l.toArray := by
  intro j hj
  have hj2 : j < l.length * 2 := by simpa using hj
  refine ⟨?_, ?_⟩
  · rw [Nat.zero_add, h.cellAt j hj2, ← pz_flat l, Array.getElem?_toList, Array.getElem?_eq_getElem hj, getElem!_pos (flatK encP 2 l.toArray) j hj]
    rfl
  · rw [Nat.zero_add]
    exact h.frozenAt j
theorem part_sorted {w : World} {g c n : Nat} {l l' : List Pt} {os : Array Obj} (h : w.ownsRow 0 51 2 (.slice (some ⟨g, 0, none⟩) l.length c) l.length (pz l)) (hl : l'.length = l.length) :
    (sortWorldK encP 2 w g 0 n l'.toArray os).ownsRow 0 51 2 (.slice (some ⟨g, 0, none⟩) l.length c) l.length (pz l') ∧ w.grownBy (sortWorldK encP 2 w g 0 n l'.toArray os) (some g) := by
  rcases h.2 with ⟨e0, _⟩ | ⟨g', cap', cur, e0, hb, hg, hn, hm, hs, ht⟩
  · cases e0
  · injection e0 with e1 _ e3
    injection e1 with e1
    injection e1 with e1
    subst e1; subst e3
    have hlt : g < w.heap.size := lt_of_block hg
    have hsz : (flatK encP 2 l'.toArray).size = l.length * 2 := by simp [hl]
    refine ⟨⟨by rw [pz_len, hl], .inr ⟨g, c, putCells id 0 (flatK encP 2 l'.toArray) cur, rfl, hb, ?_, hn, hm, by simpa [putCells] using hs, ?_⟩⟩, ⟨rfl, rfl, rfl, ?_, fun k hk hne => ?_⟩⟩
    · unfold sortWorldK
      rw [heap_grow_old _ _ (by simpa [putRowK, putRow, mapBlock, Sort.ahead] using hlt)]
      simp [putRowK, putRow, mapBlock, Sort.ahead, Array.getElem?_modify, hg, onCells]
    · rw [← pz_flat l']
      apply List.ext_getElem?
      intro j
      rw [List.getElem?_take, Array.getElem?_toList, Array.getElem?_toList]
      by_cases hj : j < l.length * 2
      · have hjc : j < cur.size := by rw [hs]; omega
        simp only [if_pos hj, putCells, Array.getElem?_mapIdx, Array.getElem?_eq_getElem hjc, Option.map_some]
        have hF : j < (flatK encP 2 l'.toArray).size := by omega
        rw [if_pos ⟨Nat.zero_le _, by omega⟩, Nat.sub_zero, Array.getElem?_eq_getElem hF, getElem!_pos (flatK encP 2 l'.toArray) j hF]
        rfl
      · rw [if_neg hj, Array.getElem?_eq_none (by omega)]
    · simp [sortWorldK, putRowK, putRow, mapBlock, Sort.ahead]
    · have hne2 : ¬ g = k := fun e => hne (by rw [e])
      unfold sortWorldK
      rw [heap_grow_old _ _ (by simpa [putRowK, putRow, mapBlock, Sort.ahead] using hk)]
      simp [putRowK, putRow, mapBlock, Sort.ahead, Array.getElem?_modify, hne2]
/-! ### The sort -/
theorem ltP (x y : Pt) : ltOf cfP x y = decide (x.1 < y.1) := by
  unfold ltOf cfP Lib.compareInt
  by_cases h1 : x.1 < y.1
  · simp [h1]
  · by_cases h2 : y.1 < x.1 <;> simp [h1, h2]
theorem swoP : SWO (ltOf cfP) where
  irrefl x := by rw [ltP]; simp
  trans x y z h1 h2 := by rw [ltP] at *; simp at *; omega
  ntrans x y z h1 h2 := by rw [ltP] at *; simp at *; omega
set_option maxHeartbeats 4000000 in
theorem len64_small (n : Nat) (w : World) (h : n ≤ 12) : Calls Tryz.prog 74 #[.int .u64 (n : Int)] w fun e w' => (∃ l : Int, e = .returned (.int .i64 l)) ∧ w' = w := by
  have hc : n = 0 ∨ n = 1 ∨ n = 2 ∨ n = 3 ∨ n = 4 ∨ n = 5 ∨ n = 6 ∨ n = 7 ∨ n = 8 ∨ n = 9 ∨ n = 10 ∨ n = 11 ∨ n = 12 := by omega
  rcases hc with rfl | rfl | rfl | rfl | rfl | rfl | rfl | rfl | rfl | rfl | rfl | rfl | rfl
  all_goals
    go_enter Tryz.func74, Tryz.ntmps74
    go_wp2_with fail
    go_ret
    exact ⟨⟨_, rfl⟩, rfl⟩
set_option maxHeartbeats 1000000 in
theorem len_small (n : Nat) (w : World) (h : n ≤ 12) : Calls Tryz.prog 81 #[.int .u64 (n : Int)] w fun e w' => (∃ l : Int, e = .returned (.int .i64 l)) ∧ w' = w := by
  have J := hide (len64_small n w h)
  go_enter Tryz.func81, Tryz.ntmps81
  go_wp2_with fail
  refine J.out.mono ?_
  rintro e w' ⟨⟨l, rfl⟩, rfl⟩
  go_wp2_with fail
  go_ret
  exact ⟨⟨_, rfl⟩, rfl⟩
/-- Nothing is put in order. -/
theorem ins_none (ao : Option Addr) (c : Nat) (fv : Value) (w : World) : Calls Tryz.prog 125 #[.slice ao 0 c, .int .i64 0, .int .i64 0, fv] w fun e w' => e = .returned (.tuple #[]) ∧ w' = w := by
  go_enter Tryz.func125, Tryz.ntmps125
  go_wp2_with fail
  refine wp_loop_rounds 1 ?_
  rw [rounds_succ]
  go_wp2_with fail
  go_end0
  exact ⟨rfl, rfl⟩
set_option maxHeartbeats 2000000 in
theorem pdq_small (R : World → Prop) (ao : Option Addr) (n c : Nat) (fv : Value) (w : World) (lim : Int) (h : n ≤ 12) (J : Calls Tryz.prog 125 #[.slice ao n c, .int .i64 0, .int .i64 (n : Int), fv] w fun e w' => e = .returned (.tuple #[]) ∧ R w') :
    Calls Tryz.prog 116 #[.slice ao n c, .int .i64 0, .int .i64 (n : Int), .int .i64 lim, fv] w fun e w' => e = .returned (.tuple #[]) ∧ R w' := by
  have J := hide J
  have t1 : IntKind.i64.wrap ((n : Int) - 0) = (n : Int) := by rw [IntKind.wrap_i64]; omega
  have t2 : (n : Int) ≤ 12 := by omega
  go_enter Tryz.func116, Tryz.ntmps116
  go_wp2_with fail
  refine wp_loop_rounds 1 ?_
  rw [rounds_succ]
  go_wp2_with fail
  refine J.out.mono ?_
  rintro e w' ⟨rfl, hR⟩
  have HR := hide hR
  clear hR
  go_wp2_with fail
  (try simp only [Exit.inBlock, Exit.then]); refine bodyPost_ret (results_none rfl _ _ _) rfl ?_
  exact ⟨rfl, HR.out⟩
set_option maxHeartbeats 2000000 in
theorem sortf_small (R : World → Prop) (ao : Option Addr) (n c : Nat) (fv : Value) (w : World) (h : n ≤ 12) (J : Calls Tryz.prog 125 #[.slice ao n c, .int .i64 0, .int .i64 (n : Int), fv] w fun e w' => e = .returned (.tuple #[]) ∧ R w') :
    Calls Tryz.prog 89 #[.slice ao n c, fv] w fun e w' => e = .returned (.tuple #[]) ∧ R w' := by
  have JL := hide (len_small n w h)
  have JP : Hid (∀ lim : Int, Calls Tryz.prog 116 #[.slice ao n c, .int .i64 0, .int .i64 (n : Int), .int .i64 lim, fv] w fun e w' => e = .returned (.tuple #[]) ∧ R w') := fun lim => pdq_small R ao n c fv w lim h J
  clear J
  go_enter Tryz.func89, Tryz.ntmps89
  go_wp2_with fail
  refine JL.out.mono ?_
  rintro e w' ⟨⟨l, rfl⟩, rfl⟩
  go_wp2_with fail
  refine (JP.out _).mono ?_
  rintro e w' ⟨rfl, hR⟩
  have HR := hide hR
  clear hR
  go_wp2_with fail
  go_end0
  exact ⟨rfl, HR.out⟩
/-- slices.SortFunc, by rising kinds. -/
theorem sort_any {w : World} {v : Value} {l : List Pt} (h : w.ownsRow 0 51 2 v l.length (pz l)) (h12 : l.length ≤ 12) : Calls Tryz.prog 89 #[v, .func (.func 90) #[] #[]] w fun e w' => e = .returned (.tuple #[]) ∧ ∃ l', l'.Perm l ∧ l'.Pairwise (fun x y => x.1 ≤ y.1) ∧ w'.ownsRow 0 51 2 v l.length (pz l') ∧ w.grownBy w' v.ownBlock := by
  by_cases hn : v = .slice none 0 0
  · subst hn
    have hl : l.length = 0 := by
      rcases h.2 with ⟨_, h0⟩ | ⟨g, c, cur, e, _⟩
      · exact h0
      · cases e
    obtain rfl := List.eq_nil_of_length_eq_zero hl
    refine sortf_small (fun w' => ∃ l', l'.Perm [] ∧ l'.Pairwise (fun x y => x.1 ≤ y.1) ∧ w'.ownsRow 0 51 2 (.slice none 0 0) 0 (pz l') ∧ w.grownBy w' none) none 0 0 _ w (by omega) ((ins_none _ _ _ w).mono ?_)
    rintro e w' ⟨rfl, rfl⟩
    exact ⟨rfl, [], List.Perm.refl _, List.Pairwise.nil, h, grown_later (Below.refl _ _)⟩
  · obtain ⟨g, c, rfl⟩ : ∃ g c, v = .slice (some ⟨g, 0, none⟩) l.length c := by
      rcases h.2 with ⟨e, _⟩ | ⟨g, c, cur, e, _⟩
      · exact absurd e hn
      · exact ⟨g, c, e⟩
    have hg := (h.lt g rfl).2
    refine sortf_small (fun w' => ∃ l', l'.Perm l ∧ l'.Pairwise (fun x y => x.1 ≤ y.1) ∧ w'.ownsRow 0 51 2 (.slice (some ⟨g, 0, none⟩) l.length c) l.length (pz l') ∧ w.grownBy w' (some g)) _ l.length c _ w h12 ?_
    have eg : ∀ args w, (callFunc 90 args).run Tryz.prog w = .ok (.enter 90 args) w := enters_of Tryz.func90 (by kernel_rfl) rfl
    have hcon := AnyQ.insertionSortCmpFunc laidP 2 (fun w => by kernel_rfl) (fun w => by kernel_rfl) encP (fun _ => rfl) (fun x v hv => by simp [encP] at hv; rcases hv with rfl | rfl <;> rfl) cfP 90 #[] g 0 c 0 l.length l.toArray w eg (fun _ _ _ _ x y => byKind_any x y _) (part_holds h) hg (Nat.zero_le _) (by simp) (by simp; omega)
    have hsrt := insertionSort_holds (lt := ltOf cfP) swoP l.toArray 0 l.length (Nat.zero_le _) (by simp)
    change Calls Tryz.prog 125 _ _ _ at hcon
    simp only [List.size_toArray] at hcon
    refine hcon.mono ?_
    rintro e w' ⟨rfl, n, os, rfl⟩
    obtain ⟨d', hd'⟩ : ∃ d', d' = Sort.insertionSort (ltOf cfP) l.toArray 0 l.length := ⟨_, rfl⟩
    rw [← hd'] at hsrt ⊢
    obtain ⟨⟨hp1, -, hp3⟩, hs⟩ := hsrt
    have hsz : d'.toList.length = l.length := by simpa using hp1
    have hperm : d'.toList.Perm l := by
      have e1 : d'.extract 0 l.length = d' := by rw [← hsz]; simp
      rw [e1] at hp3
      simpa using hp3
    obtain ⟨k1, k2⟩ := part_sorted (n := n) (os := os) (l' := d'.toList) h hsz
    refine ⟨rfl, d'.toList, hperm, ?_, k1, k2⟩
    rw [List.pairwise_iff_getElem]
    intro i j hi hj hij
    have := hs i j (Nat.zero_le _) hij (by omega)
    rw [ltP, decide_eq_false_iff_not, getElem!_pos d' i (by simpa using hi), getElem!_pos d' j (by simpa using hj)] at this
    simp only [Array.getElem_toList]
    omega
end Go.Proofs.YtfbhoemfabgjpaaGreat

/-
  Buffer: slices.SortFunc at turns, laid.
-/
namespace Go.Proofs.YtfbhoemfabgjpaaGreat
open Go.RowKit Go.Shelf Go.Lib Go.Sort
set_option maxRecDepth 100000
def renT : Ren := ⟨fun x => if x = 6 then 62 else if x = 14 then 86 else if x = 15 then 81 else if x = 20 then 107 else if x = 21 then 108 else if x = 22 then 109 else if x = 23 then 110 else if x = 24 then 111 else if x = 25 then 112 else if x = 26 then 113 else if x = 27 then 114 else if x = 28 then 106 else if x = 29 then 74 else if x = 46 then 122 else if x = 47 then 118 else if x = 48 then 119 else if x = 49 then 123 else if x = 50 then 124 else if x = 57 then 134 else x, fun x => if x = 22 then 95 else if x = 24 then 69 else if x = 25 then 72 else if x = 39 then 138 else if x = 45 then 166 else if x = 46 then 167 else if x = 50 then 164 else if x = 53 then 173 else if x = 55 then 113 else if x = 66 then 181 else if x = 70 then 185 else if x = 76 then 194 else if x = 77 then 114 else x, fun x => x⟩
set_option maxHeartbeats 8000000 in
theorem laidT : SlLaysF0.n6 Tryz.prog renT where
  mixed := by kernel_rfl
  f6 := ⟨"slices.SortFunc[[]hindcast/buffer.turn,hindcast/buffer.turn]", by decide, by kernel_rfl⟩
  f14 := ⟨"slices.pdqsortCmpFunc[hindcast/buffer.turn]", by decide, by kernel_rfl⟩
  f15 := by kernel_rfl
  f20 := ⟨"slices.insertionSortCmpFunc[hindcast/buffer.turn]", by decide, by kernel_rfl⟩
  f21 := ⟨"slices.heapSortCmpFunc[hindcast/buffer.turn]", by decide, by kernel_rfl⟩
  f22 := ⟨"slices.breakPatternsCmpFunc[hindcast/buffer.turn]", by decide, by kernel_rfl⟩
  f23 := ⟨"slices.choosePivotCmpFunc[hindcast/buffer.turn]", by decide, by kernel_rfl⟩
  f24 := ⟨"slices.reverseRangeCmpFunc[hindcast/buffer.turn]", by decide, by kernel_rfl⟩
  f25 := ⟨"slices.partialInsertionSortCmpFunc[hindcast/buffer.turn]", by decide, by kernel_rfl⟩
  f26 := ⟨"slices.partitionEqualCmpFunc[hindcast/buffer.turn]", by decide, by kernel_rfl⟩
  f27 := ⟨"slices.partitionCmpFunc[hindcast/buffer.turn]", by decide, by kernel_rfl⟩
  f28 := by kernel_rfl
  f29 := by kernel_rfl
  f46 := ⟨"slices.siftDownCmpFunc[hindcast/buffer.turn]", by decide, by kernel_rfl⟩
  f47 := by kernel_rfl
  f48 := by kernel_rfl
  f49 := ⟨"slices.medianAdjacentCmpFunc[hindcast/buffer.turn]", by decide, by kernel_rfl⟩
  f50 := ⟨"slices.medianCmpFunc[hindcast/buffer.turn]", by decide, by kernel_rfl⟩
  f57 := ⟨"slices.order2CmpFunc[hindcast/buffer.turn]", by decide, by kernel_rfl⟩
  t0 := by kernel_rfl
  a0 := fun w => by kernel_rfl
  z0 := fun w => by kernel_rfl
  v0 := fun w => by kernel_rfl
  t3 := by kernel_rfl
  a3 := fun w => by kernel_rfl
  z3 := fun w => by kernel_rfl
  v3 := fun w => by kernel_rfl
  t4 := by kernel_rfl
  a4 := fun w => by kernel_rfl
  z4 := fun w => by kernel_rfl
  v4 := fun w => by kernel_rfl
  t5 := by kernel_rfl
  a5 := fun w => by kernel_rfl
  z5 := fun w => by kernel_rfl
  v5 := fun w => by kernel_rfl
  t9 := by kernel_rfl
  a9 := fun w => by kernel_rfl
  z9 := fun w => by kernel_rfl
  v9 := fun w => by kernel_rfl
  t22 := by kernel_rfl
  a22 := fun w => by kernel_rfl
  z22 := fun w => by kernel_rfl
  v22 := fun w => by kernel_rfl
  t25 := by kernel_rfl
  a25 := fun w => by kernel_rfl
  z25 := fun w => by kernel_rfl
  v25 := fun w => by kernel_rfl
  t39 := by kernel_rfl
  a39 := fun w => by kernel_rfl
  z39 := fun w => by kernel_rfl
  v39 := fun w => by kernel_rfl
  t45 := by kernel_rfl
  a45 := fun w => by kernel_rfl
  z45 := fun w => by kernel_rfl
  v45 := fun w => by kernel_rfl
  t46 := by kernel_rfl
  a46 := fun w => by kernel_rfl
  z46 := fun w => by kernel_rfl
  v46 := fun w => by kernel_rfl
  t50 := by kernel_rfl
  a50 := fun w => by kernel_rfl
  z50 := fun w => by kernel_rfl
  v50 := fun w => by kernel_rfl
  t53 := by kernel_rfl
  a53 := fun w => by kernel_rfl
  z53 := fun w => by kernel_rfl
  v53 := fun w => by kernel_rfl
  t55 := by kernel_rfl
  a55 := fun w => by kernel_rfl
  z55 := fun w => by kernel_rfl
  v55 := fun w => by kernel_rfl
  t66 := by kernel_rfl
  a66 := fun w => by kernel_rfl
  z66 := fun w => by kernel_rfl
  v66 := fun w => by kernel_rfl
  t70 := by kernel_rfl
  a70 := fun w => by kernel_rfl
  z70 := fun w => by kernel_rfl
  v70 := fun w => by kernel_rfl
  t76 := by kernel_rfl
  a76 := fun w => by kernel_rfl
  z76 := fun w => by kernel_rfl
  v76 := fun w => by kernel_rfl
  t77 := by kernel_rfl
  a77 := fun w => by kernel_rfl
  z77 := fun w => by kernel_rfl
  v77 := fun w => by kernel_rfl
end Go.Proofs.YtfbhoemfabgjpaaGreat

/-
  Buffer: turns are held against one another.
-/
namespace Go.Proofs.YtfbhoemfabgjpaaGreat
open Go.RowKit Go.Shelf Go.Lib Go.Sort
set_option maxRecDepth 100000
theorem or_any {W : World} {g : Nat} (a b : Int) (h0 : W.cell? ⟨g, 0, none⟩ = some (.int .i64 a)) (h1 : W.cell? ⟨g, 1, none⟩ = some (.int .i64 b)) : Calls Tryz.prog 37 #[.slice (some ⟨g, 0, none⟩) 2 2] W fun e w' => e = .returned (.int .i64 (if a = 0 then b else a)) ∧ w' = W := by
  by_cases ha : a = 0
  · subst ha
    rw [if_pos rfl]
    by_cases hb : b = 0
    · subst hb
      go_enter Tryz.func37, Tryz.ntmps37
      go_wp2_with fail
      refine wp_loop_rounds 3 ?_
      rw [rounds_succ]
      go_wp2_with fail
      rw [rounds_succ]
      go_wp2_with fail
      rw [rounds_succ]
      go_wp2_with fail
      go_ret
      exact ⟨rfl, rfl⟩
    · have tb : (b != 0) = true := by rw [bne_iff_ne]; exact hb
      have HB := hide hb
      clear hb
      go_enter Tryz.func37, Tryz.ntmps37
      go_wp2_with fail
      refine wp_loop_rounds 3 ?_
      rw [rounds_succ]
      go_wp2_with fail
      rw [rounds_succ]
      go_wp2_with fail
      go_ret
      exact ⟨rfl, rfl⟩
  · rw [if_neg ha]
    have ta : (a != 0) = true := by rw [bne_iff_ne]; exact ha
    have HA := hide ha
    clear ha
    go_enter Tryz.func37, Tryz.ntmps37
    go_wp2_with fail
    refine wp_loop_rounds 3 ?_
    rw [rounds_succ]
    go_wp2_with fail
    go_ret
    exact ⟨rfl, rfl⟩
/-- By their systems, then by their numbers. -/
def cfT (p r : Int × Int) : Int := if Lib.compareInt p.1 r.1 = 0 then Lib.compareInt p.2 r.2 else Lib.compareInt p.1 r.1
def encT (p : Int × Int) : List Value := [.int .i64 p.1, .int .i64 p.2]
set_option maxHeartbeats 4000000 in
theorem turns_any (p r : Int × Int) (w : World) : Calls Tryz.prog 19 #[.agg (encT p).toArray, .agg (encT r).toArray] w fun e w' => e = .returned (.int .i64 (cfT p r)) ∧ ∃ q os', w' = grow (w.drewN q) os' := by
  obtain ⟨x, x2⟩ := p
  obtain ⟨y, y2⟩ := r
  unfold encT cfT
  dsimp only
  have J : Hid (∀ a b W, Calls Tryz.prog 38 #[.int .i64 a, .int .i64 b] W fun e w' => e = .returned (.int .i64 (Lib.compareInt a b)) ∧ w' = W) := fun a b W => cmp_any a b W
  obtain ⟨zx, hzx⟩ : ∃ z, z = Lib.compareInt x y := ⟨_, rfl⟩
  obtain ⟨zy, hzy⟩ : ∃ z, z = Lib.compareInt x2 y2 := ⟨_, rfl⟩
  have J1 : Hid (∀ W, Calls Tryz.prog 38 #[.int .i64 x, .int .i64 y] W fun e w' => e = .returned (.int .i64 zx) ∧ w' = W) := fun W => hzx ▸ J.out x y W
  have J2 : Hid (∀ W, Calls Tryz.prog 38 #[.int .i64 x2, .int .i64 y2] W fun e w' => e = .returned (.int .i64 zy) ∧ w' = W) := fun W => hzy ▸ J.out x2 y2 W
  rw [← hzx, ← hzy]
  obtain ⟨zr, hzr⟩ : ∃ z, z = if zx = 0 then zy else zx := ⟨_, rfl⟩
  have JO : Hid (∀ W : World, Calls Tryz.prog 37 #[.slice (some ⟨W.heap.size, 0, none⟩) 2 2] (W.alloc (.cells #[.int .i64 zx, .int .i64 zy] 3)).drew fun e w' => e = .returned (.int .i64 zr) ∧ w' = (W.alloc (.cells #[.int .i64 zx, .int .i64 zy] 3)).drew) := fun W => hzr ▸ or_any zx zy ((cell_of_row (W.alloc (.cells #[.int .i64 zx, .int .i64 zy] 3)) _ _ _ 3 (0, 0) (heap_alloc_new W _)).trans rfl) ((cell_of_row (W.alloc (.cells #[.int .i64 zx, .int .i64 zy] 3)) _ _ _ 3 (0, 0) (heap_alloc_new W _)).trans rfl)
  rw [← hzr]
  clear J hzx hzy hzr
  go_enter Tryz.func19, Tryz.ntmps19
  go_wp2_with fail
  obtain ⟨w0, hw0⟩ : ∃ X, X = (w.alloc (.cells #[.int .i64 x, .int .i64 x2] 69)).alloc (.cells #[.int .i64 y, .int .i64 y2] 69) := ⟨_, rfl⟩
  have G0 : Hid (w0 = grow w #[.cells #[.int .i64 x, .int .i64 x2] 69 (0, 0), .cells #[.int .i64 y, .int .i64 y2] 69 (0, 0)]) := by
    unfold Hid
    rw [hw0, alloc_eq_grow, alloc_eq_grow, grow_grow]
    rfl
  have k0 : w0.heap[w.heap.size]? = some (.cells #[.int .i64 x, .int .i64 x2] 69 (0, 0)) := by
    rw [hw0]
    exact ((below_alloc (w.alloc (.cells #[.int .i64 x, .int .i64 x2] 69)) _).block w.heap.size (by simp)).trans (heap_alloc_new w _)
  have k1 : w0.heap[w.heap.size + 1]? = some (.cells #[.int .i64 y, .int .i64 y2] 69 (0, 0)) := by
    rw [hw0]
    have := heap_alloc_new (w.alloc (.cells #[.int .i64 x, .int .i64 x2] 69)) (.cells #[.int .i64 y, .int .i64 y2] 69)
    simpa using this
  rw [← hw0]
  obtain ⟨kx, hkx⟩ : ∃ k, k = w.heap.size := ⟨_, rfl⟩
  obtain ⟨ky, hky⟩ : ∃ k, k = w.heap.size + 1 := ⟨_, rfl⟩
  rw [← hkx] at k0
  rw [← hky] at k1
  rw [← hky, ← hkx]
  have c0 : w0.cell? ⟨kx, 0, none⟩ = some (.int .i64 x) := by rw [cell_of_row w0 _ _ _ 69 (0, 0) k0]; rfl
  have c1 : w0.cell? ⟨kx, 1, none⟩ = some (.int .i64 x2) := by rw [cell_of_row w0 _ _ _ 69 (0, 0) k0]; rfl
  have c2 : w0.cell? ⟨ky, 0, none⟩ = some (.int .i64 y) := by rw [cell_of_row w0 _ _ _ 69 (0, 0) k1]; rfl
  have c3 : w0.cell? ⟨ky, 1, none⟩ = some (.int .i64 y2) := by rw [cell_of_row w0 _ _ _ 69 (0, 0) k1]; rfl
  clear k0 k1 hw0 hkx hky
  go_region_held3 (fun V => V.cell? ⟨kx, 0, none⟩ = some (.int .i64 x) ∧ V.cell? ⟨kx, 1, none⟩ = some (.int .i64 x2) ∧ V.cell? ⟨ky, 0, none⟩ = some (.int .i64 y) ∧ V.cell? ⟨ky, 1, none⟩ = some (.int .i64 y2)) (go_keep) ((first | (go_at_call_of 38 (Value.int .i64 x); refine (J1.out _).mono ?_; rintro e w3 ⟨rfl, rfl⟩) | (go_at_call_of 38 (Value.int .i64 x2); refine (J2.out _).mono ?_; rintro e w4 ⟨rfl, rfl⟩) | (go_at_call 37; refine (JO.out _).mono ?_; rintro e w5 ⟨rfl, rfl⟩)))
  go_wp2_with fail
  go_ret
  refine ⟨rfl, 1, #[.cells #[.int .i64 x, .int .i64 x2] 69 (0, 0), .cells #[.int .i64 y, .int .i64 y2] 69 (0, 0), .cells #[.int .i64 zx, .int .i64 zy] 3 (0, 0)], ?_⟩
  rw [alloc_eq_grow, G0.out, grow_grow]
  rfl
end Go.Proofs.YtfbhoemfabgjpaaGreat

/-
  Buffer: turns are put in order.
-/
namespace Go.Proofs.YtfbhoemfabgjpaaGreat
open Go.RowKit Go.Shelf Go.Lib Go.Sort
set_option maxRecDepth 100000
theorem ezt_flat (l : List (Int × Int)) : (flatK encT 2 l.toArray).toList = ez l := by
  apply List.ext_getElem?
  intro j
  rw [Array.getElem?_toList]
  by_cases hj : j < l.length * 2
  · have h1 : j < (flatK encT 2 l.toArray).size := by simpa using hj
    rw [Array.getElem?_eq_getElem h1, ← getElem!_pos (flatK encT 2 l.toArray) j h1, get_flatK _ _ _ j (by simpa using hj)]
    have hi : j / 2 < l.length := by omega
    have e1 : (l.toArray[j / 2]!) = l[j / 2] := by rw [getElem!_pos _ _ (by simpa using hi)]; simp
    rw [e1]
    obtain ⟨a, b⟩ := ez_at l (j / 2) hi
    have hm : j % 2 = 0 ∨ j % 2 = 1 := by omega
    rcases hm with h | h
    · rw [show j / 2 * 2 = j by omega] at a
      rw [h, a]
      rfl
    · rw [show j / 2 * 2 + 1 = j by omega] at b
      rw [h, b]
      rfl
  · rw [Array.getElem?_eq_none (by simpa using hj), List.getElem?_eq_none (by rw [ez_len]; omega)]
theorem row_holds {w : World} {g c : Nat} {l : List (Int × Int)} (h : w.ownsRow 0 69 2 (.slice (some ⟨g, 0, none⟩) l.length c) l.length (ez l)) : HoldsK encT 2 w g 0 l.toArray := by
  intro j hj
  have hj2 : j < l.length * 2 := by simpa using hj
  refine ⟨?_, ?_⟩
  · rw [Nat.zero_add, h.cellAt j hj2, ← ezt_flat l, Array.getElem?_toList, Array.getElem?_eq_getElem hj, getElem!_pos (flatK encT 2 l.toArray) j hj]
    rfl
  · rw [Nat.zero_add]
    exact h.frozenAt j
theorem row_sorted {w : World} {g c n : Nat} {l l' : List (Int × Int)} {os : Array Obj} (h : w.ownsRow 0 69 2 (.slice (some ⟨g, 0, none⟩) l.length c) l.length (ez l)) (hl : l'.length = l.length) :
    (sortWorldK encT 2 w g 0 n l'.toArray os).ownsRow 0 69 2 (.slice (some ⟨g, 0, none⟩) l.length c) l.length (ez l') ∧ w.grownBy (sortWorldK encT 2 w g 0 n l'.toArray os) (some g) := by
  rcases h.2 with ⟨e0, _⟩ | ⟨g', cap', cur, e0, hb, hg, hn, hm, hs, ht⟩
  · cases e0
  · injection e0 with e1 _ e3
    injection e1 with e1
    injection e1 with e1
    subst e1; subst e3
    have hlt : g < w.heap.size := lt_of_block hg
    have hsz : (flatK encT 2 l'.toArray).size = l.length * 2 := by simp [hl]
    refine ⟨⟨by rw [ez_len, hl], .inr ⟨g, c, putCells id 0 (flatK encT 2 l'.toArray) cur, rfl, hb, ?_, hn, hm, by simpa [putCells] using hs, ?_⟩⟩, ⟨rfl, rfl, rfl, ?_, fun k hk hne => ?_⟩⟩
    · unfold sortWorldK
      rw [heap_grow_old _ _ (by simpa [putRowK, putRow, mapBlock, Sort.ahead] using hlt)]
      simp [putRowK, putRow, mapBlock, Sort.ahead, Array.getElem?_modify, hg, onCells]
    · rw [← ezt_flat l']
      apply List.ext_getElem?
      intro j
      rw [List.getElem?_take, Array.getElem?_toList, Array.getElem?_toList]
      by_cases hj : j < l.length * 2
      · have hjc : j < cur.size := by rw [hs]; omega
        simp only [if_pos hj, putCells, Array.getElem?_mapIdx, Array.getElem?_eq_getElem hjc, Option.map_some]
        have hF : j < (flatK encT 2 l'.toArray).size := by omega
        rw [if_pos ⟨Nat.zero_le _, by omega⟩, Nat.sub_zero, Array.getElem?_eq_getElem hF, getElem!_pos (flatK encT 2 l'.toArray) j hF]
        rfl
      · rw [if_neg hj, Array.getElem?_eq_none (by omega)]
    · simp [sortWorldK, putRowK, putRow, mapBlock, Sort.ahead]
    · have hne2 : ¬ g = k := fun e => hne (by rw [e])
      unfold sortWorldK
      rw [heap_grow_old _ _ (by simpa [putRowK, putRow, mapBlock, Sort.ahead] using hk)]
      simp [putRowK, putRow, mapBlock, Sort.ahead, Array.getElem?_modify, hne2]
/-- One turn comes ahead of another one. -/
def ltT (x y : Int × Int) : Prop := x.1 < y.1 ∨ x.1 = y.1 ∧ x.2 < y.2
instance (x y : Int × Int) : Decidable (ltT x y) := by unfold ltT; infer_instance
theorem ltR (x y : Int × Int) : ltOf cfT x y = decide (ltT x y) := by
  unfold ltOf cfT Lib.compareInt ltT
  by_cases h1 : x.1 < y.1
  · simp [h1]
  · by_cases h2 : y.1 < x.1
    · have h3 : ¬ x.1 = y.1 := by omega
      simp [h1, h2, h3]
    · have h3 : x.1 = y.1 := by omega
      by_cases h4 : x.2 < y.2
      · simp [h3, h4]
      · by_cases h5 : y.2 < x.2 <;> simp [h3, h4, h5]
theorem swoT : SWO (ltOf cfT) where
  irrefl x := by rw [ltR]; simp [ltT]
  trans x y z h1 h2 := by
    rw [ltR] at *
    have a := of_decide_eq_true h1
    have b := of_decide_eq_true h2
    refine decide_eq_true ?_
    unfold ltT at *
    omega
  ntrans x y z h1 h2 := by
    rw [ltR] at *
    have a := of_decide_eq_false h1
    have b := of_decide_eq_false h2
    refine decide_eq_false ?_
    unfold ltT at *
    omega
/-! ### Nothing is put in order -/
theorem rins_none (ao : Option Addr) (c : Nat) (fv : Value) (w : World) : Calls Tryz.prog 107 #[.slice ao 0 c, .int .i64 0, .int .i64 0, fv] w fun e w' => e = .returned (.tuple #[]) ∧ w' = w := by
  go_enter Tryz.func107, Tryz.ntmps107
  go_wp2_with fail
  refine wp_loop_rounds 1 ?_
  rw [rounds_succ]
  go_wp2_with fail
  go_end0
  exact ⟨rfl, rfl⟩
set_option maxHeartbeats 2000000 in
theorem rpdq_none (ao : Option Addr) (c : Nat) (fv : Value) (w : World) (lim : Int) : Calls Tryz.prog 86 #[.slice ao 0 c, .int .i64 0, .int .i64 0, .int .i64 lim, fv] w fun e w' => e = .returned (.tuple #[]) ∧ w' = w := by
  have J := hide (rins_none ao c fv w)
  go_enter Tryz.func86, Tryz.ntmps86
  go_wp2_with fail
  refine wp_loop_rounds 1 ?_
  rw [rounds_succ]
  go_wp2_with fail
  refine J.out.mono ?_
  rintro e w' ⟨rfl, rfl⟩
  go_wp2_with fail
  (try simp only [Exit.inBlock, Exit.then]); refine bodyPost_ret (results_none rfl _ _ _) rfl ?_
  exact ⟨rfl, rfl⟩
set_option maxHeartbeats 2000000 in
theorem rsort_none (ao : Option Addr) (c : Nat) (fv : Value) (w : World) : Calls Tryz.prog 62 #[.slice ao 0 c, fv] w fun e w' => e = .returned (.tuple #[]) ∧ w' = w := by
  have JL := hide (len_small 0 w (by omega))
  have JP : Hid (∀ lim : Int, Calls Tryz.prog 86 #[.slice ao 0 c, .int .i64 0, .int .i64 0, .int .i64 lim, fv] w fun e w' => e = .returned (.tuple #[]) ∧ w' = w) := fun lim => rpdq_none ao c fv w lim
  go_enter Tryz.func62, Tryz.ntmps62
  go_wp2_with fail
  refine JL.out.mono ?_
  rintro e w' ⟨⟨l, rfl⟩, rfl⟩
  go_wp2_with fail
  refine (JP.out _).mono ?_
  rintro e w' ⟨rfl, rfl⟩
  go_wp2_with fail
  go_end0
  exact ⟨rfl, rfl⟩
/-- slices.SortFunc of rows, by their numbers. -/
theorem rsort_any {w : World} {v : Value} {l : List (Int × Int)} (h : w.ownsRow 0 69 2 v l.length (ez l)) (hn : l.length ≤ 1000000) : Calls Tryz.prog 62 #[v, .func (.func 19) #[] #[]] w fun e w' => e = .returned (.tuple #[]) ∧ ∃ l', l'.Perm l ∧ l'.Pairwise (fun x y => ¬ ltT y x) ∧ w'.ownsRow 0 69 2 v l.length (ez l') ∧ w.grownBy w' v.ownBlock := by
  by_cases hv : v = .slice none 0 0
  · subst hv
    have hl : l.length = 0 := by
      rcases h.2 with ⟨_, h0⟩ | ⟨g, c, cur, e, _⟩
      · exact h0
      · cases e
    obtain rfl := List.eq_nil_of_length_eq_zero hl
    refine (rsort_none none 0 _ w).mono ?_
    rintro e w' ⟨rfl, rfl⟩
    exact ⟨rfl, [], List.Perm.refl _, List.Pairwise.nil, h, grown_later (Below.refl _ _)⟩
  · obtain ⟨g, c, rfl⟩ : ∃ g c, v = .slice (some ⟨g, 0, none⟩) l.length c := by
      rcases h.2 with ⟨e, _⟩ | ⟨g, c, cur, e, _⟩
      · exact absurd e hv
      · exact ⟨g, c, e⟩
    have hg := (h.lt g rfl).2
    have eg : ∀ args w, (callFunc 19 args).run Tryz.prog w = .ok (.enter 19 args) w := enters_of Tryz.func19 (by kernel_rfl) rfl
    have hcon := AnyQ.slices_SortFunc laidT 2 (fun w => by kernel_rfl) (fun w => by kernel_rfl) encT (fun _ => rfl) (fun x v hv => by simp [encT] at hv; rcases hv with rfl | rfl | rfl <;> rfl) cfT swoT 19 #[] g 0 c l.toArray w eg (fun _ _ _ _ x y => turns_any x y _) (row_holds h) hg (by simp; omega)
    change Calls Tryz.prog 62 _ _ _ at hcon
    simp only [List.size_toArray] at hcon
    refine hcon.mono ?_
    rintro e w' ⟨rfl, d', n, os, ⟨hp1, -, hp3⟩, hs, rfl⟩
    have hsz : d'.toList.length = l.length := by simpa using hp1
    have hperm : d'.toList.Perm l := by
      have e1 : d'.extract 0 l.length = d' := by rw [← hsz]; simp
      rw [e1] at hp3
      simpa using hp3
    obtain ⟨k1, k2⟩ := row_sorted (n := n) (os := os) (l' := d'.toList) h hsz
    refine ⟨rfl, d'.toList, hperm, ?_, k1, k2⟩
    rw [List.pairwise_iff_getElem]
    intro i j hi hj hij
    have := hs i j (Nat.zero_le _) hij (by omega)
    rw [ltR, decide_eq_false_iff_not, getElem!_pos d' i (by simpa using hi), getElem!_pos d' j (by simpa using hj)] at this
    simpa only [Array.getElem_toList] using this
end Go.Proofs.YtfbhoemfabgjpaaGreat
