/-
  World: parts are put in order by their kinds (slices.SortFunc at twelve or fewer).
-/
import Derived.Test.YtiolaenkfhcajaaGreatWSt
import Derived.Shelf.SlSortCmp.InsertionK
namespace Go.Proofs.YtiolaenkfhcajaaGreat
open Go.RowKit Go.Shelf Go.Lib Go.Sort
set_option maxRecDepth 100000
set_option maxHeartbeats 1000000 in
theorem isnan_any (x : Int) (w : World) : Calls Tryz.prog 44 #[.int .i64 x] w fun e w' => e = .returned (.bool false) ∧ w' = w := by
  go_enter Tryz.func44, Tryz.ntmps44
  go_wp2_with fail
  go_ret
  exact ⟨rfl, rfl⟩
set_option maxHeartbeats 1000000 in
theorem cmp_any (x y : Int) (w : World) : Calls Tryz.prog 24 #[.int .i64 x, .int .i64 y] w fun e w' => e = .returned (.int .i64 (Lib.compareInt x y)) ∧ w' = w := by
  have J1 := fun W => isnan_any x W
  have J2 := fun W => isnan_any y W
  have J1 := hide J1
  have J2 := hide J2
  by_cases h1 : x < y
  · have e1 : Lib.compareInt x y = -1 := by unfold Lib.compareInt; rw [if_pos h1]
    rw [e1]
    go_enter Tryz.func24, Tryz.ntmps24
    go_wp2_with fail
    refine (J1.out _).mono ?_
    rintro e w' ⟨rfl, rfl⟩
    go_wp2_with fail
    refine (J2.out _).mono ?_
    rintro e w' ⟨rfl, rfl⟩
    go_wp2_with fail
    go_ret
    exact ⟨rfl, rfl⟩
  · by_cases h2 : x > y
    · have e1 : Lib.compareInt x y = 1 := by unfold Lib.compareInt; rw [if_neg h1, if_pos h2]
      rw [e1]
      go_enter Tryz.func24, Tryz.ntmps24
      go_wp2_with fail
      refine (J1.out _).mono ?_
      rintro e w' ⟨rfl, rfl⟩
      go_wp2_with fail
      refine (J2.out _).mono ?_
      rintro e w' ⟨rfl, rfl⟩
      go_wp2_with fail
      go_ret
      exact ⟨rfl, rfl⟩
    · have e1 : Lib.compareInt x y = 0 := by unfold Lib.compareInt; rw [if_neg h1, if_neg h2]
      rw [e1]
      go_enter Tryz.func24, Tryz.ntmps24
      go_wp2_with fail
      refine (J1.out _).mono ?_
      rintro e w' ⟨rfl, rfl⟩
      go_wp2_with fail
      refine (J2.out _).mono ?_
      rintro e w' ⟨rfl, rfl⟩
      go_wp2_with fail
      go_ret
      exact ⟨rfl, rfl⟩
/-- A part's two cells: its kind, where its values lie. -/
abbrev Pt := Int × Option Addr × Nat × Nat
def encP (p : Pt) : List Value := [.int .i64 p.1, .slice p.2.1 p.2.2.1 p.2.2.2]
def cfP (p r : Pt) : Int := Lib.compareInt p.1 r.1
set_option maxHeartbeats 1000000 in
theorem byKind_any (p r : Pt) (w : World) : Calls Tryz.prog 78 #[.agg (encP p).toArray, .agg (encP r).toArray] w fun e w' => e = .returned (.int .i64 (cfP p r)) ∧ ∃ q os', w' = grow (w.drewN q) os' := by
  obtain ⟨x, ax, nx, cx⟩ := p
  obtain ⟨y, ay, ny, cy⟩ := r
  unfold encP cfP
  dsimp only
  have J := fun W => cmp_any x y W
  have J := hide J
  generalize Lib.compareInt x y = z at *
  go_enter Tryz.func78, Tryz.ntmps78
  go_wp2_with fail
  refine (J.out _).mono ?_
  rintro e w' ⟨rfl, rfl⟩
  go_wp2_with fail
  go_ret
  exact ⟨rfl, 0, _, by rw [alloc_eq_grow, alloc_eq_grow, grow_grow]; rfl⟩
def renP : Ren := ⟨fun x => if x = 20 then 103 else x, fun x => if x = 22 then 38 else if x = 24 then 50 else if x = 25 then 140 else x, fun x => x⟩
set_option maxHeartbeats 4000000 in
theorem laidP : SlLaysF0.n20 Tryz.prog renP where
  mixed := by kernel_rfl
  f20 := ⟨"slices.insertionSortCmpFunc[hindcast/api.Part]", by decide, by kernel_rfl⟩
  t0 := by kernel_rfl
  a0 := fun w => by kernel_rfl
  z0 := fun w => by kernel_rfl
  v0 := fun w => by kernel_rfl
  t3 := by kernel_rfl
  a3 := fun w => by kernel_rfl
  z3 := fun w => by kernel_rfl
  v3 := fun w => by kernel_rfl
  t4 := by kernel_rfl
  a4 := fun w => by kernel_rfl
  z4 := fun w => by kernel_rfl
  v4 := fun w => by kernel_rfl
  t22 := by kernel_rfl
  a22 := fun w => by kernel_rfl
  z22 := fun w => by kernel_rfl
  v22 := fun w => by kernel_rfl
  t25 := by kernel_rfl
  a25 := fun w => by kernel_rfl
  z25 := fun w => by kernel_rfl
  v25 := fun w => by kernel_rfl
/-! ### Rows of parts -/
def pz : List Pt → List Value
  | [] => []
  | p :: l => .int .i64 p.1 :: .slice p.2.1 p.2.2.1 p.2.2.2 :: pz l
theorem pz_len : ∀ l : List Pt, (pz l).length = l.length * 2
  | [] => rfl
  | p :: t => by simp [pz, pz_len t]; omega
theorem pz_append : ∀ a b : List Pt, pz (a ++ b) = pz a ++ pz b
  | [], _ => rfl
  | h :: t, b => by simp [pz, pz_append t b]
theorem pz_at : ∀ (l : List Pt) (i : Nat) (h : i < l.length), (pz l)[i * 2]? = some (.int .i64 l[i].1) ∧ (pz l)[i * 2 + 1]? = some (.slice l[i].2.1 l[i].2.2.1 l[i].2.2.2)
  | p :: t, 0, _ => ⟨rfl, rfl⟩
  | p :: t, i + 1, h => by
    have := pz_at t i (by simpa using h)
    rw [show (i + 1) * 2 = i * 2 + 1 + 1 by omega]
    simpa [pz] using this
theorem pz_flat (l : List Pt) : (flatK encP 2 l.toArray).toList = pz l := by
  apply List.ext_getElem?
  intro j
  rw [Array.getElem?_toList]
  by_cases hj : j < l.length * 2
  · have h1 : j < (flatK encP 2 l.toArray).size := by simpa using hj
    rw [Array.getElem?_eq_getElem h1, ← getElem!_pos (flatK encP 2 l.toArray) j h1, get_flatK _ _ _ j (by simpa using hj)]
    have hi : j / 2 < l.length := by omega
    have e1 : (l.toArray[j / 2]!) = l[j / 2] := by rw [getElem!_pos _ _ (by simpa using hi)]; simp
    rw [e1]
    obtain ⟨a, b⟩ := pz_at l (j / 2) hi
    rcases Nat.mod_two_eq_zero_or_one j with h | h
    · rw [show j / 2 * 2 = j by omega] at a
      rw [h, a]
      rfl
    · rw [show j / 2 * 2 + 1 = j by omega] at b
      rw [h, b]
      rfl
  · rw [Array.getElem?_eq_none (by simpa using hj), List.getElem?_eq_none (by rw [pz_len]; omega)]
theorem part_holds {w : World} {g c : Nat} {l : List Pt} (h : w.ownsRow 0 50 2 (.slice (some ⟨g, 0, none⟩) l.length c) l.length (pz l)) : HoldsK encP 2 w g 0 l.toArray := by
  intro j hj
  have hj2 : j < l.length * 2 := by simpa using hj
  refine ⟨?_, ?_⟩
  · rw [Nat.zero_add, h.cellAt j hj2, ← pz_flat l, Array.getElem?_toList, Array.getElem?_eq_getElem hj, getElem!_pos (flatK encP 2 l.toArray) j hj]
    rfl
  · rw [Nat.zero_add]
    exact h.frozenAt j
theorem part_sorted {w : World} {g c n : Nat} {l l' : List Pt} {os : Array Obj} (h : w.ownsRow 0 50 2 (.slice (some ⟨g, 0, none⟩) l.length c) l.length (pz l)) (hl : l'.length = l.length) :
    (sortWorldK encP 2 w g 0 n l'.toArray os).ownsRow 0 50 2 (.slice (some ⟨g, 0, none⟩) l.length c) l.length (pz l') ∧ w.grownBy (sortWorldK encP 2 w g 0 n l'.toArray os) (some g) := by
  rcases h.2 with ⟨e0, _⟩ | ⟨g', cap', cur, e0, hb, hg, hn, hm, hs, ht⟩
  · cases e0
  · injection e0 with e1 _ e3
    injection e1 with e1
    injection e1 with e1
    subst e1; subst e3
    have hlt : g < w.heap.size := lt_of_block hg
    have hsz : (flatK encP 2 l'.toArray).size = l.length * 2 := by simp [hl]
    refine ⟨⟨by rw [pz_len, hl], .inr ⟨g, c, putCells id 0 (flatK encP 2 l'.toArray) cur, rfl, hb, ?_, hn, hm, by simpa [putCells] using hs, ?_⟩⟩, ⟨rfl, rfl, rfl, ?_, fun k hk hne => ?_⟩⟩
    · unfold sortWorldK
      rw [heap_grow_old _ _ (by simpa [putRowK, putRow, mapBlock, Sort.ahead] using hlt)]
      simp [putRowK, putRow, mapBlock, Sort.ahead, Array.getElem?_modify, hg, onCells]
    · rw [← pz_flat l']
      apply List.ext_getElem?
      intro j
      rw [List.getElem?_take, Array.getElem?_toList, Array.getElem?_toList]
      by_cases hj : j < l.length * 2
      · have hjc : j < cur.size := by rw [hs]; omega
        simp only [if_pos hj, putCells, Array.getElem?_mapIdx, Array.getElem?_eq_getElem hjc, Option.map_some]
        have hF : j < (flatK encP 2 l'.toArray).size := by omega
        rw [if_pos ⟨Nat.zero_le _, by omega⟩, Nat.sub_zero, Array.getElem?_eq_getElem hF, getElem!_pos (flatK encP 2 l'.toArray) j hF]
        rfl
      · rw [if_neg hj, Array.getElem?_eq_none (by omega)]
    · simp [sortWorldK, putRowK, putRow, mapBlock, Sort.ahead]
    · have hne2 : ¬ g = k := fun e => hne (by rw [e])
      unfold sortWorldK
      rw [heap_grow_old _ _ (by simpa [putRowK, putRow, mapBlock, Sort.ahead] using hk)]
      simp [putRowK, putRow, mapBlock, Sort.ahead, Array.getElem?_modify, hne2]
/-! ### The sort -/
theorem ltP (x y : Pt) : ltOf cfP x y = decide (x.1 < y.1) := by
  unfold ltOf cfP Lib.compareInt
  by_cases h1 : x.1 < y.1
  · simp [h1]
  · by_cases h2 : y.1 < x.1 <;> simp [h1, h2]
theorem swoP : SWO (ltOf cfP) where
  irrefl x := by rw [ltP]; simp
  trans x y z h1 h2 := by rw [ltP] at *; simp at *; omega
  ntrans x y z h1 h2 := by rw [ltP] at *; simp at *; omega
set_option maxHeartbeats 4000000 in
theorem len64_small (n : Nat) (w : World) (h : n ≤ 12) : Calls Tryz.prog 69 #[.int .u64 (n : Int)] w fun e w' => (∃ l : Int, e = .returned (.int .i64 l)) ∧ w' = w := by
  have hc : n = 0 ∨ n = 1 ∨ n = 2 ∨ n = 3 ∨ n = 4 ∨ n = 5 ∨ n = 6 ∨ n = 7 ∨ n = 8 ∨ n = 9 ∨ n = 10 ∨ n = 11 ∨ n = 12 := by omega
  rcases hc with rfl | rfl | rfl | rfl | rfl | rfl | rfl | rfl | rfl | rfl | rfl | rfl | rfl
  all_goals
    go_enter Tryz.func69, Tryz.ntmps69
    go_wp2_with fail
    go_ret
    exact ⟨⟨_, rfl⟩, rfl⟩
set_option maxHeartbeats 1000000 in
theorem len_small (n : Nat) (w : World) (h : n ≤ 12) : Calls Tryz.prog 43 #[.int .u64 (n : Int)] w fun e w' => (∃ l : Int, e = .returned (.int .i64 l)) ∧ w' = w := by
  have J := hide (len64_small n w h)
  go_enter Tryz.func43, Tryz.ntmps43
  go_wp2_with fail
  refine J.out.mono ?_
  rintro e w' ⟨⟨l, rfl⟩, rfl⟩
  go_wp2_with fail
  go_ret
  exact ⟨⟨_, rfl⟩, rfl⟩
/-- Nothing is put in order. -/
theorem ins_none (ao : Option Addr) (c : Nat) (fv : Value) (w : World) : Calls Tryz.prog 103 #[.slice ao 0 c, .int .i64 0, .int .i64 0, fv] w fun e w' => e = .returned (.tuple #[]) ∧ w' = w := by
  go_enter Tryz.func103, Tryz.ntmps103
  go_wp2_with fail
  refine wp_loop_rounds 1 ?_
  rw [rounds_succ]
  go_wp2_with fail
  go_end0
  exact ⟨rfl, rfl⟩
set_option maxHeartbeats 2000000 in
theorem pdq_small (R : World → Prop) (ao : Option Addr) (n c : Nat) (fv : Value) (w : World) (lim : Int) (h : n ≤ 12) (J : Calls Tryz.prog 103 #[.slice ao n c, .int .i64 0, .int .i64 (n : Int), fv] w fun e w' => e = .returned (.tuple #[]) ∧ R w') :
    Calls Tryz.prog 98 #[.slice ao n c, .int .i64 0, .int .i64 (n : Int), .int .i64 lim, fv] w fun e w' => e = .returned (.tuple #[]) ∧ R w' := by
  have J := hide J
  have t1 : IntKind.i64.wrap ((n : Int) - 0) = (n : Int) := by rw [IntKind.wrap_i64]; omega
  have t2 : (n : Int) ≤ 12 := by omega
  go_enter Tryz.func98, Tryz.ntmps98
  go_wp2_with fail
  refine wp_loop_rounds 1 ?_
  rw [rounds_succ]
  go_wp2_with fail
  refine J.out.mono ?_
  rintro e w' ⟨rfl, hR⟩
  have HR := hide hR
  clear hR
  go_wp2_with fail
  (try simp only [Exit.inBlock, Exit.then]); refine bodyPost_ret (results_none rfl _ _ _) rfl ?_
  exact ⟨rfl, HR.out⟩
set_option maxHeartbeats 2000000 in
theorem sortf_small (R : World → Prop) (ao : Option Addr) (n c : Nat) (fv : Value) (w : World) (h : n ≤ 12) (J : Calls Tryz.prog 103 #[.slice ao n c, .int .i64 0, .int .i64 (n : Int), fv] w fun e w' => e = .returned (.tuple #[]) ∧ R w') :
    Calls Tryz.prog 77 #[.slice ao n c, fv] w fun e w' => e = .returned (.tuple #[]) ∧ R w' := by
  have JL := hide (len_small n w h)
  have JP : Hid (∀ lim : Int, Calls Tryz.prog 98 #[.slice ao n c, .int .i64 0, .int .i64 (n : Int), .int .i64 lim, fv] w fun e w' => e = .returned (.tuple #[]) ∧ R w') := fun lim => pdq_small R ao n c fv w lim h J
  clear J
  go_enter Tryz.func77, Tryz.ntmps77
  go_wp2_with fail
  refine JL.out.mono ?_
  rintro e w' ⟨⟨l, rfl⟩, rfl⟩
  go_wp2_with fail
  refine (JP.out _).mono ?_
  rintro e w' ⟨rfl, hR⟩
  have HR := hide hR
  clear hR
  go_wp2_with fail
  go_end0
  exact ⟨rfl, HR.out⟩
/-- slices.SortFunc, by rising kinds. -/
theorem sort_any {w : World} {v : Value} {l : List Pt} (h : w.ownsRow 0 50 2 v l.length (pz l)) (h12 : l.length ≤ 12) : Calls Tryz.prog 77 #[v, .func (.func 78) #[] #[]] w fun e w' => e = .returned (.tuple #[]) ∧ ∃ l', l'.Perm l ∧ l'.Pairwise (fun x y => x.1 ≤ y.1) ∧ w'.ownsRow 0 50 2 v l.length (pz l') ∧ w.grownBy w' v.ownBlock := by
  by_cases hn : v = .slice none 0 0
  · subst hn
    have hl : l.length = 0 := by
      rcases h.2 with ⟨_, h0⟩ | ⟨g, c, cur, e, _⟩
      · exact h0
      · cases e
    obtain rfl := List.eq_nil_of_length_eq_zero hl
    refine sortf_small (fun w' => ∃ l', l'.Perm [] ∧ l'.Pairwise (fun x y => x.1 ≤ y.1) ∧ w'.ownsRow 0 50 2 (.slice none 0 0) 0 (pz l') ∧ w.grownBy w' none) none 0 0 _ w (by omega) ((ins_none _ _ _ w).mono ?_)
    rintro e w' ⟨rfl, rfl⟩
    exact ⟨rfl, [], List.Perm.refl _, List.Pairwise.nil, h, grown_later (Below.refl _ _)⟩
  · obtain ⟨g, c, rfl⟩ : ∃ g c, v = .slice (some ⟨g, 0, none⟩) l.length c := by
      rcases h.2 with ⟨e, _⟩ | ⟨g, c, cur, e, _⟩
      · exact absurd e hn
      · exact ⟨g, c, e⟩
    have hg := (h.lt g rfl).2
    refine sortf_small (fun w' => ∃ l', l'.Perm l ∧ l'.Pairwise (fun x y => x.1 ≤ y.1) ∧ w'.ownsRow 0 50 2 (.slice (some ⟨g, 0, none⟩) l.length c) l.length (pz l') ∧ w.grownBy w' (some g)) _ l.length c _ w h12 ?_
    have eg : ∀ args w, (callFunc 78 args).run Tryz.prog w = .ok (.enter 78 args) w := enters_of Tryz.func78 (by kernel_rfl) rfl
    have hcon := AnyQ.insertionSortCmpFunc laidP 2 (fun w => by kernel_rfl) (fun w => by kernel_rfl) encP (fun _ => rfl) (fun x v hv => by simp [encP] at hv; rcases hv with rfl | rfl <;> rfl) cfP 78 #[] g 0 c 0 l.length l.toArray w eg (fun _ _ _ _ x y => byKind_any x y _) (part_holds h) hg (Nat.zero_le _) (by simp) (by simp; omega)
    have hsrt := insertionSort_holds (lt := ltOf cfP) swoP l.toArray 0 l.length (Nat.zero_le _) (by simp)
    change Calls Tryz.prog 103 _ _ _ at hcon
    simp only [List.size_toArray] at hcon
    refine hcon.mono ?_
    rintro e w' ⟨rfl, n, os, rfl⟩
    obtain ⟨d', hd'⟩ : ∃ d', d' = Sort.insertionSort (ltOf cfP) l.toArray 0 l.length := ⟨_, rfl⟩
    rw [← hd'] at hsrt ⊢
    obtain ⟨⟨hp1, -, hp3⟩, hs⟩ := hsrt
    have hsz : d'.toList.length = l.length := by simpa using hp1
    have hperm : d'.toList.Perm l := by
      have e1 : d'.extract 0 l.length = d' := by rw [← hsz]; simp
      rw [e1] at hp3
      simpa using hp3
    obtain ⟨k1, k2⟩ := part_sorted (n := n) (os := os) (l' := d'.toList) h hsz
    refine ⟨rfl, d'.toList, hperm, ?_, k1, k2⟩
    rw [List.pairwise_iff_getElem]
    intro i j hi hj hij
    have := hs i j (Nat.zero_le _) hij (by omega)
    rw [ltP, decide_eq_false_iff_not, getElem!_pos d' i (by simpa using hi), getElem!_pos d' j (by simpa using hj)] at this
    simp only [Array.getElem_toList]
    omega
end Go.Proofs.YtiolaenkfhcajaaGreat
