/-
  Buffer: turns are put in order.
-/
import Derived.Test.YtiolaenkfhcajaaGreatBCmp
import Derived.Shelf.SlSortCmp.WholeK
namespace Go.Proofs.YtiolaenkfhcajaaGreat
open Go.RowKit Go.Shelf Go.Lib Go.Sort
set_option maxRecDepth 100000
theorem ezt_flat (l : List (Int × Int)) : (flatK encT 2 l.toArray).toList = ez l := by
  apply List.ext_getElem?
  intro j
  rw [Array.getElem?_toList]
  by_cases hj : j < l.length * 2
  · have h1 : j < (flatK encT 2 l.toArray).size := by simpa using hj
    rw [Array.getElem?_eq_getElem h1, ← getElem!_pos (flatK encT 2 l.toArray) j h1, get_flatK _ _ _ j (by simpa using hj)]
    have hi : j / 2 < l.length := by omega
    have e1 : (l.toArray[j / 2]!) = l[j / 2] := by rw [getElem!_pos _ _ (by simpa using hi)]; simp
    rw [e1]
    obtain ⟨a, b⟩ := ez_at l (j / 2) hi
    have hm : j % 2 = 0 ∨ j % 2 = 1 := by omega
    rcases hm with h | h
    · rw [show j / 2 * 2 = j by omega] at a
      rw [h, a]
      rfl
    · rw [show j / 2 * 2 + 1 = j by omega] at b
      rw [h, b]
      rfl
  · rw [Array.getElem?_eq_none (by simpa using hj), List.getElem?_eq_none (by rw [ez_len]; omega)]
theorem row_holds {w : World} {g c : Nat} {l : List (Int × Int)} (h : w.ownsRow 0 68 2 (.slice (some ⟨g, 0, none⟩) l.length c) l.length (ez l)) : HoldsK encT 2 w g 0 l.toArray := by
  intro j hj
  have hj2 : j < l.length * 2 := by simpa using hj
  refine ⟨?_, ?_⟩
  · rw [Nat.zero_add, h.cellAt j hj2, ← ezt_flat l, Array.getElem?_toList, Array.getElem?_eq_getElem hj, getElem!_pos (flatK encT 2 l.toArray) j hj]
    rfl
  · rw [Nat.zero_add]
    exact h.frozenAt j
theorem row_sorted {w : World} {g c n : Nat} {l l' : List (Int × Int)} {os : Array Obj} (h : w.ownsRow 0 68 2 (.slice (some ⟨g, 0, none⟩) l.length c) l.length (ez l)) (hl : l'.length = l.length) :
    (sortWorldK encT 2 w g 0 n l'.toArray os).ownsRow 0 68 2 (.slice (some ⟨g, 0, none⟩) l.length c) l.length (ez l') ∧ w.grownBy (sortWorldK encT 2 w g 0 n l'.toArray os) (some g) := by
  rcases h.2 with ⟨e0, _⟩ | ⟨g', cap', cur, e0, hb, hg, hn, hm, hs, ht⟩
  · cases e0
  · injection e0 with e1 _ e3
    injection e1 with e1
    injection e1 with e1
    subst e1; subst e3
    have hlt : g < w.heap.size := lt_of_block hg
    have hsz : (flatK encT 2 l'.toArray).size = l.length * 2 := by simp [hl]
    refine ⟨⟨by rw [ez_len, hl], .inr ⟨g, c, putCells id 0 (flatK encT 2 l'.toArray) cur, rfl, hb, ?_, hn, hm, by simpa [putCells] using hs, ?_⟩⟩, ⟨rfl, rfl, rfl, ?_, fun k hk hne => ?_⟩⟩
    · unfold sortWorldK
      rw [heap_grow_old _ _ (by simpa [putRowK, putRow, mapBlock, Sort.ahead] using hlt)]
      simp [putRowK, putRow, mapBlock, Sort.ahead, Array.getElem?_modify, hg, onCells]
    · rw [← ezt_flat l']
      apply List.ext_getElem?
      intro j
      rw [List.getElem?_take, Array.getElem?_toList, Array.getElem?_toList]
      by_cases hj : j < l.length * 2
      · have hjc : j < cur.size := by rw [hs]; omega
        simp only [if_pos hj, putCells, Array.getElem?_mapIdx, Array.getElem?_eq_getElem hjc, Option.map_some]
        have hF : j < (flatK encT 2 l'.toArray).size := by omega
        rw [if_pos ⟨Nat.zero_le _, by omega⟩, Nat.sub_zero, Array.getElem?_eq_getElem hF, getElem!_pos (flatK encT 2 l'.toArray) j hF]
        rfl
      · rw [if_neg hj, Array.getElem?_eq_none (by omega)]
    · simp [sortWorldK, putRowK, putRow, mapBlock, Sort.ahead]
    · have hne2 : ¬ g = k := fun e => hne (by rw [e])
      unfold sortWorldK
      rw [heap_grow_old _ _ (by simpa [putRowK, putRow, mapBlock, Sort.ahead] using hk)]
      simp [putRowK, putRow, mapBlock, Sort.ahead, Array.getElem?_modify, hne2]
/-- One turn comes ahead of another one. -/
def ltT (x y : Int × Int) : Prop := x.1 < y.1 ∨ x.1 = y.1 ∧ x.2 < y.2
instance (x y : Int × Int) : Decidable (ltT x y) := by unfold ltT; infer_instance
theorem ltR (x y : Int × Int) : ltOf cfT x y = decide (ltT x y) := by
  unfold ltOf cfT Lib.compareInt ltT
  by_cases h1 : x.1 < y.1
  · simp [h1]
  · by_cases h2 : y.1 < x.1
    · have h3 : ¬ x.1 = y.1 := by omega
      simp [h1, h2, h3]
    · have h3 : x.1 = y.1 := by omega
      by_cases h4 : x.2 < y.2
      · simp [h3, h4]
      · by_cases h5 : y.2 < x.2 <;> simp [h3, h4, h5]
theorem swoT : SWO (ltOf cfT) where
  irrefl x := by rw [ltR]; simp [ltT]
  trans x y z h1 h2 := by
    rw [ltR] at *
    have a := of_decide_eq_true h1
    have b := of_decide_eq_true h2
    refine decide_eq_true ?_
    unfold ltT at *
    omega
  ntrans x y z h1 h2 := by
    rw [ltR] at *
    have a := of_decide_eq_false h1
    have b := of_decide_eq_false h2
    refine decide_eq_false ?_
    unfold ltT at *
    omega
/-! ### Nothing is put in order -/
theorem rins_none (ao : Option Addr) (c : Nat) (fv : Value) (w : World) : Calls Tryz.prog 89 #[.slice ao 0 c, .int .i64 0, .int .i64 0, fv] w fun e w' => e = .returned (.tuple #[]) ∧ w' = w := by
  go_enter Tryz.func89, Tryz.ntmps89
  go_wp2_with fail
  refine wp_loop_rounds 1 ?_
  rw [rounds_succ]
  go_wp2_with fail
  go_end0
  exact ⟨rfl, rfl⟩
set_option maxHeartbeats 2000000 in
theorem rpdq_none (ao : Option Addr) (c : Nat) (fv : Value) (w : World) (lim : Int) : Calls Tryz.prog 74 #[.slice ao 0 c, .int .i64 0, .int .i64 0, .int .i64 lim, fv] w fun e w' => e = .returned (.tuple #[]) ∧ w' = w := by
  have J := hide (rins_none ao c fv w)
  go_enter Tryz.func74, Tryz.ntmps74
  go_wp2_with fail
  refine wp_loop_rounds 1 ?_
  rw [rounds_succ]
  go_wp2_with fail
  refine J.out.mono ?_
  rintro e w' ⟨rfl, rfl⟩
  go_wp2_with fail
  (try simp only [Exit.inBlock, Exit.then]); refine bodyPost_ret (results_none rfl _ _ _) rfl ?_
  exact ⟨rfl, rfl⟩
set_option maxHeartbeats 2000000 in
theorem rsort_none (ao : Option Addr) (c : Nat) (fv : Value) (w : World) : Calls Tryz.prog 49 #[.slice ao 0 c, fv] w fun e w' => e = .returned (.tuple #[]) ∧ w' = w := by
  have JL := hide (len_small 0 w (by omega))
  have JP : Hid (∀ lim : Int, Calls Tryz.prog 74 #[.slice ao 0 c, .int .i64 0, .int .i64 0, .int .i64 lim, fv] w fun e w' => e = .returned (.tuple #[]) ∧ w' = w) := fun lim => rpdq_none ao c fv w lim
  go_enter Tryz.func49, Tryz.ntmps49
  go_wp2_with fail
  refine JL.out.mono ?_
  rintro e w' ⟨⟨l, rfl⟩, rfl⟩
  go_wp2_with fail
  refine (JP.out _).mono ?_
  rintro e w' ⟨rfl, rfl⟩
  go_wp2_with fail
  go_end0
  exact ⟨rfl, rfl⟩
/-- slices.SortFunc of rows, by their numbers. -/
theorem rsort_any {w : World} {v : Value} {l : List (Int × Int)} (h : w.ownsRow 0 68 2 v l.length (ez l)) (hn : l.length ≤ 1000000) : Calls Tryz.prog 49 #[v, .func (.func 19) #[] #[]] w fun e w' => e = .returned (.tuple #[]) ∧ ∃ l', l'.Perm l ∧ l'.Pairwise (fun x y => ¬ ltT y x) ∧ w'.ownsRow 0 68 2 v l.length (ez l') ∧ w.grownBy w' v.ownBlock := by
  by_cases hv : v = .slice none 0 0
  · subst hv
    have hl : l.length = 0 := by
      rcases h.2 with ⟨_, h0⟩ | ⟨g, c, cur, e, _⟩
      · exact h0
      · cases e
    obtain rfl := List.eq_nil_of_length_eq_zero hl
    refine (rsort_none none 0 _ w).mono ?_
    rintro e w' ⟨rfl, rfl⟩
    exact ⟨rfl, [], List.Perm.refl _, List.Pairwise.nil, h, grown_later (Below.refl _ _)⟩
  · obtain ⟨g, c, rfl⟩ : ∃ g c, v = .slice (some ⟨g, 0, none⟩) l.length c := by
      rcases h.2 with ⟨e, _⟩ | ⟨g, c, cur, e, _⟩
      · exact absurd e hv
      · exact ⟨g, c, e⟩
    have hg := (h.lt g rfl).2
    have eg : ∀ args w, (callFunc 19 args).run Tryz.prog w = .ok (.enter 19 args) w := enters_of Tryz.func19 (by kernel_rfl) rfl
    have hcon := AnyQ.slices_SortFunc laidT 2 (fun w => by kernel_rfl) (fun w => by kernel_rfl) encT (fun _ => rfl) (fun x v hv => by simp [encT] at hv; rcases hv with rfl | rfl | rfl <;> rfl) cfT swoT 19 #[] g 0 c l.toArray w eg (fun _ _ _ _ x y => turns_any x y _) (row_holds h) hg (by simp; omega)
    change Calls Tryz.prog 49 _ _ _ at hcon
    simp only [List.size_toArray] at hcon
    refine hcon.mono ?_
    rintro e w' ⟨rfl, d', n, os, ⟨hp1, -, hp3⟩, hs, rfl⟩
    have hsz : d'.toList.length = l.length := by simpa using hp1
    have hperm : d'.toList.Perm l := by
      have e1 : d'.extract 0 l.length = d' := by rw [← hsz]; simp
      rw [e1] at hp3
      simpa using hp3
    obtain ⟨k1, k2⟩ := row_sorted (n := n) (os := os) (l' := d'.toList) h hsz
    refine ⟨rfl, d'.toList, hperm, ?_, k1, k2⟩
    rw [List.pairwise_iff_getElem]
    intro i j hi hj hij
    have := hs i j (Nat.zero_le _) hij (by omega)
    rw [ltR, decide_eq_false_iff_not, getElem!_pos d' i (by simpa using hi), getElem!_pos d' j (by simpa using hj)] at this
    simpa only [Array.getElem_toList] using this
end Go.Proofs.YtiolaenkfhcajaaGreat
