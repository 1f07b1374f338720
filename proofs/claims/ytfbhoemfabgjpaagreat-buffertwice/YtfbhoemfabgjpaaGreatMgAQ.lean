import Derived.Test.YtfbhoemfabgjpaaGreatMgAP
import Derived.Shelf.SlSortCmp.WholeK
/-
  World: rows are put in order by their numbers.
-/
namespace Go.Proofs.YtfbhoemfabgjpaaGreat
open Go.RowKit Go.Shelf Go.Lib Go.Sort
set_option maxRecDepth 100000
/-- A row's three cells: its entity, where its parts lie. -/
abbrev Rt := Int × Int × Option Addr × Nat × Nat
def encR (p : Rt) : List Value := [.int .i64 p.1, .int .i64 p.2.1, .slice p.2.2.1 p.2.2.2.1 p.2.2.2.2]
def cfR (p r : Rt) : Int := Lib.compareInt p.1 r.1
set_option maxHeartbeats 1000000 in
theorem byIndex_any (p r : Rt) (w : World) : Calls Tryz.prog 56 #[.agg (encR p).toArray, .agg (encR r).toArray] w fun e w' => e = .returned (.int .i64 (cfR p r)) ∧ ∃ q os', w' = grow (w.drewN q) os' := by
  obtain ⟨x, x2, ax, nx, cx⟩ := p
  obtain ⟨y, y2, ay, ny, cy⟩ := r
  unfold encR cfR
  dsimp only
  have J := fun W => cmp_any x y W
  have J := hide J
  generalize Lib.compareInt x y = z at *
  go_enter Tryz.func56, Tryz.ntmps56
  go_wp2_with fail
  refine (J.out _).mono ?_
  rintro e w' ⟨rfl, rfl⟩
  go_wp2_with fail
  go_ret
  exact ⟨rfl, 0, _, by rw [alloc_eq_grow, alloc_eq_grow, grow_grow]; rfl⟩
/-! ### Rows of rows -/
def rz : List Rt → List Value
  | [] => []
  | p :: l => .int .i64 p.1 :: .int .i64 p.2.1 :: .slice p.2.2.1 p.2.2.2.1 p.2.2.2.2 :: rz l
theorem rz_len : ∀ l : List Rt, (rz l).length = l.length * 3
  | [] => rfl
  | p :: t => by simp [rz, rz_len t]; omega
theorem rz_append : ∀ a b : List Rt, rz (a ++ b) = rz a ++ rz b
  | [], _ => rfl
  | h :: t, b => by simp [rz, rz_append t b]
theorem rz_at : ∀ (l : List Rt) (i : Nat) (h : i < l.length), (rz l)[i * 3]? = some (.int .i64 l[i].1) ∧ (rz l)[i * 3 + 1]? = some (.int .i64 l[i].2.1) ∧ (rz l)[i * 3 + 2]? = some (.slice l[i].2.2.1 l[i].2.2.2.1 l[i].2.2.2.2)
  | p :: t, 0, _ => ⟨rfl, rfl, rfl⟩
  | p :: t, i + 1, h => by
    have := rz_at t i (by simpa using h)
    rw [show (i + 1) * 3 = i * 3 + 1 + 1 + 1 by omega]
    simpa [rz] using this
theorem rz_flat (l : List Rt) : (flatK encR 3 l.toArray).toList = rz l := by
  apply List.ext_getElem?
  intro j
  rw [Array.getElem?_toList]
  by_cases hj : j < l.length * 3
  · have h1 : j < (flatK encR 3 l.toArray).size := by simpa using hj
    rw [Array.getElem?_eq_getElem h1, ← getElem!_pos (flatK encR 3 l.toArray) j h1, get_flatK _ _ _ j (by simpa using hj)]
    have hi : j / 3 < l.length := by omega
    have e1 : (l.toArray[j / 3]!) = l[j / 3] := by rw [getElem!_pos _ _ (by simpa using hi)]; simp
    rw [e1]
    obtain ⟨a, b, c⟩ := rz_at l (j / 3) hi
    have hm : j % 3 = 0 ∨ j % 3 = 1 ∨ j % 3 = 2 := by omega
    rcases hm with h | h | h
    · rw [show j / 3 * 3 = j by omega] at a
      rw [h, a]
      rfl
    · rw [show j / 3 * 3 + 1 = j by omega] at b
      rw [h, b]
      rfl
    · rw [show j / 3 * 3 + 2 = j by omega] at c
      rw [h, c]
      rfl
  · rw [Array.getElem?_eq_none (by simpa using hj), List.getElem?_eq_none (by rw [rz_len]; omega)]
theorem rrow_holds {w : World} {g c : Nat} {l : List Rt} (h : w.ownsRow 0 87 3 (.slice (some ⟨g, 0, none⟩) l.length c) l.length (rz l)) : HoldsK encR 3 w g 0 l.toArray := by
  intro j hj
  have hj2 : j < l.length * 3 := by simpa using hj
  refine ⟨?_, ?_⟩
  · rw [Nat.zero_add, h.cellAt j hj2, ← rz_flat l, Array.getElem?_toList, Array.getElem?_eq_getElem hj, getElem!_pos (flatK encR 3 l.toArray) j hj]
    rfl
  · rw [Nat.zero_add]
    exact h.frozenAt j
theorem rrow_sorted {w : World} {g c n : Nat} {l l' : List Rt} {os : Array Obj} (h : w.ownsRow 0 87 3 (.slice (some ⟨g, 0, none⟩) l.length c) l.length (rz l)) (hl : l'.length = l.length) :
    (sortWorldK encR 3 w g 0 n l'.toArray os).ownsRow 0 87 3 (.slice (some ⟨g, 0, none⟩) l.length c) l.length (rz l') ∧ w.grownBy (sortWorldK encR 3 w g 0 n l'.toArray os) (some g) := by
  rcases h.2 with ⟨e0, _⟩ | ⟨g', cap', cur, e0, hb, hg, hn, hm, hs, ht⟩
  · cases e0
  · injection e0 with e1 _ e3
    injection e1 with e1
    injection e1 with e1
    subst e1; subst e3
    have hlt : g < w.heap.size := lt_of_block hg
    have hsz : (flatK encR 3 l'.toArray).size = l.length * 3 := by simp [hl]
    refine ⟨⟨by rw [rz_len, hl], .inr ⟨g, c, putCells id 0 (flatK encR 3 l'.toArray) cur, rfl, hb, ?_, hn, hm, by simpa [putCells] using hs, ?_⟩⟩, ⟨rfl, rfl, rfl, ?_, fun k hk hne => ?_⟩⟩
    · unfold sortWorldK
      rw [heap_grow_old _ _ (by simpa [putRowK, putRow, mapBlock, Sort.ahead] using hlt)]
      simp [putRowK, putRow, mapBlock, Sort.ahead, Array.getElem?_modify, hg, onCells]
    · rw [← rz_flat l']
      apply List.ext_getElem?
      intro j
      rw [List.getElem?_take, Array.getElem?_toList, Array.getElem?_toList]
      by_cases hj : j < l.length * 3
      · have hjc : j < cur.size := by rw [hs]; omega
        simp only [if_pos hj, putCells, Array.getElem?_mapIdx, Array.getElem?_eq_getElem hjc, Option.map_some]
        have hF : j < (flatK encR 3 l'.toArray).size := by omega
        rw [if_pos ⟨Nat.zero_le _, by omega⟩, Nat.sub_zero, Array.getElem?_eq_getElem hF, getElem!_pos (flatK encR 3 l'.toArray) j hF]
        rfl
      · rw [if_neg hj, Array.getElem?_eq_none (by omega)]
    · simp [sortWorldK, putRowK, putRow, mapBlock, Sort.ahead]
    · have hne2 : ¬ g = k := fun e => hne (by rw [e])
      unfold sortWorldK
      rw [heap_grow_old _ _ (by simpa [putRowK, putRow, mapBlock, Sort.ahead] using hk)]
      simp [putRowK, putRow, mapBlock, Sort.ahead, Array.getElem?_modify, hne2]
theorem ltRr (x y : Rt) : ltOf cfR x y = decide (x.1 < y.1) := by
  unfold ltOf cfR Lib.compareInt
  by_cases h1 : x.1 < y.1
  · simp [h1]
  · by_cases h2 : y.1 < x.1 <;> simp [h1, h2]
theorem swoR : SWO (ltOf cfR) where
  irrefl x := by rw [ltRr]; simp
  trans x y z h1 h2 := by rw [ltRr] at *; simp at *; omega
  ntrans x y z h1 h2 := by rw [ltRr] at *; simp at *; omega
/-! ### Nothing is put in order -/
theorem rrins_none (ao : Option Addr) (c : Nat) (fv : Value) (w : World) : Calls Tryz.prog 98 #[.slice ao 0 c, .int .i64 0, .int .i64 0, fv] w fun e w' => e = .returned (.tuple #[]) ∧ w' = w := by
  go_enter Tryz.func98, Tryz.ntmps98
  go_wp2_with fail
  refine wp_loop_rounds 1 ?_
  rw [rounds_succ]
  go_wp2_with fail
  go_end0
  exact ⟨rfl, rfl⟩
set_option maxHeartbeats 2000000 in
theorem rrpdq_none (ao : Option Addr) (c : Nat) (fv : Value) (w : World) (lim : Int) : Calls Tryz.prog 80 #[.slice ao 0 c, .int .i64 0, .int .i64 0, .int .i64 lim, fv] w fun e w' => e = .returned (.tuple #[]) ∧ w' = w := by
  have J := hide (rrins_none ao c fv w)
  go_enter Tryz.func80, Tryz.ntmps80
  go_wp2_with fail
  refine wp_loop_rounds 1 ?_
  rw [rounds_succ]
  go_wp2_with fail
  refine J.out.mono ?_
  rintro e w' ⟨rfl, rfl⟩
  go_wp2_with fail
  (try simp only [Exit.inBlock, Exit.then]); refine bodyPost_ret (results_none rfl _ _ _) rfl ?_
  exact ⟨rfl, rfl⟩
set_option maxHeartbeats 2000000 in
theorem rrsort_none (ao : Option Addr) (c : Nat) (fv : Value) (w : World) : Calls Tryz.prog 55 #[.slice ao 0 c, fv] w fun e w' => e = .returned (.tuple #[]) ∧ w' = w := by
  have JL := hide (len_small 0 w (by omega))
  have JP : Hid (∀ lim : Int, Calls Tryz.prog 80 #[.slice ao 0 c, .int .i64 0, .int .i64 0, .int .i64 lim, fv] w fun e w' => e = .returned (.tuple #[]) ∧ w' = w) := fun lim => rrpdq_none ao c fv w lim
  go_enter Tryz.func55, Tryz.ntmps55
  go_wp2_with fail
  refine JL.out.mono ?_
  rintro e w' ⟨⟨l, rfl⟩, rfl⟩
  go_wp2_with fail
  refine (JP.out _).mono ?_
  rintro e w' ⟨rfl, rfl⟩
  go_wp2_with fail
  go_end0
  exact ⟨rfl, rfl⟩
/-- slices.SortFunc of rows, by their numbers. -/
theorem rrsort_any {w : World} {v : Value} {l : List Rt} (h : w.ownsRow 0 87 3 v l.length (rz l)) (hn : l.length ≤ 1000000) : Calls Tryz.prog 55 #[v, .func (.func 56) #[] #[]] w fun e w' => e = .returned (.tuple #[]) ∧ ∃ l', l'.Perm l ∧ l'.Pairwise (fun x y => x.1 ≤ y.1) ∧ w'.ownsRow 0 87 3 v l.length (rz l') ∧ w.grownBy w' v.ownBlock := by
  by_cases hv : v = .slice none 0 0
  · subst hv
    have hl : l.length = 0 := by
      rcases h.2 with ⟨_, h0⟩ | ⟨g, c, cur, e, _⟩
      · exact h0
      · cases e
    obtain rfl := List.eq_nil_of_length_eq_zero hl
    refine (rrsort_none none 0 _ w).mono ?_
    rintro e w' ⟨rfl, rfl⟩
    exact ⟨rfl, [], List.Perm.refl _, List.Pairwise.nil, h, grown_later (Below.refl _ _)⟩
  · obtain ⟨g, c, rfl⟩ : ∃ g c, v = .slice (some ⟨g, 0, none⟩) l.length c := by
      rcases h.2 with ⟨e, _⟩ | ⟨g, c, cur, e, _⟩
      · exact absurd e hv
      · exact ⟨g, c, e⟩
    have hg := (h.lt g rfl).2
    have eg : ∀ args w, (callFunc 56 args).run Tryz.prog w = .ok (.enter 56 args) w := enters_of Tryz.func56 (by kernel_rfl) rfl
    have hcon := AnyQ.slices_SortFunc laidR 3 (fun w => by kernel_rfl) (fun w => by kernel_rfl) encR (fun _ => rfl) (fun x v hv => by simp [encR] at hv; rcases hv with rfl | rfl | rfl <;> rfl) cfR swoR 56 #[] g 0 c l.toArray w eg (fun _ _ _ _ x y => byIndex_any x y _) (rrow_holds h) hg (by simp; omega)
    change Calls Tryz.prog 55 _ _ _ at hcon
    simp only [List.size_toArray] at hcon
    refine hcon.mono ?_
    rintro e w' ⟨rfl, d', n, os, ⟨hp1, -, hp3⟩, hs, rfl⟩
    have hsz : d'.toList.length = l.length := by simpa using hp1
    have hperm : d'.toList.Perm l := by
      have e1 : d'.extract 0 l.length = d' := by rw [← hsz]; simp
      rw [e1] at hp3
      simpa using hp3
    obtain ⟨k1, k2⟩ := rrow_sorted (n := n) (os := os) (l' := d'.toList) h hsz
    refine ⟨rfl, d'.toList, hperm, ?_, k1, k2⟩
    rw [List.pairwise_iff_getElem]
    intro i j hi hj hij
    have := hs i j (Nat.zero_le _) hij (by omega)
    rw [ltRr, decide_eq_false_iff_not, getElem!_pos d' i (by simpa using hi), getElem!_pos d' j (by simpa using hj)] at this
    simp only [Array.getElem_toList]
    omega
end Go.Proofs.YtfbhoemfabgjpaaGreat

/-
  World: Rows.
-/
namespace Go.Proofs.YtfbhoemfabgjpaaGreat
open Go.RowKit
set_option maxRecDepth 100000
theorem infoR : (Tryz.prog.info? 87).map (fun i => (i.zero, i.size, i.bytes)) = some (some (.agg #[.int .i64 0, .int .i64 0, .slice none 0 0]), 3, 40) := by kernel_rfl
def entR (r : Rt) : Int × Int := (r.1, r.2.1)
def rtV (r : Rt) : Value := .slice r.2.2.1 r.2.2.2.1 r.2.2.2.2
/-- A row of one that lives: its parts, in memory of their own, apart from X. -/
def Rw1 (B : Nat) (W : World) (ks : List Kind) (f : Int × Int → Option Nat) (T : Nat → Ts) (X : Nat → Prop) (r : Rt) : Prop :=
  ∃ s j L, f (entR r) = some s ∧ (∃ hj : j < (T s).1.length, (T s).1[j] = entR r) ∧ W.ownsRow B 51 2 (rtV r) L.length (pz L) ∧ Pv B W L (partsL ks s 1 (rowOf (T s).2 j)) ∧ (∀ k, (rtV r).ownBlock = some k → ¬ X k) ∧ ∀ p ∈ L, ∀ k, (ptV p).ownBlock = some k → ¬ X k
section
variable {B : Nat} {W W' : World} {ks : List Kind} {f : Int × Int → Option Nat} {T : Nat → Ts} {X X' : Nat → Prop} {r : Rt}
theorem Pv.lt {L : List Pt} {R : List (Nat × List Int)} (h : Pv B W L R) {p : Pt} (hp : p ∈ L) {k : Nat} (e : (ptV p).ownBlock = some k) : B ≤ k ∧ k < W.heap.size := by
  obtain ⟨m, hm, rfl⟩ := List.getElem_of_mem hp
  exact (h.2 m hm (by rw [← h.1]; exact hm)).2.lt k e
theorem Rw1.grown {row : Option Nat} (h : Rw1 B W ks f T X r) (hg : W.grownBy W' row) (hr : ∀ k, row = some k → X k) : Rw1 B W' ks f T X r := by
  obtain ⟨s, j, L, h1, h2, h3, h4, h5, h6⟩ := h
  exact ⟨s, j, L, h1, h2, own_kept h3 hg (fun k e e2 => h5 k e (hr k e2)), h4.grown hg (fun p hp k e e2 => h6 p hp k e (hr k e2)), h5, h6⟩
theorem Rw1.off (h : Rw1 B W ks f T X r) (hx : ∀ k, B ≤ k → k < W.heap.size → X' k → X k) : Rw1 B W ks f T X' r := by
  obtain ⟨s, j, L, h1, h2, h3, h4, h5, h6⟩ := h
  exact ⟨s, j, L, h1, h2, h3, h4, fun k e e2 => h5 k e (hx k (h3.lt k e).1 (h3.lt k e).2 e2), fun p hp k e e2 => h6 p hp k e (hx k (h4.lt hp e).1 (h4.lt hp e).2 e2)⟩
theorem Pv.low {B' : Nat} {L : List Pt} {R : List (Nat × List Int)} (h : Pv B W L R) (hB : B' ≤ B) : Pv B' W L R := ⟨h.1, fun i h1 h2 => ⟨(h.2 i h1 h2).1, own_lower (h.2 i h1 h2).2 hB⟩⟩
theorem Rw1.low {B' : Nat} (h : Rw1 B W ks f T X r) (hB : B' ≤ B) : Rw1 B' W ks f T X r := by
  obtain ⟨s, j, L, h1, h2, h3, h4, h5⟩ := h
  exact ⟨s, j, L, h1, h2, own_lower h3 hB, h4.low hB, h5⟩
end
/-- Rows that are being gathered. -/
def Ri (w : World) (gm n : Nat) (ks : List Kind) (f : Int × Int → Option Nat) (T : Nat → Ts) (W : World) (v : Value) (R : List Rt) (cnt : Nat) : Prop :=
  Rg W gm w.heap.size n f (R.map entR) cnt ∧ W.ownsRow (w.heap.size + 1) 87 3 v R.length (rz R) ∧ (∀ r ∈ R, Rw1 (w.heap.size + 1) W ks f T (fun k => v.ownBlock = some k) r) ∧ Below w.heap.size w W
/-- Rows, by their numbers. -/
def Rs (B : Nat) (W : World) (ks : List Kind) (f : Int × Int → Option Nat) (T : Nat → Ts) (v : Value) (R : List Rt) : Prop :=
  W.ownsRow B 87 3 v R.length (rz R) ∧ R.Pairwise (fun x y => x.1 ≤ y.1) ∧ (R.map entR).Nodup ∧ (∀ e, InB e → ((f e).isSome = true ↔ e ∈ R.map entR)) ∧ (∀ r ∈ R, Rw1 B W ks f T (fun k => v.ownBlock = some k) r) ∧ ∀ r ∈ R, InB (entR r)
section
variable {w W w1 w5 w6 w9 : World} {gm n cnt cnt1 : Nat} {ks : List Kind} {f : Int × Int → Option Nat} {T : Nat → Ts} {v : Value} {R : List Rt}
theorem Ri.push (h : Ri w gm n ks f T W v R cnt) (hgm : gm < w.heap.size) {a b : Int} (hr : Rg w1 gm w.heap.size n f (R.map entR ++ [(a, b)]) cnt1) (hg1 : W.grownBy w1 (some w.heap.size)) (hs1 : w1.heap.size = W.heap.size) (hb5 : Below w1.heap.size w1 w5)
    {s j B5 : Nat} {a5 : Option Addr} {n5 c5 : Nat} {L : List Pt} (hf : f (a, b) = some s) (hj : ∃ hj : j < (T s).1.length, (T s).1[j] = (a, b)) (ho : w5.ownsRow B5 51 2 (.slice a5 n5 c5) L.length (pz L)) (hv : Pv B5 w5 L (partsL ks s 1 (rowOf (T s).2 j))) (hB5 : w1.heap.size ≤ B5) (hb6 : Below w5.heap.size w5 w6)
    {g9 c9 : Nat} (ho9 : w9.ownsRow (w.heap.size + 1) 87 3 (.slice (some ⟨g9, 0, none⟩) (R.length + 1) c9) (R.length + 1) (rz R ++ [.int .i64 a, .int .i64 b, .slice a5 n5 c5])) (hg9 : w6.grownBy w9 v.ownBlock) (ha9 : v.ownBlock = some g9 ∨ g9 = w6.heap.size) :
    Ri w gm n ks f T w9 (.slice (some ⟨g9, 0, none⟩) (R.length + 1) c9) (R ++ [(a, b, a5, n5, c5)]) cnt1 := by
  obtain ⟨h1, h2, h3, h4⟩ := h
  have hrl : w.heap.size < W.heap.size := by
    obtain ⟨D, left, a1, -⟩ := h1
    exact a1.lt
  have hvl : ∀ k, v.ownBlock = some k → w.heap.size + 1 ≤ k ∧ k < W.heap.size := fun k e => h2.lt k e
  have hsW := h4.size
  have s5 := hb5.size
  have s6 := hb6.size
  refine ⟨?_, ?_, fun r hr' => ?_, ?_⟩
  · rw [List.map_append]
    exact ((hr.later hb5).later hb6).kept hg9 (fun e => by have := hvl gm e.symm; omega) (fun e => by have := hvl _ e.symm; omega)
  · rw [List.length_append, rz_append]
    exact ho9
  · rcases List.mem_append.1 hr' with hr' | hr'
    · have k1 := (h3 r hr').off (X' := fun k => v.ownBlock = some k ∨ k = w.heap.size) (fun k k1 _ e => e.resolve_right (fun e => by omega))
      have k2 := k1.grown hg1 (fun k e => .inr (Option.some.inj e).symm)
      have k3 := (k2.grown (grown_later hb5) (fun k e => by cases e)).grown (grown_later hb6) (fun k e => by cases e)
      have k4 := k3.off (X' := fun k => v.ownBlock = some k ∨ k = g9) (fun k _ k2 e => by
        rcases e with e | e
        · exact .inl e
        · subst e
          rcases ha9 with e | e
          · exact .inl e
          · omega)
      have k5 := k4.grown hg9 (fun k e => .inl e)
      exact k5.off (fun k _ _ e => .inr (Option.some.inj e).symm)
    · rw [List.mem_singleton.1 hr']
      have hob : ∀ k, (Value.slice a5 n5 c5).ownBlock = some k → B5 ≤ k ∧ k < w5.heap.size := fun k e => ho.lt k e
      have hne : ∀ k, B5 ≤ k → k < w5.heap.size → v.ownBlock ≠ some k := fun k k1 k2 e => by have := hvl k e; omega
      have hn9 : ∀ k, B5 ≤ k → k < w5.heap.size → ¬ (some g9 = some k) := fun k k1 k2 e => by
        have := Option.some.inj e
        subst this
        rcases ha9 with e | e
        · exact hne _ k1 k2 e
        · omega
      refine ⟨s, j, L, hf, hj, own_lower (own_kept (own_later ho hb6) hg9 (fun k e => hne k (hob k e).1 (hob k e).2)) (by omega), ((hv.later hb6).grown hg9 (fun p hp k e => hne k (hv.lt hp e).1 (hv.lt hp e).2)).low (by omega), fun k e => hn9 k (hob k e).1 (hob k e).2, fun p hp k e => hn9 k (hv.lt hp e).1 (hv.lt hp e).2⟩
  · refine ((below_on (h4.grown hg1 hsW (fun k e => by cases e; omega)) (below_on hb5 hb6))).grown hg9 (by omega) (fun k e => by have := hvl k e; omega)
theorem own_raise_r {B e s n : Nat} {v : Value} {xs : List Value} (h : w.ownsRow 0 e s v n xs) (hB : ∀ k, v.ownBlock = some k → B ≤ k) : w.ownsRow B e s v n xs := by
  obtain ⟨a1, a2⟩ := h
  refine ⟨a1, ?_⟩
  rcases a2 with a2 | ⟨g, c, cur, rfl, b1, b2⟩
  · exact .inl a2
  · exact .inr ⟨g, c, cur, rfl, hB g rfl, b2⟩
theorem Ri.fin (h : Ri w gm n ks f T W v R cnt) (h0 : cnt = 0) {R' : List Rt} (hp : R'.Perm R) (hpw : R'.Pairwise (fun x y => x.1 ≤ y.1)) (ho : w9.ownsRow 0 87 3 v R.length (rz R')) (hg : W.grownBy w9 v.ownBlock) : Rs w.heap.size w9 ks f T v R' ∧ Below w.heap.size w w9 := by
  obtain ⟨h1, h2, h3, h4⟩ := h
  have hd := h1.done h0
  obtain ⟨D, left, -, a2, a3, -⟩ := h1
  have hvl : ∀ k, v.ownBlock = some k → w.heap.size + 1 ≤ k ∧ k < W.heap.size := fun k e => h2.lt k e
  have hpm := hp.map entR
  refine ⟨⟨?_, hpw, hpm.nodup_iff.2 a2, fun e he => ⟨fun hf => hpm.mem_iff.2 (hd e he hf), fun hm => (a3 e (hpm.mem_iff.1 hm)).2⟩, fun r hr => ((h3 r (hp.mem_iff.1 hr)).grown hg (fun k e => e)).low (by omega), fun r hr => (a3 _ (List.mem_map.2 ⟨r, hp.mem_iff.1 hr, rfl⟩)).1⟩, h4.grown hg h4.size (fun k e => by have := hvl k e; omega)⟩
  rw [hp.length_eq]
  exact own_raise_r ho (fun k e => by have := hvl k e; omega)
end
section
variable {w w' : World} {own : Nat → Nat} {gw gp gm gt M M' : Nat} {vk : Value} {ks : List Kind} {gs fr gs' fr' : List Nat} {f f' : Int × Int → Option Nat} {q q' : Nat → Option Nat} {T T' : Nat → Ts}
set_option maxHeartbeats 8000000 in
theorem rows_any (h : Wx 0 w own gw vk gp gm gt M ks gs fr f q T) (hw : Wi ks f q T) (hks : ks.length ≤ 12) (hcnt : ∀ E : List (Int × Int), E.Nodup → (∀ e ∈ E, (f e).isSome = true) → E.length ≤ 200) :
    Calls Tryz.prog 27 #[.pointer (some ⟨gw, 0, none⟩)] w fun e w' => ∃ v, e = .returned v ∧ (∃ R, Rs w.heap.size w' ks f T v R) ∧ Below w.heap.size w w' := by
  obtain ⟨i0, hi0, hz0, hz1, hz2⟩ := info_parts infoR
  obtain ⟨D, hD, hcl⟩ := h.mp
  have hgm := h.2.1.1
  obtain ⟨-, -, c2, -⟩ := h.cells
  have H := hide h
  have HW := hide hw
  have HCL := hide hcl
  have HN := hide hcnt
  clear h hw hcl hcnt
  go_enter Tryz.func27, Tryz.ntmps27
  go_wp2_with (at_range; refine wpList_range_own _ rfl _ 61 rfl 34 3 keyed32 Tryz.underlying61 _ gm M D rfl hD ?_; intro w0 hrg0 hg0 hs0)
  have H0 : Hid (∃ R cnt, Ri w gm M ks f T w0 (.slice none 0 0) R cnt) := ⟨[], _, Rg.start HCL.out hrg0, World.ownsRow_nil _ _ _ _, fun r hr => (by cases hr), (Below.refl _ w).grown hg0 (Nat.le_refl _) (fun k e => by cases e)⟩
  clear hrg0 hg0 hs0 HCL hD c2
  go_frame
  go_loopw [3] (fun v3 W => Hid (∃ R cnt, Ri w gm M ks f T W v3 R cnt)) (fun _ W => W.rangeLeft gm w.heap.size)
  case atStart => exact H0
  case round =>
    have hrel' := hrel
    obtain ⟨R, cnt, hRi⟩ := hrel'
    have HRi := hide hRi
    obtain ⟨a3, c3, rfl⟩ := own_len hRi.2.1
    have hRl : R.length ≤ 200 := by
      obtain ⟨D', left, -, b2, b3, -⟩ := hRi.1
      have := HN.out _ b2 (fun e he => (b3 e he).2)
      rwa [List.length_map] at this
    rcases hRi.1.next 0 with ⟨n1, n2⟩ | ⟨a, b, c, w1, cnt1, n1, n2, n3, n4, n5, n6, n7, n8, n9⟩
    · have JS := hide (rrsort_any (own_lower hRi.2.1 (Nat.zero_le _)) (by omega))
      have HF : Hid (∀ (R' : List Rt) (w9 : World), R'.Perm R → R'.Pairwise (fun x y => x.1 ≤ y.1) → w9.ownsRow 0 87 3 (.slice a3 R.length c3) R.length (rz R') → wr.grownBy w9 (Value.slice a3 R.length c3).ownBlock → Rs w.heap.size w9 ks f T (.slice a3 R.length c3) R' ∧ Below w.heap.size w w9) := fun R' w9 k1 k2 k3 k4 => HRi.out.fin n1 k1 k2 k3 k4
      clear hRi HRi n1 hrel
      go_wp2_with fail
      refine JS.out.mono ?_
      rintro e w9 ⟨rfl, R', k1, k2, k3, k4⟩
      have HE := hide (HF.out R' w9 k1 k2 k3 k4)
      clear k1 k2 k3 k4 JS HF
      go_wp2_with fail
      go_ret
      exact ⟨_, rfl, ⟨R', HE.out.1⟩, HE.out.2⟩
    · obtain ⟨s, hs⟩ := Option.isSome_iff_exists.1 n2
      obtain ⟨m1, ⟨g, m2⟩, m3⟩ := HW.out.1 _ _ hs
      obtain ⟨j, hj, hjx⟩ := List.getElem_of_mem m3
      have hcol := (HW.out.2 s g m2).2.1
      obtain ⟨w2, hw2⟩ : ∃ X, X = w1.alloc (.cells #[.int .i64 a, .int .i64 b] 34) := ⟨_, rfl⟩
      have B1 : Hid (Below w.heap.size w w1) := hRi.2.2.2.grown n7 hRi.2.2.2.size (fun k e => by cases e; omega)
      have B2 : Hid (Below w1.heap.size w1 w2) := hw2 ▸ below_alloc w1 _
      have hx2 : w2.heap[w1.heap.size]? = some (.cells #[.int .i64 a, .int .i64 b] 34 (0, 0)) := by rw [hw2]; exact heap_alloc_new w1 _
      have J2 : Hid (Calls Tryz.prog 54 #[.pointer (some ⟨gw, 0, none⟩), .agg #[.int .i64 a, .int .i64 b]] w2.drew fun e w' => ∃ v, e = .returned v ∧ ∃ L, w'.ownsRow w2.drew.heap.size 51 2 v L.length (pz L) ∧ Pv w2.drew.heap.size w' L (partsL ks s 1 (rowOf (T s).2 j)) ∧ Below w2.drew.heap.size w2.drew w') := parts_any (H.out.later (below_on (below_on B1.out B2.out) (below_drew w2))) a b n1 hks s g j hs m2 m1 hj hjx hcol
      have HP : Hid (∀ (w5 w6 w9 : World) (a5 : Option Addr) (c5 g9 c9 : Nat) (L : List Pt), w5.ownsRow w2.drew.heap.size 51 2 (.slice a5 L.length c5) L.length (pz L) → Pv w2.drew.heap.size w5 L (partsL ks s 1 (rowOf (T s).2 j)) → Below w2.drew.heap.size w2.drew w5 → Below w5.heap.size w5 w6 → w9.ownsRow (w.heap.size + 1) 87 3 (.slice (some ⟨g9, 0, none⟩) (R.length + 1) c9) (R.length + 1) (rz R ++ [.int .i64 a, .int .i64 b, .slice a5 L.length c5]) → w6.grownBy w9 (Value.slice a3 R.length c3).ownBlock → ((Value.slice a3 R.length c3).ownBlock = some g9 ∨ g9 = w6.heap.size) → Hid (∃ R' cnt', Ri w gm M ks f T w9 (.slice (some ⟨g9, 0, none⟩) (R.length + 1) c9) R' cnt') ∧ w9.rangeLeft gm w.heap.size < cnt) := fun w5 w6 w9 a5 c5 g9 c9 L k1 k2 k3 k4 k5 k6 k7 => by
        have := HRi.out.push hgm n5 n7 n8 (below_on (below_on B2.out (below_drew w2)) k3) hs ⟨hj, hjx⟩ k1 k2 (below_on B2.out (below_drew w2)).size k4 k5 k6 k7
        exact ⟨⟨_, _, this⟩, by rw [this.1.left_eq]; exact n6⟩
      have hv3 : Hid (wr.ownsRow (w.heap.size + 1) 87 3 (.slice a3 R.length c3) R.length (rz R)) := hRi.2.1
      have HK : Hid (∀ k, (Value.slice a3 R.length c3).ownBlock = some k → k < wr.heap.size ∧ k ≠ w.heap.size) := fun k e => ⟨(hRi.2.1.lt k e).2, by have := (hRi.2.1.lt k e).1; omega⟩
      have hlc : wr.rangeLeft gm w.heap.size = cnt := hRi.1.left_eq
      have hrl : w.heap.size + 1 ≤ wr.heap.size := by
        obtain ⟨D', left, a1, -⟩ := hRi.1
        exact a1.lt
      obtain ⟨kx, hkx⟩ : ∃ k, k = w1.heap.size := ⟨_, rfl⟩
      have HKX : Hid (wr.heap.size ≤ kx) := by unfold Hid; omega
      have HG7 := hide n7
      rw [← hkx] at hx2
      have X2 := hide hx2
      have HLC := hide hlc
      have HRL := hide hrl
      obtain ⟨p0, p1⟩ := kx_cells hx2 (below_drew w2)
      clear hRi HRi n1 n2 n3 n5 n6 n7 n8 hrel m1 m2 m3 hj hjx hcol hs hx2 hlc hrl
      go_upto_region 5 with fail
      rw [← hw2]
      rw [← hkx]
      clear hw2 hkx n4 n9
      have HS2 : Hid (w.heap.size + 1 ≤ w2.heap.size) := by have := HRL.out; have := HKX.out; have := lt_of_block X2.out; unfold Hid; omega
      have HO5 : Hid (∀ W, Below w2.heap.size w2 W → W.ownsRow (w.heap.size + 1) 87 3 (.slice a3 R.length c3) R.length (rz R)) := fun W hW => own_later (own_later (own_kept hv3.out HG7.out (fun k e e2 => (HK.out k e).2 (Option.some.inj e2).symm)) B2.out) hW
      clear hv3 HG7
      obtain ⟨nR, hnR⟩ : ∃ n, n = R.length := ⟨_, rfl⟩
      rw [← hnR] at HP HK hRl HO5 ⊢
      clear hnR
      refine wp_region_noPanic ?_
      refine wp_region_late (J := fun i => i != 99) (S := fun W => W.cell? ⟨kx, 0, none⟩ = some (.int .i64 a) ∧ W.cell? ⟨kx, 1, none⟩ = some (.int .i64 b)) (by kernel_rfl) ⟨p0, p1⟩ (fun hHeld => ?_)
      refine' wpAnyJ_takeW (i := 0) (oi := { dst := some 14, op := Op.move (Operand.tmp 3), type := 84, pos := "world.go:128", after := #[], guard := none }) (v := _) rfl (by kernel_rfl) (by kernel_rfl) (by kernel_rfl) (fun _ _ _ h => h) (Or.inl ⟨by rfl, ?hyA1⟩) ?reA1
      case hyA1 => (intro W hSw; (try dsimp only at hSw); go_simp; try with_reducible rfl)
      try simp only [Act.put, List.setIfInBounds_toArray, List.set_cons_zero, List.set_cons_succ]
      refine' wpAnyJ_take (i := 1) (oi := { dst := some 15, op := Op.load 34 (Operand.tmp 4), type := 34, pos := "world.go:128", after := #[], guard := none }) (v := _) rfl (by kernel_rfl) (by kernel_rfl) (by kernel_rfl) (by kernel_rfl) (fun _ _ _ h => h) (Or.inl ⟨by rfl, ?hyA2⟩) (by assumption) ?reA2
      case hyA2 => (intro W hSw; (try dsimp only at hSw); go_simp; try with_reducible rfl)
      try simp only [Act.put, List.setIfInBounds_toArray, List.set_cons_zero, List.set_cons_succ]
      refine' wpAnyJ_takeW (i := 2) (oi := { dst := some 16, op := Op.move (Operand.tmp 0), type := 26, pos := "world.go:128", after := #[], guard := none }) (v := _) rfl (by kernel_rfl) (by kernel_rfl) (by kernel_rfl) (fun _ _ _ h => h) (Or.inl ⟨by rfl, ?hyA3⟩) ?reA3
      case hyA3 => (intro W hSw; (try dsimp only at hSw); go_simp; try with_reducible rfl)
      try simp only [Act.put, List.setIfInBounds_toArray, List.set_cons_zero, List.set_cons_succ]
      refine' wpAnyJ_take (i := 3) (oi := { dst := some 17, op := Op.load 34 (Operand.tmp 4), type := 34, pos := "world.go:128", after := #[], guard := none }) (v := _) rfl (by kernel_rfl) (by kernel_rfl) (by kernel_rfl) (by kernel_rfl) (fun _ _ _ h => h) (Or.inl ⟨by rfl, ?hyA4⟩) (by assumption) ?reA4
      case hyA4 => (intro W hSw; (try dsimp only at hSw); go_simp; try with_reducible rfl)
      try simp only [Act.put, List.setIfInBounds_toArray, List.set_cons_zero, List.set_cons_succ]
      refine wpAnyJ_ready (rs := [4]) (by kernel_rfl) (by simp) ?_
      refine AllReadyJ.cons (o := { dst := some 18, op := Op.call { callee := Callee.value (Operand.func 54), args := #[Operand.tmp 16, Operand.tmp 17], argTypes := #[26, 34] }, type := 36, pos := "world.go:128", after := #[{ on := 2, ground := Ground.data }, { on := 3, ground := Ground.data }], guard := none }) rfl (fun K hK => ?_) AllReadyJ.nil
      go_simp
      go_at_call 54
      refine J2.out.mono ?_
      rintro e w5 ⟨v5, rfl, L, ho5, hv5, hb5⟩
      obtain ⟨a5, c5, rfl⟩ := own_len ho5
      have HB5 : Hid (Below w2.heap.size w2 w5) := below_on (below_drew w2) hb5
      obtain ⟨y0, y1⟩ := kx_cells X2.out HB5.out
      have HP5 : Hid (∀ (w6 w9 : World) (g9 c9 : Nat), Below w5.heap.size w5 w6 → w9.ownsRow (w.heap.size + 1) 87 3 (.slice (some ⟨g9, 0, none⟩) (nR + 1) c9) (nR + 1) (rz R ++ [.int .i64 a, .int .i64 b, .slice a5 L.length c5]) → w6.grownBy w9 (Value.slice a3 nR c3).ownBlock → ((Value.slice a3 nR c3).ownBlock = some g9 ∨ g9 = w6.heap.size) → Hid (∃ R' cnt', Ri w gm M ks f T w9 (.slice (some ⟨g9, 0, none⟩) (nR + 1) c9) R' cnt') ∧ w9.rangeLeft gm w.heap.size < cnt) := fun w6 w9 g9 c9 k4 k5 k6 k7 => HP.out w5 w6 w9 a5 c5 g9 c9 L ho5 hv5 hb5 k4 k5 k6 k7
      clear ho5 hv5 hb5 HP
      go_simp
      refine hK.out _ _ (fun _ _ => ⟨y0, y1⟩) ?_
      clear hK K J2
      try simp only [Act.put, List.setIfInBounds_toArray, List.set_cons_zero, List.set_cons_succ]
      refine' wpAnyJ_takeW (i := 5) (oi := { dst := some 19, op := Op.build 87 #[(0, Operand.tmp 15), (1, Operand.tmp 18)], type := 87, pos := "world.go:128", after := #[{ on := 1, ground := Ground.data }, { on := 4, ground := Ground.data }], guard := none }) (v := _) rfl (by kernel_rfl) (by kernel_rfl) (by kernel_rfl) (fun _ _ _ h => h) (Or.inl ⟨by rfl, ?hyA5⟩) ?reA5
      case hyA5 => (intro W hSw; (try dsimp only at hSw); go_simp; try with_reducible rfl)
      try simp only [Act.put, List.setIfInBounds_toArray, List.set_cons_zero, List.set_cons_succ]
      refine wpAnyJ_ready (rs := [6]) (by kernel_rfl) (by simp) ?_
      refine AllReadyJ.cons (o := { dst := some 20, op := Op.buildSlice 84 1 #[(0, Operand.tmp 19)], type := 84, pos := "world.go:128", after := #[{ on := 5, ground := Ground.data }], guard := none }) rfl (fun K hK => ?_) AllReadyJ.nil
      go_simp
      refine hK.out _ _ (fun _ _ => kx_cells X2.out (below_on HB5.out (below_alloc _ _))) ?_
      clear hK K
      try simp only [Act.put, List.setIfInBounds_toArray, List.set_cons_zero, List.set_cons_succ]
      refine wpAnyJ_ready (rs := [7]) (by kernel_rfl) (by simp) ?_
      refine AllReadyJ.cons (o := { dst := some 21, op := Op.call { callee := Callee.builtin Builtin.append, args := #[Operand.tmp 14, Operand.tmp 20], argTypes := #[84, 84] }, type := 84, pos := "world.go:128", after := #[{ on := 0, ground := Ground.data }, { on := 6, ground := Ground.data }, { on := 4, ground := Ground.chain }], guard := none }) rfl (fun K hK => ?_) AllReadyJ.nil
      have HO6 : Hid ((w5.alloc (.cells #[.int .i64 a, .int .i64 b, .slice a5 L.length c5] 87)).ownsRow (w.heap.size + 1) 87 3 (.slice a3 nR c3) nR (rz R)) := HO5.out w5 HB5.out |> fun h => own_later h (below_alloc _ _)
      refine step_append_lies _ rfl (.tmp 14) (.tmp 20) 84 rfl (w.heap.size + 1) 87 i0 (.agg #[.int .i64 0, .int .i64 0, .slice none 0 0]) 3 40 Tryz.underlying84 hi0 hz0 hz1 hz2 rfl (by decide) (.slice a3 nR c3) nR (rz R) (by simp [Act.eval]) HO6.out ⟨w5.heap.size, 0, none⟩ 1 1 [.int .i64 a, .int .i64 b, .slice a5 L.length c5] (by simp [Act.eval]) rfl (by intro j u hj; match j, hj with | 0, hj => simp at hj; subst hj; simp [Addr.add] | 1, hj => simp at hj; subst hj; simp [Addr.add] | 2, hj => simp at hj; subst hj; simp [Addr.add]) (by intro u hu; simp at hu; rcases hu with rfl | rfl | rfl <;> rfl) (by omega) (by unfold maxLen; omega) (by omega) (by have := HB5.out.size; have := HS2.out; simp; omega) _ rfl ?_
      intro g9 c9 w9 ho9 hg9 ha9 _
      obtain ⟨HR9, hlt9⟩ := HP5.out _ w9 g9 c9 (below_alloc _ _) ho9 hg9 ha9
      have hc9 : w9.cell? ⟨kx, 0, none⟩ = some (.int .i64 a) ∧ w9.cell? ⟨kx, 1, none⟩ = some (.int .i64 b) := (fun (z : _ ∧ _) => ⟨hg9.cell z.1 (fun e => by have := (HK.out kx e.symm).1; have := HKX.out; omega), hg9.cell z.2 (fun e => by have := (HK.out kx e.symm).1; have := HKX.out; omega)⟩) (kx_cells X2.out (below_on HB5.out (below_alloc _ (.cells #[.int .i64 a, .int .i64 b, .slice a5 L.length c5] 87))))
      have HLT := hide hlt9
      clear ho9 hg9 ha9 hlt9 HO6
      refine hK.out _ _ (fun _ _ => hc9) ?_
      clear hK K hc9
      try simp only [Act.put, List.setIfInBounds_toArray, List.set_cons_zero, List.set_cons_succ]
      refine' wpAnyJ_takeW (i := 8) (oi := { dst := some 3, op := Op.assign (Operand.tmp 21), type := 84, pos := "world.go:128", after := #[{ on := 7, ground := Ground.data }, { on := 7, ground := Ground.chain }, { on := 0, ground := Ground.phase }, { on := 1, ground := Ground.phase }, { on := 2, ground := Ground.phase }, { on := 3, ground := Ground.phase }, { on := 4, ground := Ground.phase }, { on := 5, ground := Ground.phase }, { on := 6, ground := Ground.phase }, { on := 7, ground := Ground.phase }], guard := none }) (v := _) rfl (by kernel_rfl) (by kernel_rfl) (by kernel_rfl) (fun _ _ _ h => h) (Or.inl ⟨by rfl, ?hyA6⟩) ?reA6
      case hyA6 => (intro W hSw; (try dsimp only at hSw); go_simp; try with_reducible rfl)
      try simp only [Act.put, List.setIfInBounds_toArray, List.set_cons_zero, List.set_cons_succ]
      refine wpAnyJ_done (by kernel_rfl) ?_ _
      refine NoPanic.normal ?_
      go_wp2_with fail
      go_roundw
      case rel => exact HR9
      case measure => rw [HLC.out]; exact HLT.out
end
end Go.Proofs.YtfbhoemfabgjpaaGreat
