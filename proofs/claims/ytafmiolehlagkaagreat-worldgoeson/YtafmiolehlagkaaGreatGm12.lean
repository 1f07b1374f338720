import Derived.Test.YtafmiolehlagkaaGreatGm11
import Derived.Test.YtafmiolehlagkaaGreatGm6
import Derived.Test.YtafmiolehlagkaaGreatGm4
/-
  World: a Spawn of one part, told as a function of who lives with what.
-/
namespace Go.Proofs.YtafmiolehlagkaaGreat
open Go.RowKit
set_option maxRecDepth 100000
def spC (gs fr : List Nat) (C : Co) (kk : Nat) (y : Int) : Co := fun x => if x = (((takeE gs fr).1 : Int), ((takeE gs fr).2 : Int)) then some (2 ^ (kk + 1), valsN y (c4 kk)) else C x
theorem one_vals {kk : Nat} {y : Int} {vals : List Int} (h1 : vals.length = fsum usualK (2 ^ (kk + 1)) 1) (h : ∀ r, r ∈ partsL usualK (2 ^ (kk + 1)) 1 vals ↔ r = (kk + 1, valsN y (c4 kk))) : vals = valsN y (c4 kk) := by
  have e : partsL usualK (2 ^ (kk + 1)) 1 vals = [(kk + 1, valsN y (c4 kk))] :=
    rise_ext (fun r => (r.1 : Int)) _ _ ((partsL_pair _ _ 1 _).imp (fun {x y} hxy => by omega)) (by simp) (fun r => by rw [h, List.mem_singleton])
  rw [← partsL_flat usualK _ 1 vals h1, e]
  simp
theorem one_set (kk : Nat) (a : Option Addr) (n c : Nat) : setOf [((kk : Int) + 1, a, n, c)] = 2 ^ (kk + 1) := by
  have e : ((kk : Int) + 1).toNat = kk + 1 := by omega
  simp [setOf, e]
section
variable {w w2 w3 : World} {own : Nat → Nat} {gw N : Nat} {gs fr : List Nat} {C : Co}
theorem Wn.spawn_oneF (h : Wn w own gw N usualK gs fr C) (hN : N ≤ 800000) (hroom : fr ≠ [] ∨ gs.length < 200) (hb : Below w.heap.size w w2) (kk : Nat) (hk : kk < 4) (y : Int) (a : Option Addr) (n c : Nat) (ho : w2.ownsRow w.heap.size 2 1 (.slice a n c) (c4 kk) (zc (valsN y (c4 kk)))) (hw3 : w3 = w2.alloc (.cells #[.int .i64 ((kk : Int) + 1), .slice a n c] 32)) :
    Calls Tryz.prog 24 #[.pointer (some ⟨gw, 0, none⟩), .slice (some ⟨w2.heap.size, 0, none⟩) 1 1] w3 fun e w' => e = .returned (.tuple #[.agg #[.int .i64 ((takeE gs fr).1 : Int), .int .i64 ((takeE gs fr).2 : Int)], .int .i64 0]) ∧ ∃ own', Wn w' own' gw (N + 3) usualK (takeG gs fr) (takeF fr) (spC gs fr C kk y) ∧ Wk own own' w w' := by
  have hb3 : Below w2.heap.size w2 w3 := hw3 ▸ below_alloc w2 _
  have hx3 : w3.heap[w2.heap.size]? = some (.cells #[.int .i64 ((kk : Int) + 1), .slice a n c] 32 (0, 0)) := by rw [hw3]; exact heap_alloc_new w2 _
  have h3 := h.later (below_on hb hb3)
  have ho3 := own_later ho hb3
  have hn : n = c4 kk := by
    obtain ⟨x, z, e⟩ := own_len ho
    simp only [Value.slice.injEq] at e
    exact e.2.1
  have hrp : Rp w3 (.slice (some ⟨w2.heap.size, 0, none⟩) 1 1) [((kk : Int) + 1, a, n, c)] := by
    refine .inr ⟨_, 0, 1, rfl, Nat.le_refl 1, by unfold maxLen; omega, fun j u hj => ?_⟩
    rw [Nat.zero_add, cell_of_row w3 _ j _ 32 (0, 0) hx3]
    simpa [pz] using hj
  have hcome := one_come kk hk a n c hn
  have hsb := hb.size
  have hlt := lt_of_block hx3
  refine (h3.spawn (by omega) hroom _ [((kk : Int) + 1, a, n, c)] (fun _ => valsN y (c4 kk)) hrp hcome ?_ ?_ ?_ ?_).mono ?_
  · intro k e
    simp only [Value.ownBlock, Option.some.injEq] at e
    subst e
    exact ⟨rel_new hsb, hlt⟩
  · intro p hp
    rw [List.mem_singleton.1 hp]
    refine ⟨?_, fun e => ?_⟩
    · have := Iz.own (l := valsN y (c4 kk)) (by rw [valsN_len]; exact ho3)
      exact this
    · rcases ho3.2 with ⟨e', -⟩ | ⟨g, c', cur, e', -⟩
      · simp only [Value.slice.injEq] at e'
        exact Prod.ext e'.2.1 e'.2.2
      · simp only [Value.slice.injEq] at e'
        dsimp only at e
        rw [e] at e'
        cases e'.1
  · intro p hp k e
    rw [List.mem_singleton.1 hp] at e
    have := ho3.lt k e
    exact ⟨rel_new this.1, this.2⟩
  · intro p _
    exact valsN_fit _ _
  · rintro e w' ⟨rfl, vals, own', r1, r2, r3, r4⟩
    have e1 : ((kk : Int) + 1).toNat = kk + 1 := by omega
    rw [one_set] at r1 r3 r4
    have hv := one_vals (kk := kk) (y := y) r3 (fun r => by rw [r4]; simp [e1])
    rw [hv] at r1
    exact ⟨rfl, own', r1, (Wk.later (below_on hb hb3)).trans r2⟩
/-- No room: nobody comes. -/
theorem Wn.spawn_noneF (h : Wn w own gw N usualK gs fr C) (hroom : ¬ (fr ≠ [] ∨ gs.length < 200)) (hb : Below w.heap.size w w2) (kk : Nat) (hk : kk < 4) (a : Option Addr) (n c : Nat) (hn : n = c4 kk) (hw3 : w3 = w2.alloc (.cells #[.int .i64 ((kk : Int) + 1), .slice a n c] 32)) :
    Calls Tryz.prog 24 #[.pointer (some ⟨gw, 0, none⟩), .slice (some ⟨w2.heap.size, 0, none⟩) 1 1] w3 fun e w' => e = .returned (.tuple #[ev (0, 0), .int .i64 40]) ∧ ∃ own', Wn w' own' gw (N + 3) usualK gs fr C ∧ Wk own own' w w' := by
  have hb3 : Below w2.heap.size w2 w3 := hw3 ▸ below_alloc w2 _
  have hx3 : w3.heap[w2.heap.size]? = some (.cells #[.int .i64 ((kk : Int) + 1), .slice a n c] 32 (0, 0)) := by rw [hw3]; exact heap_alloc_new w2 _
  have h3 := h.later (below_on hb hb3)
  have hrp : Rp w3 (.slice (some ⟨w2.heap.size, 0, none⟩) 1 1) [((kk : Int) + 1, a, n, c)] := by
    refine .inr ⟨_, 0, 1, rfl, Nat.le_refl 1, by unfold maxLen; omega, fun j u hj => ?_⟩
    rw [Nat.zero_add, cell_of_row w3 _ j _ 32 (0, 0) hx3]
    simpa [pz] using hj
  have hok := h.ok
  have hfr : fr = [] := Classical.byContradiction fun e => hroom (.inl e)
  have hgs : gs.length = 200 := by
    have h1 : ¬ gs.length < 200 := fun e => hroom (.inr e)
    have h2 := hok.2.2.1
    omega
  refine (h3.spawn_full hfr hgs _ [((kk : Int) + 1, a, n, c)] hrp (one_come kk hk a n c hn)).mono ?_
  rintro e w' ⟨rfl, hb4⟩
  exact ⟨rfl, _, (h3.later hb4).up (by omega), (Wk.later (below_on hb hb3)).trans (Wk.later hb4)⟩
end
end Go.Proofs.YtafmiolehlagkaaGreat

/-
  World: does, on whomever: Despawn, Add, Remove, Set.
-/
namespace Go.Proofs.YtafmiolehlagkaaGreat
open Go.RowKit
set_option maxRecDepth 100000
def desF (gs fr : List Nat) (C : Co) (e : Int × Int) : Int × List Nat × List Nat × Co := match C e with
  | none => (41, gs, fr, C)
  | some _ => (0, giveG gs e.1.toNat, giveF gs fr e.1.toNat, fun x => if x = e then none else C x)
theorem Wn.desFn {w : World} {own : Nat → Nat} {gw N : Nat} {gs fr : List Nat} {C : Co} (h : Wn w own gw N usualK gs fr C) (hN : N ≤ 800000) (a b : Int) : Calls Tryz.prog 31 #[.pointer (some ⟨gw, 0, none⟩), .agg #[.int .i64 a, .int .i64 b]] w fun e w' => e = .returned (.int .i64 (desF gs fr C (a, b)).1) ∧ Fd w own gw N (desF gs fr C (a, b)).2.1 (desF gs fr C (a, b)).2.2.1 (desF gs fr C (a, b)).2.2.2 w' := by
  cases hc : C (a, b) with
  | none =>
    have e0 : desF gs fr C (a, b) = (41, gs, fr, C) := by unfold desF; rw [hc]
    rw [e0]
    refine (h.despawn_stale a b (by rw [hc]; rfl)).mono ?_
    rintro e w' ⟨rfl, hb⟩
    exact ⟨rfl, Fd.same h hb⟩
  | some p =>
    have e0 : desF gs fr C (a, b) = (0, giveG gs a.toNat, giveF gs fr a.toNat, fun x => if x = (a, b) then none else C x) := by unfold desF; rw [hc]
    rw [e0]
    obtain ⟨i, rfl, rfl, hi, hl, hf⟩ := h.at (a := a) (b := b) (by rw [hc]; rfl)
    refine (h.despawn (by omega) (i := i) (by rw [hc]; rfl) hi hl hf).mono ?_
    rintro e w' ⟨rfl, own', r1, r2⟩
    exact ⟨rfl, own', r1.up (by omega), r2⟩
section
variable {w : World} {own : Nat → Nat} {gw N : Nat} {gs fr : List Nat} {C : Co}
set_option maxHeartbeats 8000000 in
theorem doesF2 (h : Wn w own gw N usualK gs fr C) (hN : N ≤ 800000) (A : List (Nat × Nat)) (B : Nat) (v : Value) (hA : w.ownsRow B 29 2 v A.length (ec A)) (hn : A.length ≤ 1000) (h0 : 0 < A.length) (_hA0 : ∀ k, v.ownBlock = some k → own k = 0) (hal : ∀ p ∈ A, InB ((p.1 : Int), (p.2 : Int))) (kd who what y : Int) (hkd : -9223372036854775808 ≤ kd) (hkd2 : kd ≤ 9223372036854775807) (hpk : pk kd 5 = 2) (h3 : -9223372036854775808 ≤ who) (h4 : who ≤ 9223372036854775807) (h5 : -9223372036854775808 ≤ what) (h6 : what ≤ 9223372036854775807) :
    Calls Tryz.prog 21 #[.pointer (some ⟨gw, 0, none⟩), v, .agg #[.int .i64 kd, .int .i64 who, .int .i64 what, .int .i64 y]] w fun e w' => e = .returned (.tuple #[v, .int .i64 (addC C (((A.getD (pk who A.length) (0, 0)).1 : Int), ((A.getD (pk who A.length) (0, 0)).2 : Int)) (pk what 4) y).1]) ∧ Fd w own gw N gs fr (addC C (((A.getD (pk who A.length) (0, 0)).1 : Int), ((A.getD (pk who A.length) (0, 0)).2 : Int)) (pk what 4) y).2 w' := by
  obtain ⟨g, c, rfl, hc1, hc2⟩ := own_form hA h0
  obtain ⟨n, hnA⟩ : ∃ n, n = A.length := ⟨_, rfl⟩
  obtain ⟨i, hi⟩ : ∃ i, i = pk who n := ⟨_, rfl⟩
  have hlt : i < n := hi ▸ pk_lt who (by omega)
  have hm : A[i] ∈ A := List.getElem_mem (by omega)
  have hap := hal _ hm
  obtain ⟨p, hp⟩ : ∃ p, p = A[i]'(by omega) := ⟨_, rfl⟩
  have hix : pk who A.length = i := by rw [hi, hnA]
  have hgd : A.getD (pk who A.length) (0, 0) = p := by
    rw [hix, List.getD_eq_getElem?_getD, List.getElem?_eq_getElem (by omega), hp]
    rfl
  rw [hgd]
  clear hgd hix
  obtain ⟨w1, hw1⟩ : ∃ X, X = w.alloc (.cells #[.int .i64 kd, .int .i64 who, .int .i64 what, .int .i64 y] 69) := ⟨_, rfl⟩
  have B1 : Below w.heap.size w w1 := hw1 ▸ below_alloc w _
  have x1 : w1.heap[w.heap.size]? = some (.cells #[.int .i64 kd, .int .i64 who, .int .i64 what, .int .i64 y] 69 (0, 0)) := by rw [hw1]; exact heap_alloc_new w _
  rw [← hnA] at hA h0 hn ⊢
  have hA1 := own_later hA B1
  obtain ⟨y1, y2⟩ := i_own_ent hA1 i (by omega)
  rw [← hp] at y1 y2 hap
  clear hp hm
  obtain ⟨pa, pb⟩ := p
  dsimp only at y1 y2 hap ⊢
  obtain ⟨kk, hk⟩ : ∃ kk, kk = pk what 4 := ⟨_, rfl⟩
  have hkk : kk < 4 := hk ▸ pk_lt what (by omega)
  rw [← hk]
  have J5 : Hid (∀ W, Calls Tryz.prog 16 #[.int .i64 kd, .int .i64 5] W fun e w' => e = .returned (.int .i64 2) ∧ w' = W) := fun W => by
    have := pick_any kd 5 W hkd hkd2 (by omega) (by omega)
    rw [hpk] at this
    exact this
  have JW : Hid (∀ W, Calls Tryz.prog 16 #[.int .i64 who, .int .i64 (n : Int)] W fun e w' => e = .returned (.int .i64 (i : Int)) ∧ w' = W) := fun W => hi ▸ pick_any who n W h3 h4 (by omega) (by omega)
  obtain ⟨w2, hw2⟩ : ∃ X, X = w1.alloc (.cells #[.int .i64 (pa : Int), .int .i64 (pb : Int)] 29) := ⟨_, rfl⟩
  have B2 : Below w1.heap.size w1 w2 := hw2 ▸ below_alloc w1 _
  have x2 : w2.heap[w1.heap.size]? = some (.cells #[.int .i64 (pa : Int), .int .i64 (pb : Int)] 29 (0, 0)) := by rw [hw2]; exact heap_alloc_new w1 _
  obtain ⟨kx, hkx⟩ : ∃ k, k = w.heap.size := ⟨_, rfl⟩
  obtain ⟨ky, hky⟩ : ∃ k, k = w1.heap.size := ⟨_, rfl⟩
  rw [← hky] at x2
  rw [← hkx] at x1
  have X1 : Hid (w2.heap[kx]? = some (.cells #[.int .i64 kd, .int .i64 who, .int .i64 what, .int .i64 y] 69 (0, 0))) := (B2.block kx (lt_of_block x1)).trans x1
  have X2 := hide x2
  have H2 := hide (h.later (below_on B1 B2))
  have hsw : w.heap.size ≤ w1.heap.size := B1.size
  have HK : Hid (∀ W, Below w2.heap.size w2 W → ∀ C' w', Fd W (rel (rel own w 0) w2 0) gw N gs fr C' w' → Hid (Fd w own gw N gs fr C' w') ∧ w'.cell? ⟨kx, 2, none⟩ = some (.int .i64 what) ∧ w'.cell? ⟨kx, 3, none⟩ = some (.int .i64 y) ∧ w'.cell? ⟨ky, 0, none⟩ = some (.int .i64 (pa : Int)) ∧ w'.cell? ⟨ky, 1, none⟩ = some (.int .i64 (pb : Int))) := fun W hW C' w' hd => by
    obtain ⟨own', r1, r2⟩ := hd
    have e1 := wk_at r2 ((hW.block kx (lt_of_block X1.out)).trans X1.out) ((rel_old (lt_of_block X1.out)).trans (rel_new (by omega)))
    have e2 := wk_at r2 ((hW.block ky (lt_of_block X2.out)).trans X2.out) ((rel_old (lt_of_block X2.out)).trans (rel_new (by omega)))
    obtain ⟨-, -, z2, z3⟩ := box4 e1.1 (Below.refl _ w')
    obtain ⟨z4, z5⟩ := kx_cells e2.1 (Below.refl _ w')
    exact ⟨⟨own', r1, ((Wk.later (below_on B1 B2)).trans (Wk.later hW)).trans r2⟩, z2, z3, z4, z5⟩
  clear h hal hA hA1 hc1 hi B1 B2 x2
  obtain ⟨b0, b1, -, -⟩ := box4 x1 (Below.refl _ w1)
  obtain ⟨a0, -, a2, a3⟩ := box4 X1.out (Below.refl _ w2)
  obtain ⟨a4, a5⟩ := kx_cells X2.out (Below.refl _ w2)
  clear x1
  have JP : Hid (∀ W, Below w2.heap.size w2 W → Calls Tryz.prog 23 #[.int .i64 what, .int .i64 y] W fun e w' => ∃ v, e = .returned (.agg #[.int .i64 ((kk : Int) + 1), v]) ∧ Hid (w'.ownsRow W.heap.size 2 1 v (c4 kk) (zc (valsN y (c4 kk)))) ∧ Hid (Below W.heap.size W w') ∧ Hid (Below w2.heap.size w2 w') ∧ (w'.cell? ⟨kx, 2, none⟩ = some (.int .i64 what) ∧ w'.cell? ⟨kx, 3, none⟩ = some (.int .i64 y) ∧ w'.cell? ⟨ky, 0, none⟩ = some (.int .i64 (pa : Int)) ∧ w'.cell? ⟨ky, 1, none⟩ = some (.int .i64 (pb : Int)))) := fun W hW => by
    refine (hk ▸ part_any what y W h5 h6 : Calls Tryz.prog 23 #[.int .i64 what, .int .i64 y] W fun e w' => ∃ v, e = .returned (.agg #[.int .i64 ((kk : Nat) + 1 : Int), v]) ∧ w'.ownsRow W.heap.size 2 1 v (c4 kk) (zc (valsN y (c4 kk))) ∧ Below W.heap.size W w').mono ?_
    rintro e w' ⟨v, rfl, ho, hb⟩
    have hb2 := below_on hW hb
    obtain ⟨-, -, z2, z3⟩ := box4 X1.out hb2
    obtain ⟨z4, z5⟩ := kx_cells X2.out hb2
    exact ⟨v, rfl, ho, hb, hb2, z2, z3, z4, z5⟩
  have J9 : Hid (∀ (W0 W : World) (av : Option Addr) (nv cv : Nat), Below w2.heap.size w2 W0 → Below W0.heap.size W0 W → W.ownsRow W0.heap.size 2 1 (.slice av nv cv) (c4 kk) (zc (valsN y (c4 kk))) → Calls Tryz.prog 27 #[.pointer (some ⟨gw, 0, none⟩), .agg #[.int .i64 (pa : Int), .int .i64 (pb : Int)], .agg #[.int .i64 ((kk : Int) + 1), .slice av nv cv]] W fun e w' => e = .returned (.int .i64 (addC C ((pa : Int), (pb : Int)) kk y).1) ∧ Hid (Fd w own gw N gs fr (addC C ((pa : Int), (pb : Int)) kk y).2 w') ∧ (w'.cell? ⟨kx, 2, none⟩ = some (.int .i64 what) ∧ w'.cell? ⟨kx, 3, none⟩ = some (.int .i64 y) ∧ w'.cell? ⟨ky, 0, none⟩ = some (.int .i64 (pa : Int)) ∧ w'.cell? ⟨ky, 1, none⟩ = some (.int .i64 (pb : Int)))) := fun W0 W av nv cv hW0 hW ho => by
    have hWW := below_on hW0 hW
    refine ((H2.out.later hWW).addF hN pa pb kk hkk y W0.heap.size av nv cv ho (fun k e => rel_new (Nat.le_trans hW0.size (ho.lt k e).1))).mono ?_
    rintro e w' ⟨rfl, hd⟩
    obtain ⟨q1, q2, q3, q4⟩ := HK.out W hWW _ _ hd
    exact ⟨rfl, q1, q2, q3, q4⟩
  have e4 : IntKind.i64.wrap (1 + (kk : Int)) = (kk : Int) + 1 := by rw [IntKind.wrap_i64]; omega
  clear hnA hk h5 h6 h3 h4 X1 X2 H2 HK hsw hkk hap hpk hkd hkd2
  generalize (addC C ((pa : Int), (pb : Int)) kk y).1 = zz at *
  generalize (addC C ((pa : Int), (pb : Int)) kk y).2 = CC at *
  go_enter Tryz.func21, Tryz.ntmps21
  go_upto_region 1 with fail
  rw [← hw1, ← hkx]
  clear hw1 hkx
  have HKY := hide hky
  have HW2 := hide hw2
  clear hky hw2
  have t0 : ¬ (n : Int) = 0 := by omega
  have t00 : ((n : Int) == 0) = false := by rw [beq_eq_false_iff_ne]; exact t0
  have t1 : (i : Int) < (n : Int) := by omega
  have t2 : (0 : Int) ≤ (i : Int) := by omega
  go_wp2_with fail
  refine (J5.out _).mono ?_
  rintro e w5 ⟨rfl, h5⟩
  rw [h5]
  clear h5 w5
  go_wp2_with fail
  refine (JW.out _).mono ?_
  rintro e w5 ⟨rfl, h5⟩
  rw [h5]
  clear h5 w5
  go_upto_region 7 with fail
  rw [← HW2.out, ← HKY.out]
  clear HW2 HKY y1 y2 b0 b1
  go_wp2_with fail
  refine (J5.out _).mono ?_
  rintro e w5 ⟨rfl, h5⟩
  rw [h5]
  clear h5 w5
  go_upto_region 11 with fail
  go_region_held3 (fun W => W.cell? ⟨kx, 2, none⟩ = some (.int .i64 what) ∧ W.cell? ⟨kx, 3, none⟩ = some (.int .i64 y) ∧ W.cell? ⟨ky, 0, none⟩ = some (.int .i64 (pa : Int)) ∧ W.cell? ⟨ky, 1, none⟩ = some (.int .i64 (pb : Int))) (go_keep) (first | (go_at_call 23; refine (JP.out _ (below_drew w2)).mono ?_; rintro e w5 ⟨v5, rfl, HO5, HB5, HC5, k2, k3, k4, k5⟩; obtain ⟨av, nv, cv, rfl⟩ := own_slice HO5.out) | (go_at_call 27; refine (J9.out _ _ _ _ _ (below_drew w2) HB5.out HO5.out).mono ?_; rintro e w6 ⟨rfl, HD, k2', k3', k4', k5'⟩))
  go_wp2_with fail
  go_ret2
  exact ⟨rfl, HD.out⟩
set_option maxHeartbeats 8000000 in
theorem doesF3 (h : Wn w own gw N usualK gs fr C) (hN : N ≤ 800000) (A : List (Nat × Nat)) (B : Nat) (v : Value) (hA : w.ownsRow B 29 2 v A.length (ec A)) (hn : A.length ≤ 1000) (h0 : 0 < A.length) (_hA0 : ∀ k, v.ownBlock = some k → own k = 0) (hal : ∀ p ∈ A, InB ((p.1 : Int), (p.2 : Int))) (kd who what y : Int) (hkd : -9223372036854775808 ≤ kd) (hkd2 : kd ≤ 9223372036854775807) (hpk : pk kd 5 = 3) (h3 : -9223372036854775808 ≤ who) (h4 : who ≤ 9223372036854775807) (h5 : -9223372036854775808 ≤ what) (h6 : what ≤ 9223372036854775807) :
    Calls Tryz.prog 21 #[.pointer (some ⟨gw, 0, none⟩), v, .agg #[.int .i64 kd, .int .i64 who, .int .i64 what, .int .i64 y]] w fun e w' => e = .returned (.tuple #[v, .int .i64 (remC C (((A.getD (pk who A.length) (0, 0)).1 : Int), ((A.getD (pk who A.length) (0, 0)).2 : Int)) (pk what 4)).1]) ∧ Fd w own gw N gs fr (remC C (((A.getD (pk who A.length) (0, 0)).1 : Int), ((A.getD (pk who A.length) (0, 0)).2 : Int)) (pk what 4)).2 w' := by
  obtain ⟨g, c, rfl, hc1, hc2⟩ := own_form hA h0
  obtain ⟨n, hnA⟩ : ∃ n, n = A.length := ⟨_, rfl⟩
  obtain ⟨i, hi⟩ : ∃ i, i = pk who n := ⟨_, rfl⟩
  have hlt : i < n := hi ▸ pk_lt who (by omega)
  have hm : A[i] ∈ A := List.getElem_mem (by omega)
  have hap := hal _ hm
  obtain ⟨p, hp⟩ : ∃ p, p = A[i]'(by omega) := ⟨_, rfl⟩
  have hix : pk who A.length = i := by rw [hi, hnA]
  have hgd : A.getD (pk who A.length) (0, 0) = p := by
    rw [hix, List.getD_eq_getElem?_getD, List.getElem?_eq_getElem (by omega), hp]
    rfl
  rw [hgd]
  clear hgd hix
  obtain ⟨w1, hw1⟩ : ∃ X, X = w.alloc (.cells #[.int .i64 kd, .int .i64 who, .int .i64 what, .int .i64 y] 69) := ⟨_, rfl⟩
  have B1 : Below w.heap.size w w1 := hw1 ▸ below_alloc w _
  have x1 : w1.heap[w.heap.size]? = some (.cells #[.int .i64 kd, .int .i64 who, .int .i64 what, .int .i64 y] 69 (0, 0)) := by rw [hw1]; exact heap_alloc_new w _
  rw [← hnA] at hA h0 hn ⊢
  have hA1 := own_later hA B1
  obtain ⟨y1, y2⟩ := i_own_ent hA1 i (by omega)
  rw [← hp] at y1 y2 hap
  clear hp hm
  obtain ⟨pa, pb⟩ := p
  dsimp only at y1 y2 hap ⊢
  obtain ⟨kk, hk⟩ : ∃ kk, kk = pk what 4 := ⟨_, rfl⟩
  have hkk : kk < 4 := hk ▸ pk_lt what (by omega)
  rw [← hk]
  have J5 : Hid (∀ W, Calls Tryz.prog 16 #[.int .i64 kd, .int .i64 5] W fun e w' => e = .returned (.int .i64 3) ∧ w' = W) := fun W => by
    have := pick_any kd 5 W hkd hkd2 (by omega) (by omega)
    rw [hpk] at this
    exact this
  have JW : Hid (∀ W, Calls Tryz.prog 16 #[.int .i64 who, .int .i64 (n : Int)] W fun e w' => e = .returned (.int .i64 (i : Int)) ∧ w' = W) := fun W => hi ▸ pick_any who n W h3 h4 (by omega) (by omega)
  obtain ⟨w2, hw2⟩ : ∃ X, X = w1.alloc (.cells #[.int .i64 (pa : Int), .int .i64 (pb : Int)] 29) := ⟨_, rfl⟩
  have B2 : Below w1.heap.size w1 w2 := hw2 ▸ below_alloc w1 _
  have x2 : w2.heap[w1.heap.size]? = some (.cells #[.int .i64 (pa : Int), .int .i64 (pb : Int)] 29 (0, 0)) := by rw [hw2]; exact heap_alloc_new w1 _
  obtain ⟨kx, hkx⟩ : ∃ k, k = w.heap.size := ⟨_, rfl⟩
  obtain ⟨ky, hky⟩ : ∃ k, k = w1.heap.size := ⟨_, rfl⟩
  rw [← hky] at x2
  rw [← hkx] at x1
  have X1 : Hid (w2.heap[kx]? = some (.cells #[.int .i64 kd, .int .i64 who, .int .i64 what, .int .i64 y] 69 (0, 0))) := (B2.block kx (lt_of_block x1)).trans x1
  have X2 := hide x2
  have H2 := hide (h.later (below_on B1 B2))
  have hsw : w.heap.size ≤ w1.heap.size := B1.size
  have HK : Hid (∀ W, Below w2.heap.size w2 W → ∀ C' w', Fd W (rel (rel own w 0) w2 0) gw N gs fr C' w' → Hid (Fd w own gw N gs fr C' w') ∧ w'.cell? ⟨kx, 2, none⟩ = some (.int .i64 what) ∧ w'.cell? ⟨kx, 3, none⟩ = some (.int .i64 y) ∧ w'.cell? ⟨ky, 0, none⟩ = some (.int .i64 (pa : Int)) ∧ w'.cell? ⟨ky, 1, none⟩ = some (.int .i64 (pb : Int))) := fun W hW C' w' hd => by
    obtain ⟨own', r1, r2⟩ := hd
    have e1 := wk_at r2 ((hW.block kx (lt_of_block X1.out)).trans X1.out) ((rel_old (lt_of_block X1.out)).trans (rel_new (by omega)))
    have e2 := wk_at r2 ((hW.block ky (lt_of_block X2.out)).trans X2.out) ((rel_old (lt_of_block X2.out)).trans (rel_new (by omega)))
    obtain ⟨-, -, z2, z3⟩ := box4 e1.1 (Below.refl _ w')
    obtain ⟨z4, z5⟩ := kx_cells e2.1 (Below.refl _ w')
    exact ⟨⟨own', r1, ((Wk.later (below_on B1 B2)).trans (Wk.later hW)).trans r2⟩, z2, z3, z4, z5⟩
  clear h hal hA hA1 hc1 hi B1 B2 x2
  obtain ⟨b0, b1, -, -⟩ := box4 x1 (Below.refl _ w1)
  obtain ⟨a0, -, a2, a3⟩ := box4 X1.out (Below.refl _ w2)
  obtain ⟨a4, a5⟩ := kx_cells X2.out (Below.refl _ w2)
  clear x1
  have J4 : Hid (∀ W, Calls Tryz.prog 16 #[.int .i64 what, .int .i64 4] W fun e w' => e = .returned (.int .i64 (kk : Int)) ∧ w' = W) := fun W => hk ▸ pick_any what 4 W h5 h6 (by omega) (by omega)
  have J9 : Hid (∀ W, Below w2.heap.size w2 W → Calls Tryz.prog 26 #[.pointer (some ⟨gw, 0, none⟩), .agg #[.int .i64 (pa : Int), .int .i64 (pb : Int)], .int .i64 ((kk : Int) + 1)] W fun e w' => e = .returned (.int .i64 (remC C ((pa : Int), (pb : Int)) kk).1) ∧ Hid (Fd w own gw N gs fr (remC C ((pa : Int), (pb : Int)) kk).2 w') ∧ (w'.cell? ⟨kx, 2, none⟩ = some (.int .i64 what) ∧ w'.cell? ⟨ky, 0, none⟩ = some (.int .i64 (pa : Int)) ∧ w'.cell? ⟨ky, 1, none⟩ = some (.int .i64 (pb : Int)))) := fun W hW => by
    refine ((H2.out.later hW).remF hN pa pb hap kk hkk).mono ?_
    rintro e w' ⟨rfl, hd⟩
    obtain ⟨q1, q2, q3, q4⟩ := HK.out W hW _ _ hd
    exact ⟨rfl, q1, q2, q4⟩
  have e4 : IntKind.i64.wrap (1 + (kk : Int)) = (kk : Int) + 1 := by rw [IntKind.wrap_i64]; omega
  clear hnA hk h5 h6 h3 h4 X1 X2 H2 HK hsw hkk hap hpk hkd hkd2
  generalize (remC C ((pa : Int), (pb : Int)) kk).1 = zz at *
  generalize (remC C ((pa : Int), (pb : Int)) kk).2 = CC at *
  go_enter Tryz.func21, Tryz.ntmps21
  go_upto_region 1 with fail
  rw [← hw1, ← hkx]
  clear hw1 hkx
  have HKY := hide hky
  have HW2 := hide hw2
  clear hky hw2
  have t0 : ¬ (n : Int) = 0 := by omega
  have t00 : ((n : Int) == 0) = false := by rw [beq_eq_false_iff_ne]; exact t0
  have t1 : (i : Int) < (n : Int) := by omega
  have t2 : (0 : Int) ≤ (i : Int) := by omega
  go_wp2_with fail
  refine (J5.out _).mono ?_
  rintro e w5 ⟨rfl, h5⟩
  rw [h5]
  clear h5 w5
  go_wp2_with fail
  refine (JW.out _).mono ?_
  rintro e w5 ⟨rfl, h5⟩
  rw [h5]
  clear h5 w5
  go_upto_region 7 with fail
  rw [← HW2.out, ← HKY.out]
  clear HW2 HKY y1 y2 b0 b1
  go_wp2_with fail
  refine (J5.out _).mono ?_
  rintro e w5 ⟨rfl, h5⟩
  rw [h5]
  clear h5 w5
  go_upto_region 13 with fail
  go_region_held3 (fun W => W.cell? ⟨kx, 2, none⟩ = some (.int .i64 what) ∧ W.cell? ⟨ky, 0, none⟩ = some (.int .i64 (pa : Int)) ∧ W.cell? ⟨ky, 1, none⟩ = some (.int .i64 (pb : Int))) (go_keep) (first | (go_at_call 16; refine (J4.out _).mono ?_; rintro e w5 ⟨rfl, rfl⟩) | (go_at_call 26; refine (J9.out _ (below_drew w2)).mono ?_; rintro e w6 ⟨rfl, HD, k2, k3, k4⟩))
  go_wp2_with fail
  go_ret2
  exact ⟨rfl, HD.out⟩
set_option maxHeartbeats 8000000 in
theorem doesF4 (h : Wn w own gw N usualK gs fr C) (_hN : N ≤ 800000) (A : List (Nat × Nat)) (B : Nat) (v : Value) (hA : w.ownsRow B 29 2 v A.length (ec A)) (hn : A.length ≤ 1000) (h0 : 0 < A.length) (_hA0 : ∀ k, v.ownBlock = some k → own k = 0) (hal : ∀ p ∈ A, InB ((p.1 : Int), (p.2 : Int))) (kd who what y : Int) (hkd : -9223372036854775808 ≤ kd) (hkd2 : kd ≤ 9223372036854775807) (hpk : pk kd 5 = 4) (h3 : -9223372036854775808 ≤ who) (h4 : who ≤ 9223372036854775807) (h5 : -9223372036854775808 ≤ what) (h6 : what ≤ 9223372036854775807) :
    Calls Tryz.prog 21 #[.pointer (some ⟨gw, 0, none⟩), v, .agg #[.int .i64 kd, .int .i64 who, .int .i64 what, .int .i64 y]] w fun e w' => e = .returned (.tuple #[v, .int .i64 (setF C (((A.getD (pk who A.length) (0, 0)).1 : Int), ((A.getD (pk who A.length) (0, 0)).2 : Int)) (pk what 4) y).1]) ∧ Fd w own gw N gs fr (setF C (((A.getD (pk who A.length) (0, 0)).1 : Int), ((A.getD (pk who A.length) (0, 0)).2 : Int)) (pk what 4) y).2 w' := by
  obtain ⟨g, c, rfl, hc1, hc2⟩ := own_form hA h0
  obtain ⟨n, hnA⟩ : ∃ n, n = A.length := ⟨_, rfl⟩
  obtain ⟨i, hi⟩ : ∃ i, i = pk who n := ⟨_, rfl⟩
  have hlt : i < n := hi ▸ pk_lt who (by omega)
  have hm : A[i] ∈ A := List.getElem_mem (by omega)
  have hap := hal _ hm
  obtain ⟨p, hp⟩ : ∃ p, p = A[i]'(by omega) := ⟨_, rfl⟩
  have hix : pk who A.length = i := by rw [hi, hnA]
  have hgd : A.getD (pk who A.length) (0, 0) = p := by
    rw [hix, List.getD_eq_getElem?_getD, List.getElem?_eq_getElem (by omega), hp]
    rfl
  rw [hgd]
  clear hgd hix
  obtain ⟨w1, hw1⟩ : ∃ X, X = w.alloc (.cells #[.int .i64 kd, .int .i64 who, .int .i64 what, .int .i64 y] 69) := ⟨_, rfl⟩
  have B1 : Below w.heap.size w w1 := hw1 ▸ below_alloc w _
  have x1 : w1.heap[w.heap.size]? = some (.cells #[.int .i64 kd, .int .i64 who, .int .i64 what, .int .i64 y] 69 (0, 0)) := by rw [hw1]; exact heap_alloc_new w _
  rw [← hnA] at hA h0 hn ⊢
  have hA1 := own_later hA B1
  obtain ⟨y1, y2⟩ := i_own_ent hA1 i (by omega)
  rw [← hp] at y1 y2 hap
  clear hp hm
  obtain ⟨pa, pb⟩ := p
  dsimp only at y1 y2 hap ⊢
  obtain ⟨kk, hk⟩ : ∃ kk, kk = pk what 4 := ⟨_, rfl⟩
  have hkk : kk < 4 := hk ▸ pk_lt what (by omega)
  rw [← hk]
  have J5 : Hid (∀ W, Calls Tryz.prog 16 #[.int .i64 kd, .int .i64 5] W fun e w' => e = .returned (.int .i64 4) ∧ w' = W) := fun W => by
    have := pick_any kd 5 W hkd hkd2 (by omega) (by omega)
    rw [hpk] at this
    exact this
  have JW : Hid (∀ W, Calls Tryz.prog 16 #[.int .i64 who, .int .i64 (n : Int)] W fun e w' => e = .returned (.int .i64 (i : Int)) ∧ w' = W) := fun W => hi ▸ pick_any who n W h3 h4 (by omega) (by omega)
  obtain ⟨w2, hw2⟩ : ∃ X, X = w1.alloc (.cells #[.int .i64 (pa : Int), .int .i64 (pb : Int)] 29) := ⟨_, rfl⟩
  have B2 : Below w1.heap.size w1 w2 := hw2 ▸ below_alloc w1 _
  have x2 : w2.heap[w1.heap.size]? = some (.cells #[.int .i64 (pa : Int), .int .i64 (pb : Int)] 29 (0, 0)) := by rw [hw2]; exact heap_alloc_new w1 _
  obtain ⟨kx, hkx⟩ : ∃ k, k = w.heap.size := ⟨_, rfl⟩
  obtain ⟨ky, hky⟩ : ∃ k, k = w1.heap.size := ⟨_, rfl⟩
  rw [← hky] at x2
  rw [← hkx] at x1
  have X1 : Hid (w2.heap[kx]? = some (.cells #[.int .i64 kd, .int .i64 who, .int .i64 what, .int .i64 y] 69 (0, 0))) := (B2.block kx (lt_of_block x1)).trans x1
  have X2 := hide x2
  have H2 := hide (h.later (below_on B1 B2))
  have hsw : w.heap.size ≤ w1.heap.size := B1.size
  have HK : Hid (∀ W, Below w2.heap.size w2 W → ∀ C' w', Fd W (rel (rel own w 0) w2 0) gw N gs fr C' w' → Hid (Fd w own gw N gs fr C' w') ∧ w'.cell? ⟨kx, 2, none⟩ = some (.int .i64 what) ∧ w'.cell? ⟨kx, 3, none⟩ = some (.int .i64 y) ∧ w'.cell? ⟨ky, 0, none⟩ = some (.int .i64 (pa : Int)) ∧ w'.cell? ⟨ky, 1, none⟩ = some (.int .i64 (pb : Int))) := fun W hW C' w' hd => by
    obtain ⟨own', r1, r2⟩ := hd
    have e1 := wk_at r2 ((hW.block kx (lt_of_block X1.out)).trans X1.out) ((rel_old (lt_of_block X1.out)).trans (rel_new (by omega)))
    have e2 := wk_at r2 ((hW.block ky (lt_of_block X2.out)).trans X2.out) ((rel_old (lt_of_block X2.out)).trans (rel_new (by omega)))
    obtain ⟨-, -, z2, z3⟩ := box4 e1.1 (Below.refl _ w')
    obtain ⟨z4, z5⟩ := kx_cells e2.1 (Below.refl _ w')
    exact ⟨⟨own', r1, ((Wk.later (below_on B1 B2)).trans (Wk.later hW)).trans r2⟩, z2, z3, z4, z5⟩
  clear h hal hA hA1 hc1 hi B1 B2 x2
  obtain ⟨b0, b1, -, -⟩ := box4 x1 (Below.refl _ w1)
  obtain ⟨a0, -, a2, a3⟩ := box4 X1.out (Below.refl _ w2)
  obtain ⟨a4, a5⟩ := kx_cells X2.out (Below.refl _ w2)
  clear x1
  have JP : Hid (∀ W, Below w2.heap.size w2 W → Calls Tryz.prog 23 #[.int .i64 what, .int .i64 y] W fun e w' => ∃ v, e = .returned (.agg #[.int .i64 ((kk : Int) + 1), v]) ∧ Hid (w'.ownsRow W.heap.size 2 1 v (c4 kk) (zc (valsN y (c4 kk)))) ∧ Hid (Below W.heap.size W w') ∧ Hid (Below w2.heap.size w2 w') ∧ (w'.cell? ⟨kx, 2, none⟩ = some (.int .i64 what) ∧ w'.cell? ⟨kx, 3, none⟩ = some (.int .i64 y) ∧ w'.cell? ⟨ky, 0, none⟩ = some (.int .i64 (pa : Int)) ∧ w'.cell? ⟨ky, 1, none⟩ = some (.int .i64 (pb : Int)))) := fun W hW => by
    refine (hk ▸ part_any what y W h5 h6 : Calls Tryz.prog 23 #[.int .i64 what, .int .i64 y] W fun e w' => ∃ v, e = .returned (.agg #[.int .i64 ((kk : Nat) + 1 : Int), v]) ∧ w'.ownsRow W.heap.size 2 1 v (c4 kk) (zc (valsN y (c4 kk))) ∧ Below W.heap.size W w').mono ?_
    rintro e w' ⟨v, rfl, ho, hb⟩
    have hb2 := below_on hW hb
    obtain ⟨-, -, z2, z3⟩ := box4 X1.out hb2
    obtain ⟨z4, z5⟩ := kx_cells X2.out hb2
    exact ⟨v, rfl, ho, hb, hb2, z2, z3, z4, z5⟩
  have J9 : Hid (∀ (W0 W : World) (av : Option Addr) (nv cv : Nat), Below w2.heap.size w2 W0 → Below W0.heap.size W0 W → W.ownsRow W0.heap.size 2 1 (.slice av nv cv) (c4 kk) (zc (valsN y (c4 kk))) → Calls Tryz.prog 35 #[.pointer (some ⟨gw, 0, none⟩), .agg #[.int .i64 (pa : Int), .int .i64 (pb : Int)], .agg #[.int .i64 ((kk : Int) + 1), .slice av nv cv]] W fun e w' => e = .returned (.int .i64 (setF C ((pa : Int), (pb : Int)) kk y).1) ∧ Hid (Fd w own gw N gs fr (setF C ((pa : Int), (pb : Int)) kk y).2 w') ∧ (w'.cell? ⟨kx, 2, none⟩ = some (.int .i64 what) ∧ w'.cell? ⟨kx, 3, none⟩ = some (.int .i64 y) ∧ w'.cell? ⟨ky, 0, none⟩ = some (.int .i64 (pa : Int)) ∧ w'.cell? ⟨ky, 1, none⟩ = some (.int .i64 (pb : Int)))) := fun W0 W av nv cv hW0 hW ho => by
    have hWW := below_on hW0 hW
    refine ((H2.out.later hWW).setFn pa pb hap kk hkk y W0.heap.size av nv cv ho (fun k e => rel_new (Nat.le_trans hW0.size (ho.lt k e).1))).mono ?_
    rintro e w' ⟨rfl, hd⟩
    obtain ⟨q1, q2, q3, q4⟩ := HK.out W hWW _ _ hd
    exact ⟨rfl, q1, q2, q3, q4⟩
  have e4 : IntKind.i64.wrap (1 + (kk : Int)) = (kk : Int) + 1 := by rw [IntKind.wrap_i64]; omega
  clear hnA hk h5 h6 h3 h4 X1 X2 H2 HK hsw hkk hap hpk hkd hkd2
  generalize (setF C ((pa : Int), (pb : Int)) kk y).1 = zz at *
  generalize (setF C ((pa : Int), (pb : Int)) kk y).2 = CC at *
  go_enter Tryz.func21, Tryz.ntmps21
  go_upto_region 1 with fail
  rw [← hw1, ← hkx]
  clear hw1 hkx
  have HKY := hide hky
  have HW2 := hide hw2
  clear hky hw2
  have t0 : ¬ (n : Int) = 0 := by omega
  have t00 : ((n : Int) == 0) = false := by rw [beq_eq_false_iff_ne]; exact t0
  have t1 : (i : Int) < (n : Int) := by omega
  have t2 : (0 : Int) ≤ (i : Int) := by omega
  go_wp2_with fail
  refine (J5.out _).mono ?_
  rintro e w5 ⟨rfl, h5⟩
  rw [h5]
  clear h5 w5
  go_wp2_with fail
  refine (JW.out _).mono ?_
  rintro e w5 ⟨rfl, h5⟩
  rw [h5]
  clear h5 w5
  go_upto_region 7 with fail
  rw [← HW2.out, ← HKY.out]
  clear HW2 HKY y1 y2 b0 b1
  go_wp2_with fail
  refine (J5.out _).mono ?_
  rintro e w5 ⟨rfl, h5⟩
  rw [h5]
  clear h5 w5
  go_upto_region 14 with fail
  go_region_held3 (fun W => W.cell? ⟨kx, 2, none⟩ = some (.int .i64 what) ∧ W.cell? ⟨kx, 3, none⟩ = some (.int .i64 y) ∧ W.cell? ⟨ky, 0, none⟩ = some (.int .i64 (pa : Int)) ∧ W.cell? ⟨ky, 1, none⟩ = some (.int .i64 (pb : Int))) (go_keep) (first | (go_at_call 23; refine (JP.out _ (below_drew w2)).mono ?_; rintro e w5 ⟨v5, rfl, HO5, HB5, HC5, k2, k3, k4, k5⟩; obtain ⟨av, nv, cv, rfl⟩ := own_slice HO5.out) | (go_at_call 35; refine (J9.out _ _ _ _ _ (below_drew w2) HB5.out HO5.out).mono ?_; rintro e w6 ⟨rfl, HD, k2', k3', k4', k5'⟩))
  go_wp2_with fail
  go_ret2
  exact ⟨rfl, HD.out⟩
set_option maxHeartbeats 8000000 in
theorem doesF1 (h : Wn w own gw N usualK gs fr C) (hN : N ≤ 800000) (A : List (Nat × Nat)) (B : Nat) (v : Value) (hA : w.ownsRow B 29 2 v A.length (ec A)) (hn : A.length ≤ 1000) (h0 : 0 < A.length) (_hA0 : ∀ k, v.ownBlock = some k → own k = 0) (hal : ∀ p ∈ A, InB ((p.1 : Int), (p.2 : Int))) (kd who what y : Int) (hkd : -9223372036854775808 ≤ kd) (hkd2 : kd ≤ 9223372036854775807) (hpk : pk kd 5 = 1) (h3 : -9223372036854775808 ≤ who) (h4 : who ≤ 9223372036854775807) (_h5 : -9223372036854775808 ≤ what) (_h6 : what ≤ 9223372036854775807) :
    Calls Tryz.prog 21 #[.pointer (some ⟨gw, 0, none⟩), v, .agg #[.int .i64 kd, .int .i64 who, .int .i64 what, .int .i64 y]] w fun e w' => e = .returned (.tuple #[v, .int .i64 (desF gs fr C (((A.getD (pk who A.length) (0, 0)).1 : Int), ((A.getD (pk who A.length) (0, 0)).2 : Int))).1]) ∧ Fd w own gw N (desF gs fr C (((A.getD (pk who A.length) (0, 0)).1 : Int), ((A.getD (pk who A.length) (0, 0)).2 : Int))).2.1 (desF gs fr C (((A.getD (pk who A.length) (0, 0)).1 : Int), ((A.getD (pk who A.length) (0, 0)).2 : Int))).2.2.1 (desF gs fr C (((A.getD (pk who A.length) (0, 0)).1 : Int), ((A.getD (pk who A.length) (0, 0)).2 : Int))).2.2.2 w' := by
  obtain ⟨g, c, rfl, hc1, hc2⟩ := own_form hA h0
  obtain ⟨n, hnA⟩ : ∃ n, n = A.length := ⟨_, rfl⟩
  obtain ⟨i, hi⟩ : ∃ i, i = pk who n := ⟨_, rfl⟩
  have hlt : i < n := hi ▸ pk_lt who (by omega)
  have hm : A[i] ∈ A := List.getElem_mem (by omega)
  have hap := hal _ hm
  obtain ⟨p, hp⟩ : ∃ p, p = A[i]'(by omega) := ⟨_, rfl⟩
  have hix : pk who A.length = i := by rw [hi, hnA]
  have hgd : A.getD (pk who A.length) (0, 0) = p := by
    rw [hix, List.getD_eq_getElem?_getD, List.getElem?_eq_getElem (by omega), hp]
    rfl
  rw [hgd]
  clear hgd hix
  obtain ⟨w1, hw1⟩ : ∃ X, X = w.alloc (.cells #[.int .i64 kd, .int .i64 who, .int .i64 what, .int .i64 y] 69) := ⟨_, rfl⟩
  have B1 : Below w.heap.size w w1 := hw1 ▸ below_alloc w _
  have x1 : w1.heap[w.heap.size]? = some (.cells #[.int .i64 kd, .int .i64 who, .int .i64 what, .int .i64 y] 69 (0, 0)) := by rw [hw1]; exact heap_alloc_new w _
  rw [← hnA] at hA h0 hn ⊢
  have hA1 := own_later hA B1
  obtain ⟨y1, y2⟩ := i_own_ent hA1 i (by omega)
  rw [← hp] at y1 y2 hap
  clear hp hm
  obtain ⟨pa, pb⟩ := p
  dsimp only at y1 y2 hap ⊢
  have J5 : Hid (∀ W, Calls Tryz.prog 16 #[.int .i64 kd, .int .i64 5] W fun e w' => e = .returned (.int .i64 1) ∧ w' = W) := fun W => by
    have := pick_any kd 5 W hkd hkd2 (by omega) (by omega)
    rw [hpk] at this
    exact this
  have JW : Hid (∀ W, Calls Tryz.prog 16 #[.int .i64 who, .int .i64 (n : Int)] W fun e w' => e = .returned (.int .i64 (i : Int)) ∧ w' = W) := fun W => hi ▸ pick_any who n W h3 h4 (by omega) (by omega)
  obtain ⟨w2, hw2⟩ : ∃ X, X = w1.alloc (.cells #[.int .i64 (pa : Int), .int .i64 (pb : Int)] 29) := ⟨_, rfl⟩
  have B2 : Below w1.heap.size w1 w2 := hw2 ▸ below_alloc w1 _
  have x2 : w2.heap[w1.heap.size]? = some (.cells #[.int .i64 (pa : Int), .int .i64 (pb : Int)] 29 (0, 0)) := by rw [hw2]; exact heap_alloc_new w1 _
  obtain ⟨kx, hkx⟩ : ∃ k, k = w.heap.size := ⟨_, rfl⟩
  obtain ⟨ky, hky⟩ : ∃ k, k = w1.heap.size := ⟨_, rfl⟩
  rw [← hky] at x2
  rw [← hkx] at x1
  have X1 : Hid (w2.heap[kx]? = some (.cells #[.int .i64 kd, .int .i64 who, .int .i64 what, .int .i64 y] 69 (0, 0))) := (B2.block kx (lt_of_block x1)).trans x1
  have X2 := hide x2
  have H2 := hide (h.later (below_on B1 B2))
  have hsw : w.heap.size ≤ w1.heap.size := B1.size
  have HK : Hid (∀ W, Below w2.heap.size w2 W → ∀ g1 f1 C' w', Fd W (rel (rel own w 0) w2 0) gw N g1 f1 C' w' → Hid (Fd w own gw N g1 f1 C' w') ∧ w'.cell? ⟨kx, 2, none⟩ = some (.int .i64 what) ∧ w'.cell? ⟨kx, 3, none⟩ = some (.int .i64 y) ∧ w'.cell? ⟨ky, 0, none⟩ = some (.int .i64 (pa : Int)) ∧ w'.cell? ⟨ky, 1, none⟩ = some (.int .i64 (pb : Int))) := fun W hW g1 f1 C' w' hd => by
    obtain ⟨own', r1, r2⟩ := hd
    have e1 := wk_at r2 ((hW.block kx (lt_of_block X1.out)).trans X1.out) ((rel_old (lt_of_block X1.out)).trans (rel_new (by omega)))
    have e2 := wk_at r2 ((hW.block ky (lt_of_block X2.out)).trans X2.out) ((rel_old (lt_of_block X2.out)).trans (rel_new (by omega)))
    obtain ⟨-, -, z2, z3⟩ := box4 e1.1 (Below.refl _ w')
    obtain ⟨z4, z5⟩ := kx_cells e2.1 (Below.refl _ w')
    exact ⟨⟨own', r1, ((Wk.later (below_on B1 B2)).trans (Wk.later hW)).trans r2⟩, z2, z3, z4, z5⟩
  clear h hal hA hA1 hc1 hi B1 B2 x2
  obtain ⟨b0, b1, -, -⟩ := box4 x1 (Below.refl _ w1)
  obtain ⟨a0, -, a2, a3⟩ := box4 X1.out (Below.refl _ w2)
  obtain ⟨a4, a5⟩ := kx_cells X2.out (Below.refl _ w2)
  clear x1
  have J9 : Hid (∀ W, Below w2.heap.size w2 W → Calls Tryz.prog 31 #[.pointer (some ⟨gw, 0, none⟩), .agg #[.int .i64 (pa : Int), .int .i64 (pb : Int)]] W fun e w' => e = .returned (.int .i64 (desF gs fr C ((pa : Int), (pb : Int))).1) ∧ Hid (Fd w own gw N (desF gs fr C ((pa : Int), (pb : Int))).2.1 (desF gs fr C ((pa : Int), (pb : Int))).2.2.1 (desF gs fr C ((pa : Int), (pb : Int))).2.2.2 w')) := fun W hW => by
    refine ((H2.out.later hW).desFn hN pa pb).mono ?_
    rintro e w' ⟨rfl, hd⟩
    obtain ⟨q1, q2, q3, q4⟩ := HK.out W hW _ _ _ _ hd
    exact ⟨rfl, q1⟩
  clear hnA h3 h4 X1 X2 H2 HK hsw hap hpk hkd hkd2
  generalize (desF gs fr C ((pa : Int), (pb : Int))).1 = zz at *
  generalize (desF gs fr C ((pa : Int), (pb : Int))).2.1 = g7 at *
  generalize (desF gs fr C ((pa : Int), (pb : Int))).2.2.1 = f7 at *
  generalize (desF gs fr C ((pa : Int), (pb : Int))).2.2.2 = CC at *
  go_enter Tryz.func21, Tryz.ntmps21
  go_upto_region 1 with fail
  rw [← hw1, ← hkx]
  clear hw1 hkx
  have HKY := hide hky
  have HW2 := hide hw2
  clear hky hw2
  have t0 : ¬ (n : Int) = 0 := by omega
  have t00 : ((n : Int) == 0) = false := by rw [beq_eq_false_iff_ne]; exact t0
  have t1 : (i : Int) < (n : Int) := by omega
  have t2 : (0 : Int) ≤ (i : Int) := by omega
  go_wp2_with fail
  refine (J5.out _).mono ?_
  rintro e w5 ⟨rfl, h5⟩
  rw [h5]
  clear h5 w5
  go_wp2_with fail
  refine (JW.out _).mono ?_
  rintro e w5 ⟨rfl, h5⟩
  rw [h5]
  clear h5 w5
  go_upto_region 7 with fail
  rw [← HW2.out, ← HKY.out]
  clear HW2 HKY y1 y2 b0 b1
  go_wp2_with fail
  refine (J5.out _).mono ?_
  rintro e w5 ⟨rfl, h5⟩
  rw [h5]
  clear h5 w5
  go_wp2_with fail
  refine (J9.out _ (Below.refl _ _)).mono ?_
  rintro e w6 ⟨rfl, HD⟩
  go_wp2_with fail
  go_ret2
  exact ⟨rfl, HD.out⟩
end
end Go.Proofs.YtafmiolehlagkaaGreat

/-
  World: does where one comes.
-/
namespace Go.Proofs.YtafmiolehlagkaaGreat
open Go.RowKit
set_option maxRecDepth 100000
/-- One may have come: the list of all may have been written behind its end. -/
def Sp (w : World) (own : Nat → Nat) (gw N B : Nat) (v : Value) (gs fr : List Nat) (C : Co) (A : List (Nat × Nat)) (v' : Value) (w' : World) : Prop :=
  ∃ own', Wn w' own' gw (N + 4) usualK gs fr C ∧ (∀ k, k < w.heap.size → own' k = own k) ∧ Mv w w' (fun k => (own k ≠ 0 ∧ own k ≠ 2) ∨ v.ownBlock = some k) ∧ w'.ownsRow B 29 2 v' A.length (ec A) ∧ (∀ k, v'.ownBlock = some k → own' k = 0) ∧ (v'.ownBlock = v.ownBlock ∨ ∀ k, v'.ownBlock = some k → w.heap.size ≤ k)
section
variable {w : World} {own : Nat → Nat} {gw N : Nat} {gs fr : List Nat} {C : Co}
theorem sp_more {w4 w5 w9 : World} {own4 : Nat → Nat} {gs' fr' : List Nat} {C' : Co} {A : List (Nat × Nat)} {B : Nat} {v v9 : Value} {p : Nat × Nat} {o : Obj} (_hB : B ≤ w.heap.size) (hA : w.ownsRow B 29 2 v A.length (ec A)) (hA0 : ∀ k, v.ownBlock = some k → own k = 0) (q1 : Wn w4 own4 gw (N + 3) usualK gs' fr' C') (q2 : Wk own own4 w w4) (hb5 : Below w4.heap.size w4 w5) (k1 : w9.ownsRow B 29 2 v9 (A.length + 1) (ec A ++ [.int .i64 (p.1 : Int), .int .i64 (p.2 : Int)])) (k2 : (w5.alloc o).grownBy w9 v.ownBlock) (k3 : v9.ownBlock = v.ownBlock ∨ v9.ownBlock = some (w5.heap.size + 1)) : Sp w own gw N B v gs' fr' C' (A ++ [p]) v9 w9 := by
  have hm : Mv w4 w9 (fun k => v.ownBlock = some k) := ((Mv.of_below hb5 (fun k => v.ownBlock = some k)).alloc o).grown k2 (fun k _ e => e)
  have s4 := q2.2.size
  have s5 := hb5.size
  refine ⟨rel own4 w4 0, (q1.frame hm (fun k hk e => ?_)).up (by omega), fun k hk => (rel_old (by omega)).trans (q2.1 k hk), ?_, ?_, fun k e => ?_, ?_⟩
  · have := (hA.lt k e).2
    rw [q2.1 k this]
    exact hA0 k e
  · exact (q2.2.mono (fun _ _ e => .inl e)).trans hm (fun k _ e => .inr e)
  · rw [List.length_append, ec_append]
    exact k1
  · rcases k3 with c | c
    · rw [c] at e
      have := (hA.lt k e).2
      rw [rel_old (by omega), q2.1 k this]
      exact hA0 k e
    · rw [c] at e
      simp only [Option.some.injEq] at e
      exact rel_new (by omega)
  · rcases k3 with c | c
    · exact .inl c
    · refine .inr (fun k e => ?_)
      rw [c] at e
      simp only [Option.some.injEq] at e
      omega
set_option maxHeartbeats 8000000 in
theorem does0_room (h : Wn w own gw N usualK gs fr C) (hN : N ≤ 800000) (hroom : fr ≠ [] ∨ gs.length < 200) (A : List (Nat × Nat)) (B : Nat) (v : Value) (hA : w.ownsRow B 29 2 v A.length (ec A)) (hn : A.length ≤ 1000) (hB : B ≤ w.heap.size) (hA0 : ∀ k, v.ownBlock = some k → own k = 0) (kd who what y : Int) (h1 : -9223372036854775808 ≤ kd) (h2 : kd ≤ 9223372036854775807) (h5 : -9223372036854775808 ≤ what) (h6 : what ≤ 9223372036854775807) (hx : pk kd 5 = 0) :
    Calls Tryz.prog 21 #[.pointer (some ⟨gw, 0, none⟩), v, .agg #[.int .i64 kd, .int .i64 who, .int .i64 what, .int .i64 y]] w fun e w' => ∃ v', e = .returned (.tuple #[v', .int .i64 0]) ∧ Sp w own gw N B v (takeG gs fr) (takeF fr) (spC gs fr C (pk what 4) y) (A ++ [takeE gs fr]) v' w' := by
  obtain ⟨i29, hi29, hy0, hy1, hy2⟩ := info_parts info32
  obtain ⟨ag, cg, rfl⟩ := own_len hA
  obtain ⟨n, hnn⟩ : ∃ n, n = A.length := ⟨_, rfl⟩
  have HNN := hide hnn
  rw [← hnn] at hA hA0 hn ⊢
  obtain ⟨w1, hw1⟩ : ∃ X, X = w.alloc (.cells #[.int .i64 kd, .int .i64 who, .int .i64 what, .int .i64 y] 69) := ⟨_, rfl⟩
  have B1 : Hid (Below w.heap.size w w1) := hw1 ▸ below_alloc w _
  have x1 : w1.heap[w.heap.size]? = some (.cells #[.int .i64 kd, .int .i64 who, .int .i64 what, .int .i64 y] 69 (0, 0)) := by rw [hw1]; exact heap_alloc_new w _
  obtain ⟨kx, hkx⟩ : ∃ k, k = w.heap.size := ⟨_, rfl⟩
  rw [← hkx] at x1
  obtain ⟨b0, -, b2, b3⟩ := box4 x1 (Below.refl _ w1)
  have J5 : Hid (Calls Tryz.prog 16 #[.int .i64 kd, .int .i64 5] w1 fun e w' => e = .returned (.int .i64 0) ∧ w' = w1) := by
    have := pick_any kd 5 w1 h1 h2 (by omega) (by omega)
    rw [hx] at this
    exact this
  have JPt := hide (part_any what y w1 h5 h6)
  have hk4 : pk what 4 < 4 := pk_lt what (by omega)
  generalize pk what 4 = kk at *
  have H := hide h
  have HR := hide hroom
  have HA := hide (And.intro hA (And.intro hB hA0))
  clear h hroom x1 h1 h2 h5 h6 hx hA hB hA0
  clear hnn
  obtain ⟨⟨pa, pb⟩, hpq⟩ : ∃ q, q = takeE gs fr := ⟨_, rfl⟩
  obtain ⟨CC, hCC⟩ : ∃ c, c = spC gs fr C kk y := ⟨_, rfl⟩
  rw [← hpq, ← hCC]
  have HPQ := hide hpq
  have HCC := hide hCC
  clear hpq hCC
  go_enter Tryz.func21, Tryz.ntmps21
  go_upto_region 1 with fail
  rw [← hw1, ← hkx]
  clear hw1 hkx
  go_wp2_with fail
  refine J5.out.mono ?_
  rintro e w5 ⟨rfl, h5⟩
  rw [h5]
  clear h5 w5 J5
  go_wp2_with fail
  refine JPt.out.mono ?_
  rintro e w2 ⟨vp, rfl, ho2, hb2⟩
  obtain ⟨ap, np, cp, rfl⟩ := own_slice ho2
  obtain ⟨w3, hw3⟩ : ∃ X, X = w2.alloc (.cells #[.int .i64 ((kk : Int) + 1), .slice ap np cp] 32) := ⟨_, rfl⟩
  have JS := hide (H.out.spawn_oneF hN HR.out (below_on B1.out hb2) kk hk4 y ap np cp (own_lower ho2 B1.out.size) hw3)
  clear ho2 hb2 JPt H HR
  rw [← HPQ.out, ← HCC.out] at JS
  clear HPQ HCC
  dsimp only at JS
  go_wp2_with fail
  rw [← hw3]
  refine JS.out.mono ?_
  rintro e w4 ⟨rfl, own4, q1, q2⟩
  have HX4 := hide (And.intro q1 q2)
  clear q1 q2
  obtain ⟨w5, hw5⟩ : ∃ X, X = w4.alloc (.cells #[.int .i64 (pa : Int), .int .i64 (pb : Int)] 29) := ⟨_, rfl⟩
  have x5 : w5.heap[w4.heap.size]? = some (.cells #[.int .i64 (pa : Int), .int .i64 (pb : Int)] 29 (0, 0)) := by
    rw [hw5]
    exact heap_alloc_new w4 _
  have B5 : Hid (Below w4.heap.size w4 w5) := hw5 ▸ below_alloc w4 _
  obtain ⟨ky, hky⟩ : ∃ k, k = w4.heap.size := ⟨_, rfl⟩
  rw [← hky] at x5
  obtain ⟨z1, z2⟩ := kx_cells x5 (Below.refl _ w5)
  have HSZ : Hid (B ≤ w5.heap.size + 1) := by
    have q1 := HX4.out.2.2.size
    have q2 := B5.out.size
    have q3 := HA.out.2.1
    show _ ≤ _
    omega
  have HO : Hid ((w5.alloc (.cells #[.int .i64 (pa : Int), .int .i64 (pb : Int)] 29)).ownsRow B 29 2 (.slice ag n cg) n (ec A)) := by
    have := HA.out.1
    exact own_later (own_later (HX4.out.2.mv.own this (fun k e e2 => e2 (HA.out.2.2 k e))) B5.out) (below_alloc w5 _)
  have HF : Hid (∀ (v9 : Value) (w9 : World), w9.ownsRow B 29 2 v9 (n + 1) (ec A ++ [.int .i64 (pa : Int), .int .i64 (pb : Int)]) → (w5.alloc (.cells #[.int .i64 (pa : Int), .int .i64 (pb : Int)] 29)).grownBy w9 (Value.slice ag n cg).ownBlock → (v9.ownBlock = (Value.slice ag n cg).ownBlock ∨ v9.ownBlock = some (w5.heap.size + 1)) → Sp w own gw N B (.slice ag n cg) (takeG gs fr) (takeF fr) CC (A ++ [(pa, pb)]) v9 w9) := fun v9 w9 k1 k2 k3 => by
    have e := HNN.out
    subst e
    exact sp_more HA.out.2.1 HA.out.1 HA.out.2.2 HX4.out.1 HX4.out.2 B5.out k1 k2 k3
  clear HX4 JS hw3 B5 x5 b0 b2 b3
  go_upto_region 3 with fail
  rw [← hw5, ← hky]
  clear hw5 hky
  go_wp2_with (at_builtin; refine wpList_append_own_at _ rfl _ _ 39 rfl B 29 i29 (.agg #[.int .i64 0, .int .i64 0]) 2 16 Tryz.underlying39 hi29 hy0 hy1 hy2 rfl (by decide) _ n (ec A) rfl HO.out ⟨w5.heap.size, 0, none⟩ 1 1 [.int .i64 (pa : Int), .int .i64 (pb : Int)] rfl rfl ?n1 ?n2 ?n3 ?n4 ?n5 ?_)
  case n1 =>
    intro j u hj
    match j, hj with
    | 0, hj => simp at hj; subst hj; simp [Addr.add]
    | 1, hj => simp at hj; subst hj; simp [Addr.add]
  case n2 => first | exact ⟨rfl, rfl⟩ | (intro u hu; simp at hu; rcases hu with rfl | rfl <;> rfl)
  case n3 => unfold maxLen; omega
  case n4 => omega
  case n5 => first | exact HSZ.out | (simp; exact HSZ.out)
  intro v9 w9 ho9 hg9 _ ha9
  have H9 := hide (HF.out v9 w9 ho9 hg9 (by simpa using ha9))
  obtain ⟨a9, c9, rfl⟩ := own_len ho9
  clear ho9 hg9 ha9 HF HO HSZ z1 z2
  go_wp2_with fail
  go_ret2
  exact ⟨_, rfl, H9.out⟩
set_option maxHeartbeats 8000000 in
theorem does0_full (h : Wn w own gw N usualK gs fr C) (_hN : N ≤ 800000) (hroom : ¬ (fr ≠ [] ∨ gs.length < 200)) (A : List (Nat × Nat)) (B : Nat) (v : Value) (hA : w.ownsRow B 29 2 v A.length (ec A)) (_hn : A.length ≤ 1000) (hB : B ≤ w.heap.size) (hA0 : ∀ k, v.ownBlock = some k → own k = 0) (kd who what y : Int) (h1 : -9223372036854775808 ≤ kd) (h2 : kd ≤ 9223372036854775807) (h5 : -9223372036854775808 ≤ what) (h6 : what ≤ 9223372036854775807) (hx : pk kd 5 = 0) :
    Calls Tryz.prog 21 #[.pointer (some ⟨gw, 0, none⟩), v, .agg #[.int .i64 kd, .int .i64 who, .int .i64 what, .int .i64 y]] w fun e w' => e = .returned (.tuple #[v, .int .i64 40]) ∧ Fd w own gw N gs fr C w' := by
  obtain ⟨i29, hi29, hy0, hy1, hy2⟩ := info_parts info32
  obtain ⟨ag, cg, rfl⟩ := own_len hA
  obtain ⟨n, hnn⟩ : ∃ n, n = A.length := ⟨_, rfl⟩
  have HNN := hide hnn
  rw [← hnn] at hA hA0 ⊢
  obtain ⟨w1, hw1⟩ : ∃ X, X = w.alloc (.cells #[.int .i64 kd, .int .i64 who, .int .i64 what, .int .i64 y] 69) := ⟨_, rfl⟩
  have B1 : Hid (Below w.heap.size w w1) := hw1 ▸ below_alloc w _
  have x1 : w1.heap[w.heap.size]? = some (.cells #[.int .i64 kd, .int .i64 who, .int .i64 what, .int .i64 y] 69 (0, 0)) := by rw [hw1]; exact heap_alloc_new w _
  obtain ⟨kx, hkx⟩ : ∃ k, k = w.heap.size := ⟨_, rfl⟩
  rw [← hkx] at x1
  obtain ⟨b0, -, b2, b3⟩ := box4 x1 (Below.refl _ w1)
  have J5 : Hid (Calls Tryz.prog 16 #[.int .i64 kd, .int .i64 5] w1 fun e w' => e = .returned (.int .i64 0) ∧ w' = w1) := by
    have := pick_any kd 5 w1 h1 h2 (by omega) (by omega)
    rw [hx] at this
    exact this
  have JPt := hide (part_any what y w1 h5 h6)
  have hk4 : pk what 4 < 4 := pk_lt what (by omega)
  generalize pk what 4 = kk at *
  have H := hide h
  have HR := hide hroom
  have HA := hide (And.intro hA (And.intro hB hA0))
  clear h hroom x1 h1 h2 h5 h6 hx hA hB hA0
  clear hnn
  go_enter Tryz.func21, Tryz.ntmps21
  go_upto_region 1 with fail
  rw [← hw1, ← hkx]
  clear hw1 hkx
  go_wp2_with fail
  refine J5.out.mono ?_
  rintro e w5 ⟨rfl, h5⟩
  rw [h5]
  clear h5 w5 J5
  go_wp2_with fail
  refine JPt.out.mono ?_
  rintro e w2 ⟨vp, rfl, ho2, hb2⟩
  obtain ⟨ap, np, cp, rfl⟩ := own_slice ho2
  obtain ⟨w3, hw3⟩ : ∃ X, X = w2.alloc (.cells #[.int .i64 ((kk : Int) + 1), .slice ap np cp] 32) := ⟨_, rfl⟩
  have JS := hide (H.out.spawn_noneF HR.out (below_on B1.out hb2) kk hk4 ap np cp (by obtain ⟨x, z, e⟩ := own_len ho2; simp only [Value.slice.injEq] at e; exact e.2.1) hw3)
  clear ho2 hb2 JPt H HR
  unfold ev at JS
  go_wp2_with fail
  rw [← hw3]
  refine JS.out.mono ?_
  rintro e w4 ⟨rfl, own4, q1, q2⟩
  have HX4 := hide (And.intro q1 q2)
  clear q1 q2
  go_wp2_with fail
  go_ret2
  exact ⟨rfl, _, (HX4.out.1.later (below_alloc w4 _)).up (by omega), HX4.out.2.trans (Wk.later (below_alloc w4 _))⟩
set_option maxHeartbeats 8000000 in
theorem does0_roomE (h : Wn w own gw N usualK gs fr C) (hN : N ≤ 800000) (hroom : fr ≠ [] ∨ gs.length < 200) (A : List (Nat × Nat)) (B : Nat) (v : Value) (hA : w.ownsRow B 29 2 v A.length (ec A)) (hn : A.length ≤ 1000) (hB : B ≤ w.heap.size) (hA0 : ∀ k, v.ownBlock = some k → own k = 0) (kd who what y : Int) (h1 : -9223372036854775808 ≤ kd) (h2 : kd ≤ 9223372036854775807) (h5 : -9223372036854775808 ≤ what) (h6 : what ≤ 9223372036854775807) (hx : pk kd 5 ≠ 0) (hA00 : A.length = 0) :
    Calls Tryz.prog 21 #[.pointer (some ⟨gw, 0, none⟩), v, .agg #[.int .i64 kd, .int .i64 who, .int .i64 what, .int .i64 y]] w fun e w' => ∃ v', e = .returned (.tuple #[v', .int .i64 0]) ∧ Sp w own gw N B v (takeG gs fr) (takeF fr) (spC gs fr C (pk what 4) y) (A ++ [takeE gs fr]) v' w' := by
  obtain ⟨i29, hi29, hy0, hy1, hy2⟩ := info_parts info32
  obtain ⟨ag, cg, rfl⟩ := own_len hA
  obtain ⟨n, hnn⟩ : ∃ n, n = A.length := ⟨_, rfl⟩
  have HNN := hide hnn
  rw [← hnn] at hA hA0 hn ⊢
  obtain ⟨w1, hw1⟩ : ∃ X, X = w.alloc (.cells #[.int .i64 kd, .int .i64 who, .int .i64 what, .int .i64 y] 69) := ⟨_, rfl⟩
  have B1 : Hid (Below w.heap.size w w1) := hw1 ▸ below_alloc w _
  have x1 : w1.heap[w.heap.size]? = some (.cells #[.int .i64 kd, .int .i64 who, .int .i64 what, .int .i64 y] 69 (0, 0)) := by rw [hw1]; exact heap_alloc_new w _
  obtain ⟨kx, hkx⟩ : ∃ k, k = w.heap.size := ⟨_, rfl⟩
  rw [← hkx] at x1
  obtain ⟨b0, -, b2, b3⟩ := box4 x1 (Below.refl _ w1)
  have J5 := hide (pick_any kd 5 w1 h1 h2 (by omega) (by omega))
  have t5 : ((pk kd 5 : Int) == 0) = false := by rw [beq_eq_false_iff_ne]; omega
  generalize pk kd 5 = x at *
  have t6 : (n : Int) = 0 := by omega
  have JPt := hide (part_any what y w1 h5 h6)
  have hk4 : pk what 4 < 4 := pk_lt what (by omega)
  generalize pk what 4 = kk at *
  have H := hide h
  have HR := hide hroom
  have HA := hide (And.intro hA (And.intro hB hA0))
  clear h hroom x1 h1 h2 h5 h6 hx hA hB hA0
  clear hnn
  obtain ⟨⟨pa, pb⟩, hpq⟩ : ∃ q, q = takeE gs fr := ⟨_, rfl⟩
  obtain ⟨CC, hCC⟩ : ∃ c, c = spC gs fr C kk y := ⟨_, rfl⟩
  rw [← hpq, ← hCC]
  have HPQ := hide hpq
  have HCC := hide hCC
  clear hpq hCC
  go_enter Tryz.func21, Tryz.ntmps21
  go_upto_region 1 with fail
  rw [← hw1, ← hkx]
  clear hw1 hkx
  go_wp2_with fail
  refine J5.out.mono ?_
  rintro e w5 ⟨rfl, h5⟩
  rw [h5]
  clear h5 w5 J5
  go_wp2_with fail
  refine JPt.out.mono ?_
  rintro e w2 ⟨vp, rfl, ho2, hb2⟩
  obtain ⟨ap, np, cp, rfl⟩ := own_slice ho2
  obtain ⟨w3, hw3⟩ : ∃ X, X = w2.alloc (.cells #[.int .i64 ((kk : Int) + 1), .slice ap np cp] 32) := ⟨_, rfl⟩
  have JS := hide (H.out.spawn_oneF hN HR.out (below_on B1.out hb2) kk hk4 y ap np cp (own_lower ho2 B1.out.size) hw3)
  clear ho2 hb2 JPt H HR
  rw [← HPQ.out, ← HCC.out] at JS
  clear HPQ HCC
  dsimp only at JS
  go_wp2_with fail
  rw [← hw3]
  refine JS.out.mono ?_
  rintro e w4 ⟨rfl, own4, q1, q2⟩
  have HX4 := hide (And.intro q1 q2)
  clear q1 q2
  obtain ⟨w5, hw5⟩ : ∃ X, X = w4.alloc (.cells #[.int .i64 (pa : Int), .int .i64 (pb : Int)] 29) := ⟨_, rfl⟩
  have x5 : w5.heap[w4.heap.size]? = some (.cells #[.int .i64 (pa : Int), .int .i64 (pb : Int)] 29 (0, 0)) := by
    rw [hw5]
    exact heap_alloc_new w4 _
  have B5 : Hid (Below w4.heap.size w4 w5) := hw5 ▸ below_alloc w4 _
  obtain ⟨ky, hky⟩ : ∃ k, k = w4.heap.size := ⟨_, rfl⟩
  rw [← hky] at x5
  obtain ⟨z1, z2⟩ := kx_cells x5 (Below.refl _ w5)
  have HSZ : Hid (B ≤ w5.heap.size + 1) := by
    have q1 := HX4.out.2.2.size
    have q2 := B5.out.size
    have q3 := HA.out.2.1
    show _ ≤ _
    omega
  have HO : Hid ((w5.alloc (.cells #[.int .i64 (pa : Int), .int .i64 (pb : Int)] 29)).ownsRow B 29 2 (.slice ag n cg) n (ec A)) := by
    have := HA.out.1
    exact own_later (own_later (HX4.out.2.mv.own this (fun k e e2 => e2 (HA.out.2.2 k e))) B5.out) (below_alloc w5 _)
  have HF : Hid (∀ (v9 : Value) (w9 : World), w9.ownsRow B 29 2 v9 (n + 1) (ec A ++ [.int .i64 (pa : Int), .int .i64 (pb : Int)]) → (w5.alloc (.cells #[.int .i64 (pa : Int), .int .i64 (pb : Int)] 29)).grownBy w9 (Value.slice ag n cg).ownBlock → (v9.ownBlock = (Value.slice ag n cg).ownBlock ∨ v9.ownBlock = some (w5.heap.size + 1)) → Sp w own gw N B (.slice ag n cg) (takeG gs fr) (takeF fr) CC (A ++ [(pa, pb)]) v9 w9) := fun v9 w9 k1 k2 k3 => by
    have e := HNN.out
    subst e
    exact sp_more HA.out.2.1 HA.out.1 HA.out.2.2 HX4.out.1 HX4.out.2 B5.out k1 k2 k3
  clear HX4 JS hw3 B5 x5 b0 b2 b3
  go_upto_region 3 with fail
  rw [← hw5, ← hky]
  clear hw5 hky
  go_wp2_with (at_builtin; refine wpList_append_own_at _ rfl _ _ 39 rfl B 29 i29 (.agg #[.int .i64 0, .int .i64 0]) 2 16 Tryz.underlying39 hi29 hy0 hy1 hy2 rfl (by decide) _ n (ec A) rfl HO.out ⟨w5.heap.size, 0, none⟩ 1 1 [.int .i64 (pa : Int), .int .i64 (pb : Int)] rfl rfl ?n1 ?n2 ?n3 ?n4 ?n5 ?_)
  case n1 =>
    intro j u hj
    match j, hj with
    | 0, hj => simp at hj; subst hj; simp [Addr.add]
    | 1, hj => simp at hj; subst hj; simp [Addr.add]
  case n2 => first | exact ⟨rfl, rfl⟩ | (intro u hu; simp at hu; rcases hu with rfl | rfl <;> rfl)
  case n3 => unfold maxLen; omega
  case n4 => omega
  case n5 => first | exact HSZ.out | (simp; exact HSZ.out)
  intro v9 w9 ho9 hg9 _ ha9
  have H9 := hide (HF.out v9 w9 ho9 hg9 (by simpa using ha9))
  obtain ⟨a9, c9, rfl⟩ := own_len ho9
  clear ho9 hg9 ha9 HF HO HSZ z1 z2
  go_wp2_with fail
  go_ret2
  exact ⟨_, rfl, H9.out⟩
set_option maxHeartbeats 8000000 in
theorem does0_fullE (h : Wn w own gw N usualK gs fr C) (_hN : N ≤ 800000) (hroom : ¬ (fr ≠ [] ∨ gs.length < 200)) (A : List (Nat × Nat)) (B : Nat) (v : Value) (hA : w.ownsRow B 29 2 v A.length (ec A)) (_hn : A.length ≤ 1000) (hB : B ≤ w.heap.size) (hA0 : ∀ k, v.ownBlock = some k → own k = 0) (kd who what y : Int) (h1 : -9223372036854775808 ≤ kd) (h2 : kd ≤ 9223372036854775807) (h5 : -9223372036854775808 ≤ what) (h6 : what ≤ 9223372036854775807) (hx : pk kd 5 ≠ 0) (hA00 : A.length = 0) :
    Calls Tryz.prog 21 #[.pointer (some ⟨gw, 0, none⟩), v, .agg #[.int .i64 kd, .int .i64 who, .int .i64 what, .int .i64 y]] w fun e w' => e = .returned (.tuple #[v, .int .i64 40]) ∧ Fd w own gw N gs fr C w' := by
  obtain ⟨i29, hi29, hy0, hy1, hy2⟩ := info_parts info32
  obtain ⟨ag, cg, rfl⟩ := own_len hA
  obtain ⟨n, hnn⟩ : ∃ n, n = A.length := ⟨_, rfl⟩
  have HNN := hide hnn
  rw [← hnn] at hA hA0 ⊢
  obtain ⟨w1, hw1⟩ : ∃ X, X = w.alloc (.cells #[.int .i64 kd, .int .i64 who, .int .i64 what, .int .i64 y] 69) := ⟨_, rfl⟩
  have B1 : Hid (Below w.heap.size w w1) := hw1 ▸ below_alloc w _
  have x1 : w1.heap[w.heap.size]? = some (.cells #[.int .i64 kd, .int .i64 who, .int .i64 what, .int .i64 y] 69 (0, 0)) := by rw [hw1]; exact heap_alloc_new w _
  obtain ⟨kx, hkx⟩ : ∃ k, k = w.heap.size := ⟨_, rfl⟩
  rw [← hkx] at x1
  obtain ⟨b0, -, b2, b3⟩ := box4 x1 (Below.refl _ w1)
  have J5 := hide (pick_any kd 5 w1 h1 h2 (by omega) (by omega))
  have t5 : ((pk kd 5 : Int) == 0) = false := by rw [beq_eq_false_iff_ne]; omega
  generalize pk kd 5 = x at *
  have t6 : (n : Int) = 0 := by omega
  have JPt := hide (part_any what y w1 h5 h6)
  have hk4 : pk what 4 < 4 := pk_lt what (by omega)
  generalize pk what 4 = kk at *
  have H := hide h
  have HR := hide hroom
  have HA := hide (And.intro hA (And.intro hB hA0))
  clear h hroom x1 h1 h2 h5 h6 hx hA hB hA0
  clear hnn
  go_enter Tryz.func21, Tryz.ntmps21
  go_upto_region 1 with fail
  rw [← hw1, ← hkx]
  clear hw1 hkx
  go_wp2_with fail
  refine J5.out.mono ?_
  rintro e w5 ⟨rfl, h5⟩
  rw [h5]
  clear h5 w5 J5
  go_wp2_with fail
  refine JPt.out.mono ?_
  rintro e w2 ⟨vp, rfl, ho2, hb2⟩
  obtain ⟨ap, np, cp, rfl⟩ := own_slice ho2
  obtain ⟨w3, hw3⟩ : ∃ X, X = w2.alloc (.cells #[.int .i64 ((kk : Int) + 1), .slice ap np cp] 32) := ⟨_, rfl⟩
  have JS := hide (H.out.spawn_noneF HR.out (below_on B1.out hb2) kk hk4 ap np cp (by obtain ⟨x, z, e⟩ := own_len ho2; simp only [Value.slice.injEq] at e; exact e.2.1) hw3)
  clear ho2 hb2 JPt H HR
  unfold ev at JS
  go_wp2_with fail
  rw [← hw3]
  refine JS.out.mono ?_
  rintro e w4 ⟨rfl, own4, q1, q2⟩
  have HX4 := hide (And.intro q1 q2)
  clear q1 q2
  go_wp2_with fail
  go_ret2
  exact ⟨rfl, _, (HX4.out.1.later (below_alloc w4 _)).up (by omega), HX4.out.2.trans (Wk.later (below_alloc w4 _))⟩
end
end Go.Proofs.YtafmiolehlagkaaGreat

/-
  World: does, whole: what comes of a deed is a function of who lives with what and of who was there.
-/
namespace Go.Proofs.YtafmiolehlagkaaGreat
open Go.RowKit
set_option maxRecDepth 100000
abbrev Sd := List Nat × List Nat × Co × List (Nat × Nat)
def deed (s : Sd) (kd who what y : Int) : Int × Sd :=
  if pk kd 5 = 0 ∨ s.2.2.2.length = 0 then
    (if s.2.1 ≠ [] ∨ s.1.length < 200 then (0, takeG s.1 s.2.1, takeF s.2.1, spC s.1 s.2.1 s.2.2.1 (pk what 4) y, s.2.2.2 ++ [takeE s.1 s.2.1]) else (40, s))
  else if pk kd 5 = 1 then ((desF s.1 s.2.1 s.2.2.1 (((s.2.2.2.getD (pk who s.2.2.2.length) (0, 0)).1 : Int), ((s.2.2.2.getD (pk who s.2.2.2.length) (0, 0)).2 : Int))).1, (desF s.1 s.2.1 s.2.2.1 (((s.2.2.2.getD (pk who s.2.2.2.length) (0, 0)).1 : Int), ((s.2.2.2.getD (pk who s.2.2.2.length) (0, 0)).2 : Int))).2.1, (desF s.1 s.2.1 s.2.2.1 (((s.2.2.2.getD (pk who s.2.2.2.length) (0, 0)).1 : Int), ((s.2.2.2.getD (pk who s.2.2.2.length) (0, 0)).2 : Int))).2.2.1, (desF s.1 s.2.1 s.2.2.1 (((s.2.2.2.getD (pk who s.2.2.2.length) (0, 0)).1 : Int), ((s.2.2.2.getD (pk who s.2.2.2.length) (0, 0)).2 : Int))).2.2.2, s.2.2.2)
  else if pk kd 5 = 2 then ((addC s.2.2.1 (((s.2.2.2.getD (pk who s.2.2.2.length) (0, 0)).1 : Int), ((s.2.2.2.getD (pk who s.2.2.2.length) (0, 0)).2 : Int)) (pk what 4) y).1, s.1, s.2.1, (addC s.2.2.1 (((s.2.2.2.getD (pk who s.2.2.2.length) (0, 0)).1 : Int), ((s.2.2.2.getD (pk who s.2.2.2.length) (0, 0)).2 : Int)) (pk what 4) y).2, s.2.2.2)
  else if pk kd 5 = 3 then ((remC s.2.2.1 (((s.2.2.2.getD (pk who s.2.2.2.length) (0, 0)).1 : Int), ((s.2.2.2.getD (pk who s.2.2.2.length) (0, 0)).2 : Int)) (pk what 4)).1, s.1, s.2.1, (remC s.2.2.1 (((s.2.2.2.getD (pk who s.2.2.2.length) (0, 0)).1 : Int), ((s.2.2.2.getD (pk who s.2.2.2.length) (0, 0)).2 : Int)) (pk what 4)).2, s.2.2.2)
  else ((setF s.2.2.1 (((s.2.2.2.getD (pk who s.2.2.2.length) (0, 0)).1 : Int), ((s.2.2.2.getD (pk who s.2.2.2.length) (0, 0)).2 : Int)) (pk what 4) y).1, s.1, s.2.1, (setF s.2.2.1 (((s.2.2.2.getD (pk who s.2.2.2.length) (0, 0)).1 : Int), ((s.2.2.2.getD (pk who s.2.2.2.length) (0, 0)).2 : Int)) (pk what 4) y).2, s.2.2.2)
section
variable {w w' : World} {own : Nat → Nat} {gw N B : Nat} {gs fr gs' fr' : List Nat} {C C' : Co} {A : List (Nat × Nat)} {v : Value}
theorem Fd.sp (h : Fd w own gw N gs' fr' C' w') (hA : w.ownsRow B 29 2 v A.length (ec A)) (hA0 : ∀ k, v.ownBlock = some k → own k = 0) : Sp w own gw N B v gs' fr' C' A v w' := by
  obtain ⟨own', r1, r2⟩ := h
  exact ⟨own', r1, r2.1, r2.2.mono (fun _ _ e => .inl e), r2.mv.own hA (fun k e e2 => e2 (hA0 k e)), fun k e => (r2.1 k (hA.lt k e).2).trans (hA0 k e), .inl rfl⟩
theorem does_any (h : Wn w own gw N usualK gs fr C) (hN : N ≤ 800000) (hA : w.ownsRow B 29 2 v A.length (ec A)) (hn : A.length ≤ 1000) (hB : B ≤ w.heap.size) (hA0 : ∀ k, v.ownBlock = some k → own k = 0) (hal : ∀ p ∈ A, InB ((p.1 : Int), (p.2 : Int))) (kd who what y : Int) (h1 : -9223372036854775808 ≤ kd) (h2 : kd ≤ 9223372036854775807) (h3 : -9223372036854775808 ≤ who) (h4 : who ≤ 9223372036854775807) (h5 : -9223372036854775808 ≤ what) (h6 : what ≤ 9223372036854775807) :
    Calls Tryz.prog 21 #[.pointer (some ⟨gw, 0, none⟩), v, .agg #[.int .i64 kd, .int .i64 who, .int .i64 what, .int .i64 y]] w fun e w' => ∃ v', e = .returned (.tuple #[v', .int .i64 (deed (gs, fr, C, A) kd who what y).1]) ∧ Sp w own gw N B v (deed (gs, fr, C, A) kd who what y).2.1 (deed (gs, fr, C, A) kd who what y).2.2.1 (deed (gs, fr, C, A) kd who what y).2.2.2.1 (deed (gs, fr, C, A) kd who what y).2.2.2.2 v' w' := by
  have hp5 : pk kd 5 < 5 := pk_lt kd (by omega)
  by_cases c0 : pk kd 5 = 0 ∨ A.length = 0
  · by_cases cr : fr ≠ [] ∨ gs.length < 200
    · have e0 : deed (gs, fr, C, A) kd who what y = (0, takeG gs fr, takeF fr, spC gs fr C (pk what 4) y, A ++ [takeE gs fr]) := by unfold deed; rw [if_pos c0, if_pos cr]
      rw [e0]
      by_cases cz : pk kd 5 = 0
      · exact does0_room h hN cr A B v hA hn hB hA0 kd who what y h1 h2 h5 h6 cz
      · exact does0_roomE h hN cr A B v hA hn hB hA0 kd who what y h1 h2 h5 h6 cz (c0.resolve_left cz)
    · have e0 : deed (gs, fr, C, A) kd who what y = (40, gs, fr, C, A) := by unfold deed; rw [if_pos c0, if_neg cr]
      rw [e0]
      by_cases cz : pk kd 5 = 0
      · refine (does0_full h hN cr A B v hA hn hB hA0 kd who what y h1 h2 h5 h6 cz).mono ?_
        rintro e w' ⟨rfl, hf⟩
        exact ⟨v, rfl, hf.sp hA hA0⟩
      · refine (does0_fullE h hN cr A B v hA hn hB hA0 kd who what y h1 h2 h5 h6 cz (c0.resolve_left cz)).mono ?_
        rintro e w' ⟨rfl, hf⟩
        exact ⟨v, rfl, hf.sp hA hA0⟩
  · have hz : pk kd 5 ≠ 0 := fun e => c0 (.inl e)
    have hpos : 0 < A.length := by have : A.length ≠ 0 := fun e => c0 (.inr e); omega
    unfold deed
    dsimp only
    rw [if_neg c0]
    by_cases k1 : pk kd 5 = 1
    · rw [if_pos k1]
      refine (doesF1 h hN A B v hA hn hpos hA0 hal kd who what y h1 h2 k1 h3 h4 h5 h6).mono ?_
      rintro e w' ⟨rfl, hf⟩
      exact ⟨v, rfl, hf.sp hA hA0⟩
    · rw [if_neg k1]
      by_cases k2 : pk kd 5 = 2
      · rw [if_pos k2]
        refine (doesF2 h hN A B v hA hn hpos hA0 hal kd who what y h1 h2 k2 h3 h4 h5 h6).mono ?_
        rintro e w' ⟨rfl, hf⟩
        exact ⟨v, rfl, hf.sp hA hA0⟩
      · rw [if_neg k2]
        by_cases k3 : pk kd 5 = 3
        · rw [if_pos k3]
          refine (doesF3 h hN A B v hA hn hpos hA0 hal kd who what y h1 h2 k3 h3 h4 h5 h6).mono ?_
          rintro e w' ⟨rfl, hf⟩
          exact ⟨v, rfl, hf.sp hA hA0⟩
        · rw [if_neg k3]
          refine (doesF4 h hN A B v hA hn hpos hA0 hal kd who what y h1 h2 (by omega) h3 h4 h5 h6).mono ?_
          rintro e w' ⟨rfl, hf⟩
          exact ⟨v, rfl, hf.sp hA hA0⟩
end
end Go.Proofs.YtafmiolehlagkaaGreat

/-
  World: grown: a world behind some deeds.
-/
namespace Go.Proofs.YtafmiolehlagkaaGreat
open Go.RowKit
set_option maxRecDepth 100000
def dd (s : Sd) (d : Dd) : Sd := (deed s d.1 d.2.1 d.2.2.1 d.2.2.2).2
def runD (s : Sd) (ds : List Dd) : Sd := ds.foldl dd s
def none4 : Sd := ([], [], fun _ => none, [])
theorem deed_all (s : Sd) (kd who what y : Int) : (deed s kd who what y).2.2.2.2 = s.2.2.2 ∨ (deed s kd who what y).2.2.2.2 = s.2.2.2 ++ [takeE s.1 s.2.1] := by
  unfold deed
  split
  · split
    · exact .inr rfl
    · exact .inl rfl
  · left
    split
    · rfl
    · split
      · rfl
      · split <;> rfl
/-- A world on its way. -/
def Gw (w W : World) (own : Nat → Nat) (gw i : Nat) (v : Value) (s : Sd) : Prop :=
  Wn W own gw (4 * i) usualK s.1 s.2.1 s.2.2.1 ∧ W.ownsRow w.heap.size 29 2 v s.2.2.2.length (ec s.2.2.2) ∧ (∀ k, v.ownBlock = some k → own k = 0) ∧ s.2.2.2.length ≤ i ∧ (∀ p ∈ s.2.2.2, InB ((p.1 : Int), (p.2 : Int))) ∧ Below w.heap.size w W ∧ ∀ k, k < w.heap.size → own k = 0
section
variable {w W w' : World} {own : Nat → Nat} {gw i : Nat} {v v' : Value} {s : Sd}
theorem Gw.step (h : Gw w W own gw i v s) (d : Dd) (hs : Sp W own gw (4 * i) w.heap.size v (dd s d).1 (dd s d).2.1 (dd s d).2.2.1 (dd s d).2.2.2 v' w') : ∃ own', Gw w w' own' gw (i + 1) v' (dd s d) := by
  obtain ⟨h1, h2, h3, h4, h5, h6, h7⟩ := h
  obtain ⟨own', r1, r2, r3, r4, r5, r6⟩ := hs
  have hok := h1.ok
  have hsz := h6.size
  have ha := deed_all s d.1 d.2.1 d.2.2.1 d.2.2.2
  have ha' : (dd s d).2.2.2 = s.2.2.2 ∨ (dd s d).2.2.2 = s.2.2.2 ++ [takeE s.1 s.2.1] := ha
  refine ⟨own', r1.up (by omega), r4, r5, ?_, fun p hp => ?_, h6.trans (r3.below h6.size (fun k e => ?_)), fun k hk => (r2 k (by omega)).trans (h7 k hk)⟩
  · rcases ha' with e | e <;> rw [e]
    · omega
    · simp; omega
  · rcases ha' with e | e
    · rw [e] at hp
      exact h5 p hp
    · rw [e] at hp
      rcases List.mem_append.1 hp with hp | hp
      · exact h5 p hp
      · rw [List.mem_singleton.1 hp]
        exact take_inb hok
  · rcases e with e | e
    · exact Nat.le_of_not_lt (fun hk => e.1 (h7 k hk))
    · exact (h2.lt k e).1
end
theorem runD_step (s : Sd) (ds : List Dd) (i : Nat) (hi : i < ds.length) : runD s (ds.take (i + 1)) = dd (runD s (ds.take i)) ds[i] := by
  unfold runD
  rw [List.take_succ_eq_append_getElem hi, List.foldl_append]
  rfl
set_option maxHeartbeats 4000000 in
theorem grown_any (va : Value) (ds : List Dd) (w : World) (ha : De w va ds) (hfit : ∀ d ∈ ds, DdOk d) : Calls Tryz.prog 17 #[va] w fun e w' => ∃ (gw : Nat) (v : Value) (own : Nat → Nat) (i : Nat), e = .returned (.tuple #[.pointer (some ⟨gw, 0, none⟩), v]) ∧ i ≤ 400 ∧ Gw w w' own gw i v (runD none4 (ds.take 400)) := by
  obtain ⟨ao, c, rfl, hl1, hl2, hcl⟩ := ha
  have hcap : c ≤ 9223372036854775807 := by unfold maxLen at hl2; omega
  have HCL := hide hcl
  have HFT := hide hfit
  have JU := hide (usual_any w)
  have JN := hide (fun (W : World) (v : Value) (h : Kr W v usualK) => wn_new h usual_may)
  obtain ⟨n, hn⟩ : ∃ n, n = ds.length := ⟨_, rfl⟩
  have HN := hide hn
  rw [← hn] at hl1 ⊢
  clear hcl hfit hn
  go_enter Tryz.func17, Tryz.ntmps17
  go_wp2_with fail
  refine JU.out.mono ?_
  rintro e w1 ⟨vk, rfl, hk1, hb1⟩
  have J2 := hide (JN.out w1 vk (hk1 w1 (Below.refl _ _)))
  have HB1 := hide hb1
  clear hk1 hb1 JU
  go_wp2_with fail
  refine J2.out.mono ?_
  rintro e w2 ⟨gw, rfl, ⟨own, ho, hwn⟩, hb2⟩
  have HG : Hid (Gw w w2 own gw 0 (.slice none 0 0) none4) := ⟨hwn, World.ownsRow_nil _ _ _ _, (fun k e => by simp [Value.ownBlock] at e), Nat.le_refl _, (fun p hp => by cases hp), below_on HB1.out hb2, fun k hk => ho k (Nat.lt_of_lt_of_le hk HB1.out.size)⟩
  clear ho hwn hb2 J2 JN HB1
  go_wp2_with fail
  go_loopg [6, 7] 400 (fun q v6 v7 wr => ∃ (i : Nat) (own : Nat → Nat), q = 400 - i ∧ i ≤ 400 ∧ i ≤ n ∧ v7 = .int .i64 (i : Int) ∧ Hid (Gw w wr own gw i v6 (runD none4 (ds.take i))))
  case atStart => exact ⟨0, own, rfl, by omega, by omega, rfl, HG⟩
  case round =>
    clear HG
    obtain ⟨i, own, hq, hi, hin, rfl, HG⟩ := hrel
    by_cases h1 : i < n
    · have h1' : (i : Int) < (n : Int) := by omega
      by_cases h4 : i < 400
      · have h4' : (i : Int) < 400 := by omega
        have hid : i < ds.length := by have := HN.out; omega
        obtain ⟨g, o, rfl, c0, c1, c2, c3⟩ := HCL.out i hid
        obtain ⟨f0, f1, f2, f3⟩ := HFT.out _ (List.getElem_mem hid)
        have hb := HG.out.2.2.2.2.2.1
        have d0 := (hb.cell (World.block_lt_of_cell? _ _ c0)).trans c0
        have d1 := (hb.cell (World.block_lt_of_cell? _ _ c1)).trans c1
        have d2 := (hb.cell (World.block_lt_of_cell? _ _ c2)).trans c2
        have d3 := (hb.cell (World.block_lt_of_cell? _ _ c3)).trans c3
        have JD := hide (does_any HG.out.1 (by omega) HG.out.2.1 (by have := HG.out.2.2.2.1; omega) hb.size HG.out.2.2.1 HG.out.2.2.2.2.1 ds[i].1 ds[i].2.1 ds[i].2.2.1 ds[i].2.2.2 f0.1 f0.2 f1.1 f1.2 f2.1 f2.2)
        obtain ⟨a6, c6, hv6⟩ := own_len HG.out.2.1
        have HST : Hid (∀ v' w', Sp wr own gw (4 * i) w.heap.size u6 (dd (runD none4 (ds.take i)) ds[i]).1 (dd (runD none4 (ds.take i)) ds[i]).2.1 (dd (runD none4 (ds.take i)) ds[i]).2.2.1 (dd (runD none4 (ds.take i)) ds[i]).2.2.2 v' w' → ∃ own', Hid (Gw w w' own' gw (i + 1) v' (runD none4 (ds.take (i + 1))))) := fun v' w' hs => by
          obtain ⟨own', k⟩ := HG.out.step ds[i] hs
          rw [← runD_step none4 ds i hid] at k
          exact ⟨own', k⟩
        clear c0 c1 c2 c3 hb f0 f1 f2 f3
        clear hv6 a6 c6
        have JE : Hid (∃ zz : Int, Calls Tryz.prog 21 #[.pointer (some ⟨gw, 0, none⟩), u6, .agg #[.int .i64 ds[i].1, .int .i64 ds[i].2.1, .int .i64 ds[i].2.2.1, .int .i64 ds[i].2.2.2]] wr fun e w' => ∃ v', e = .returned (.tuple #[v', .int .i64 zz]) ∧ ∃ own', Hid (Gw w w' own' gw (i + 1) v' (runD none4 (ds.take (i + 1))))) := by
          refine ⟨(deed (runD none4 (ds.take i)) ds[i].1 ds[i].2.1 ds[i].2.2.1 ds[i].2.2.2).1, ?_⟩
          refine JD.out.mono ?_
          rintro e w5 ⟨v5, rfl, hsp⟩
          exact ⟨v5, rfl, HST.out v5 w5 hsp⟩
        clear JD HST
        obtain ⟨zz, je⟩ := JE
        have JF := hide je
        clear je
        generalize hm : runD none4 (ds.take (i + 1)) = sN at *
        have HM := hide hm
        clear hm
        obtain ⟨⟨y0, y1, y2, y3⟩, hy⟩ : ∃ q, q = ds[i] := ⟨_, rfl⟩
        rw [← hy] at JF d0 d1 d2 d3
        have HY := hide hy
        clear hy
        dsimp only at JF d0 d1 d2 d3
        go_wp2_with fail
        refine JF.out.mono ?_
        rintro e w5 ⟨v5, rfl, own5, HG5⟩
        clear JF
        go_wp2_with fail
        go_roundg (400 - (i + 1))
        case measure => omega
        case rel => exact ⟨i + 1, own5, rfl, h4, h1, by simp, by rw [HM.out]; exact HG5⟩
      · obtain rfl : i = 400 := by omega
        have HGF : Hid (Gw w wr own gw 400 u6 (runD none4 (ds.take 400))) := HG
        clear HG
        go_wp2_with fail
        go_ret2
        exact ⟨_, _, own, 400, rfl, Nat.le_refl _, HGF.out⟩
    · obtain rfl : i = n := by omega
      have h1' : ¬ (i : Int) < (i : Int) := by omega
      have HGF : Hid (Gw w wr own gw i u6 (runD none4 (ds.take 400))) := by
        have e : ds.take 400 = ds.take i := by
          have := HN.out
          rw [List.take_of_length_le (by omega), List.take_of_length_le (by omega)]
        rw [e]
        exact HG
      clear HG
      go_wp2_with fail
      go_ret2
      first | exact ⟨_, _, own, i, rfl, hi, HGF.out⟩ | exact ⟨_, _, rfl, own, i, hi, HGF.out⟩ | exact ⟨_, _, own, rfl, i, hi, HGF.out⟩
end Go.Proofs.YtafmiolehlagkaaGreat

/-
  World: three worlds beside one another, each with its list of all.
-/
namespace Go.Proofs.YtafmiolehlagkaaGreat
open Go.RowKit
set_option maxRecDepth 100000
def Tri (w W : World) (o : Nat → Nat → Nat) (g : Nat → Nat) (v : Nat → Value) (N L : Nat) (s : Nat → Sd) : Prop :=
  (∀ i, i < 3 → Wn W (o i) (g i) N usualK (s i).1 (s i).2.1 (s i).2.2.1) ∧
  (∀ i, i < 3 → W.ownsRow w.heap.size 29 2 (v i) (s i).2.2.2.length (ec (s i).2.2.2) ∧ (s i).2.2.2.length ≤ L ∧ ∀ p ∈ (s i).2.2.2, InB ((p.1 : Int), (p.2 : Int))) ∧
  (∀ i j, i < 3 → j < 3 → ∀ k, (v i).ownBlock = some k → o j k = 0) ∧
  (∀ i j, i < 3 → j < 3 → i ≠ j → ∀ k, (v i).ownBlock = some k → (v j).ownBlock ≠ some k) ∧
  (∀ i j, i < 3 → j < 3 → i ≠ j → ∀ k, k < W.heap.size → o i k ≠ 0 → o i k ≠ 2 → o j k = 0) ∧
  (∀ i, i < 3 → ∀ k, k < w.heap.size → o i k = 0) ∧ Below w.heap.size w W
section
variable {w W W' : World} {o o' : Nat → Nat → Nat} {g g' : Nat → Nat} {v v' : Nat → Value} {N L : Nat} {s s' : Nat → Sd}
theorem Tri.congr (h : Tri w W o g v N L s) (h1 : ∀ i, i < 3 → o' i = o i) (h2 : ∀ i, i < 3 → g' i = g i) (h3 : ∀ i, i < 3 → v' i = v i) (h4 : ∀ i, i < 3 → s' i = s i) : Tri w W o' g' v' N L s' := by
  obtain ⟨a1, a2, a3, a4, a5, a6, a7⟩ := h
  refine ⟨fun i hi => ?_, fun i hi => ?_, fun i j hi hj => ?_, fun i j hi hj => ?_, fun i j hi hj => ?_, fun i hi => ?_, a7⟩
  · rw [h1 i hi, h2 i hi, h4 i hi]; exact a1 i hi
  · rw [h3 i hi, h4 i hi]; exact a2 i hi
  · rw [h3 i hi, h1 j hj]; exact a3 i j hi hj
  · rw [h3 i hi, h3 j hj]; exact a4 i j hi hj
  · rw [h1 i hi, h1 j hj]; exact a5 i j hi hj
  · rw [h1 i hi]; exact a6 i hi
theorem Tri.later (h : Tri w W o g v N L s) (hb : Below W.heap.size W W') : Tri w W' (fun i => rel (o i) W 0) g v N L s := by
  obtain ⟨a1, a2, a3, a4, a5, a6, a7⟩ := h
  refine ⟨fun i hi => (a1 i hi).later hb, fun i hi => ⟨own_later (a2 i hi).1 hb, (a2 i hi).2⟩, fun i j hi hj k e => (rel_old ((a2 i hi).1.lt k e).2).trans (a3 i j hi hj k e), a4, fun i j hi hj hij k hk e1 e2 => ?_, fun i hi k hk => (rel_old (Nat.lt_of_lt_of_le hk a7.size)).trans (a6 i hi k hk), below_on a7 hb⟩
  dsimp only at e1 e2 ⊢
  by_cases c : k < W.heap.size
  · rw [rel_old c] at e1 e2 ⊢
    exact a5 i j hi hj hij k c e1 e2
  · exact rel_new (by omega)
/-- One of them does a deed. -/
theorem Tri.turn (h : Tri w W o g v N L s) (i : Nat) (hi : i < 3) (d : Dd) (vi : Value) (hs : Sp W (o i) (g i) N w.heap.size (v i) (dd (s i) d).1 (dd (s i) d).2.1 (dd (s i) d).2.2.1 (dd (s i) d).2.2.2 vi W') :
    ∃ o', Tri w W' o' g (fun j => if j = i then vi else v j) (N + 4) (L + 1) (fun j => if j = i then dd (s i) d else s j) := by
  obtain ⟨a1, a2, a3, a4, a5, a6, a7⟩ := h
  obtain ⟨own', r1, r2, r3, r4, r5, r6⟩ := hs
  have hok := (a1 i hi).ok
  have ha' : (dd (s i) d).2.2.2 = (s i).2.2.2 ∨ (dd (s i) d).2.2.2 = (s i).2.2.2 ++ [takeE (s i).1 (s i).2.1] := deed_all (s i) d.1 d.2.1 d.2.2.1 d.2.2.2
  have hsz := r3.size
  have hB := a7.size
  have hlt : ∀ j, j < 3 → ∀ k, (v j).ownBlock = some k → w.heap.size ≤ k ∧ k < W.heap.size := fun j hj k e => (a2 j hj).1.lt k e
  have hnot : ∀ j, j < 3 → j ≠ i → ∀ k, (v j).ownBlock = some k → ¬ ((o i k ≠ 0 ∧ o i k ≠ 2) ∨ (v i).ownBlock = some k) := fun j hj hji k e c => by
    rcases c with c | c
    · exact c.1 (a3 j i hj hi k e)
    · exact a4 j i hj hi hji k e c
  refine ⟨fun j => if j = i then own' else rel (o j) W 0, fun j hj => ?_, fun j hj => ?_, fun j l hj hl k e => ?_, fun j l hj hl hjl k e => ?_, fun j l hj hl hjl k hk e1 e2 => ?_, fun j hj k hk => ?_, ?_⟩
  · by_cases c : j = i
    · subst c
      simp only [if_true]
      exact r1
    · simp only [if_neg c]
      refine ((a1 j hj).frame r3 (fun k hk e => ?_)).up (by omega)
      rcases e with e | e
      · exact a5 i j hi hj (fun x => c x.symm) k hk e.1 e.2
      · exact a3 i j hi hj k e
  · by_cases c : j = i
    · subst c
      simp only [if_true]
      refine ⟨r4, ?_, fun p hp => ?_⟩
      · rcases ha' with e | e <;> rw [e]
        · have := (a2 j hj).2.1; omega
        · have := (a2 j hj).2.1; simp; omega
      · rcases ha' with e | e
        · rw [e] at hp
          exact (a2 j hj).2.2 p hp
        · rw [e] at hp
          rcases List.mem_append.1 hp with hp | hp
          · exact (a2 j hj).2.2 p hp
          · rw [List.mem_singleton.1 hp]
            exact take_inb hok
    · simp only [if_neg c]
      refine ⟨r3.own (a2 j hj).1 (hnot j hj c), ?_, (a2 j hj).2.2⟩
      have := (a2 j hj).2.1
      omega
  · dsimp only at e ⊢
    by_cases c : j = i
    · rw [if_pos c] at e
      by_cases c2 : l = i
      · rw [if_pos c2]
        exact r5 k e
      · rw [if_neg c2]
        rcases r6 with x | x
        · rw [x] at e
          exact (rel_old (hlt i hi k e).2).trans (a3 i l hi hl k e)
        · exact rel_new (x k e)
    · rw [if_neg c] at e
      by_cases c2 : l = i
      · rw [if_pos c2, r2 k (hlt j hj k e).2]
        exact a3 j i hj hi k e
      · rw [if_neg c2]
        exact (rel_old (hlt j hj k e).2).trans (a3 j l hj hl k e)
  · dsimp only at e ⊢
    by_cases c : j = i
    · rw [if_pos c] at e
      have c2 : l ≠ i := fun x => hjl (c.trans x.symm)
      rw [if_neg c2]
      intro x
      have hx := hlt l hl k x
      rcases r6 with y | y
      · rw [y] at e
        exact a4 i l hi hl (fun z => c2 z.symm) k e x
      · have := y k e
        omega
    · rw [if_neg c] at e
      by_cases c2 : l = i
      · rw [if_pos c2]
        intro x
        have hx := hlt j hj k e
        rcases r6 with y | y
        · rw [y] at x
          exact a4 j i hj hi c k e x
        · have := y k x
          omega
      · rw [if_neg c2]
        exact a4 j l hj hl hjl k e
  · dsimp only at e1 e2 ⊢
    by_cases c : j = i
    · have c2 : l ≠ i := fun x => hjl (c.trans x.symm)
      rw [if_pos c] at e1 e2
      rw [if_neg c2]
      by_cases c3 : k < W.heap.size
      · rw [r2 k c3] at e1 e2
        rw [rel_old c3]
        exact a5 i l hi hl (fun z => c2 z.symm) k c3 e1 e2
      · exact rel_new (by omega)
    · rw [if_neg c] at e1 e2
      by_cases c3 : k < W.heap.size
      · rw [rel_old c3] at e1 e2
        by_cases c2 : l = i
        · rw [if_pos c2, r2 k c3]
          exact a5 j i hj hi c k c3 e1 e2
        · rw [if_neg c2, rel_old c3]
          exact a5 j l hj hl hjl k c3 e1 e2
      · exact absurd (rel_new (by omega)) e1
  · dsimp only
    by_cases c : j = i
    · rw [if_pos c, r2 k (by omega)]
      exact a6 i hi k hk
    · rw [if_neg c, rel_old (by omega)]
      exact a6 j hj k hk
  · refine a7.trans (r3.below hB (fun k e => ?_))
    rcases e with e | e
    · exact Nat.le_of_not_lt (fun hk => e.1 (a6 i hi k hk))
    · exact (hlt i hi k e).1
end
def t3 {α : Type} (a b c : α) (i : Nat) : α := if i = 0 then a else if i = 1 then b else c
def Tr (w W : World) (oa ox oy : Nat → Nat) (ga gx gy : Nat) (va vx vy : Value) (N L : Nat) (sa sx sy : Sd) : Prop := Tri w W (t3 oa ox oy) (t3 ga gx gy) (t3 va vx vy) N L (t3 sa sx sy)
section
variable {w W W' : World} {oa ox oy : Nat → Nat} {ga gx gy : Nat} {va vx vy v' : Value} {N L : Nat} {sa sx sy : Sd}
theorem three (i : Nat) (h : i < 3) : i = 0 ∨ i = 1 ∨ i = 2 := by omega
theorem Tr.later (h : Tr w W oa ox oy ga gx gy va vx vy N L sa sx sy) (hb : Below W.heap.size W W') : Tr w W' (rel oa W 0) (rel ox W 0) (rel oy W 0) ga gx gy va vx vy N L sa sx sy := by
  refine (Tri.later h hb).congr (fun i hi => ?_) (fun i hi => rfl) (fun i hi => rfl) (fun i hi => rfl)
  rcases three i hi with rfl | rfl | rfl <;> rfl
theorem Tr.wn0 (h : Tr w W oa ox oy ga gx gy va vx vy N L sa sx sy) : Wn W oa ga N usualK sa.1 sa.2.1 sa.2.2.1 := h.1 0 (by omega)
theorem Tr.wn1 (h : Tr w W oa ox oy ga gx gy va vx vy N L sa sx sy) : Wn W ox gx N usualK sx.1 sx.2.1 sx.2.2.1 := h.1 1 (by omega)
theorem Tr.wn2 (h : Tr w W oa ox oy ga gx gy va vx vy N L sa sx sy) : Wn W oy gy N usualK sy.1 sy.2.1 sy.2.2.1 := h.1 2 (by omega)
theorem Tr.own0 (h : Tr w W oa ox oy ga gx gy va vx vy N L sa sx sy) : W.ownsRow w.heap.size 29 2 va sa.2.2.2.length (ec sa.2.2.2) := (h.2.1 0 (by omega)).1
theorem Tr.own1 (h : Tr w W oa ox oy ga gx gy va vx vy N L sa sx sy) : W.ownsRow w.heap.size 29 2 vx sx.2.2.2.length (ec sx.2.2.2) := (h.2.1 1 (by omega)).1
theorem Tr.own2 (h : Tr w W oa ox oy ga gx gy va vx vy N L sa sx sy) : W.ownsRow w.heap.size 29 2 vy sy.2.2.2.length (ec sy.2.2.2) := (h.2.1 2 (by omega)).1
theorem Tr.below (h : Tr w W oa ox oy ga gx gy va vx vy N L sa sx sy) : Below w.heap.size w W := h.2.2.2.2.2.2
/-- The deed of one of them. -/
theorem Tr.does0 (h : Tr w W oa ox oy ga gx gy va vx vy N L sa sx sy) (hN : N ≤ 800000) (hL : L ≤ 1000) (d : Dd) (hd : DdOk d) :
    Calls Tryz.prog 21 #[.pointer (some ⟨ga, 0, none⟩), va, .agg #[.int .i64 d.1, .int .i64 d.2.1, .int .i64 d.2.2.1, .int .i64 d.2.2.2]] W fun e W' => ∃ v', e = .returned (.tuple #[v', .int .i64 (deed sa d.1 d.2.1 d.2.2.1 d.2.2.2).1]) ∧ ∃ oa' ox' oy', Tr w W' oa' ox' oy' ga gx gy v' vx vy (N + 4) (L + 1) (dd sa d) sx sy := by
  obtain ⟨f0, f1, f2, f3⟩ := hd
  have a2 := h.2.1 0 (by omega)
  refine (does_any h.wn0 hN h.own0 (Nat.le_trans a2.2.1 hL) h.below.size (h.2.2.1 0 0 (by omega) (by omega)) a2.2.2 d.1 d.2.1 d.2.2.1 d.2.2.2 f0.1 f0.2 f1.1 f1.2 f2.1 f2.2).mono ?_
  rintro e W' ⟨v', rfl, hsp⟩
  obtain ⟨o', hT⟩ := Tri.turn h 0 (by omega) d v' hsp
  refine ⟨v', rfl, o' 0, o' 1, o' 2, hT.congr (fun i hi => ?_) (fun i hi => ?_) (fun i hi => ?_) (fun i hi => ?_)⟩ <;> rcases three i hi with rfl | rfl | rfl <;> rfl
theorem Tr.does1 (h : Tr w W oa ox oy ga gx gy va vx vy N L sa sx sy) (hN : N ≤ 800000) (hL : L ≤ 1000) (d : Dd) (hd : DdOk d) :
    Calls Tryz.prog 21 #[.pointer (some ⟨gx, 0, none⟩), vx, .agg #[.int .i64 d.1, .int .i64 d.2.1, .int .i64 d.2.2.1, .int .i64 d.2.2.2]] W fun e W' => ∃ v', e = .returned (.tuple #[v', .int .i64 (deed sx d.1 d.2.1 d.2.2.1 d.2.2.2).1]) ∧ ∃ oa' ox' oy', Tr w W' oa' ox' oy' ga gx gy va v' vy (N + 4) (L + 1) sa (dd sx d) sy := by
  obtain ⟨f0, f1, f2, f3⟩ := hd
  have a2 := h.2.1 1 (by omega)
  refine (does_any h.wn1 hN h.own1 (Nat.le_trans a2.2.1 hL) h.below.size (h.2.2.1 1 1 (by omega) (by omega)) a2.2.2 d.1 d.2.1 d.2.2.1 d.2.2.2 f0.1 f0.2 f1.1 f1.2 f2.1 f2.2).mono ?_
  rintro e W' ⟨v', rfl, hsp⟩
  obtain ⟨o', hT⟩ := Tri.turn h 1 (by omega) d v' hsp
  refine ⟨v', rfl, o' 0, o' 1, o' 2, hT.congr (fun i hi => ?_) (fun i hi => ?_) (fun i hi => ?_) (fun i hi => ?_)⟩ <;> rcases three i hi with rfl | rfl | rfl <;> rfl
theorem Tr.does2 (h : Tr w W oa ox oy ga gx gy va vx vy N L sa sx sy) (hN : N ≤ 800000) (hL : L ≤ 1000) (d : Dd) (hd : DdOk d) :
    Calls Tryz.prog 21 #[.pointer (some ⟨gy, 0, none⟩), vy, .agg #[.int .i64 d.1, .int .i64 d.2.1, .int .i64 d.2.2.1, .int .i64 d.2.2.2]] W fun e W' => ∃ v', e = .returned (.tuple #[v', .int .i64 (deed sy d.1 d.2.1 d.2.2.1 d.2.2.2).1]) ∧ ∃ oa' ox' oy', Tr w W' oa' ox' oy' ga gx gy va vx v' (N + 4) (L + 1) sa sx (dd sy d) := by
  obtain ⟨f0, f1, f2, f3⟩ := hd
  have a2 := h.2.1 2 (by omega)
  refine (does_any h.wn2 hN h.own2 (Nat.le_trans a2.2.1 hL) h.below.size (h.2.2.1 2 2 (by omega) (by omega)) a2.2.2 d.1 d.2.1 d.2.2.1 d.2.2.2 f0.1 f0.2 f1.1 f1.2 f2.1 f2.2).mono ?_
  rintro e W' ⟨v', rfl, hsp⟩
  obtain ⟨o', hT⟩ := Tri.turn h 2 (by omega) d v' hsp
  refine ⟨v', rfl, o' 0, o' 1, o' 2, hT.congr (fun i hi => ?_) (fun i hi => ?_) (fun i hi => ?_) (fun i hi => ?_)⟩ <;> rcases three i hi with rfl | rfl | rfl <;> rfl
end
end Go.Proofs.YtafmiolehlagkaaGreat
