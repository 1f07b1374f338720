/-
  Buffer: a command, cloned.
-/
import Derived.Test.YtiolaenkfhcajaaGreatBMap
import Derived.Test.YtiolaenkfhcajaaGreatWNum
import Derived.Test.YtiolaenkfhcajaaGreatWNew
namespace Go.Proofs.YtiolaenkfhcajaaGreat
open Go.RowKit
set_option maxRecDepth 100000
/-- A command: its numbers, where its lists lie. -/
structure Cm where
  op : Int
  ix : Int
  gn : Int
  kd : Int
  vs : Value
  ps : Value
def cmL (c : Cm) : List Value := [.int .i64 c.op, .int .i64 c.ix, .int .i64 c.gn, .int .i64 c.kd, c.vs, c.ps]
def cmV (c : Cm) : Value := .agg (cmL c).toArray
theorem results_cell1 {fn : Func} {p : Tmp} {ty : TypeId} (h : fn.results = #[.cell p ty]) (tmps : Array Value) (P : Program) (w : World) :
    (results fn tmps).run P w = ((asAddr (tmps.getD p undef)).run P w).andThen fun a w₁ => (loadVar ty a).run P w₁ := by
  simp only [results, h]
  simp [Sem.run_bind, Result.andThen]
theorem clone_nums_nil (w : World) : Calls Tryz.prog 29 #[.slice none 0 0] w fun e w' => e = .returned (.slice none 0 0) ∧ w' = w := by
  have q27 : ∀ (w : World) (a : Option Addr) (n c n' c' : Nat), (binOp .eql 37 (.slice a n c) (.slice none n' c')).run Tryz.prog w = .ok (.bool a.isNone) w := fun w a n c n' c' => Lib.run_eql_slice_nil w _ _ a n c n' c' Tryz.underlying37
  go_enter Tryz.func29, Tryz.ntmps29
  go_wp2_with fail
  go_ret
  exact ⟨rfl, rfl⟩
theorem clone_parts_nil (w : World) : Calls Tryz.prog 30 #[.slice none 0 0] w fun e w' => e = .returned (.slice none 0 0) ∧ w' = w := by
  have q72 : ∀ (w : World) (a : Option Addr) (n c n' c' : Nat), (binOp .eql 38 (.slice a n c) (.slice none n' c')).run Tryz.prog w = .ok (.bool a.isNone) w := fun w a n c n' c' => Lib.run_eql_slice_nil w _ _ a n c n' c' Tryz.underlying38
  go_enter Tryz.func30, Tryz.ntmps30
  go_wp2_with fail
  go_ret
  exact ⟨rfl, rfl⟩
set_option maxHeartbeats 4000000 in
theorem clonec_nil (op ix gn kd : Int) (w : World) : Calls Tryz.prog 17 #[cmV ⟨op, ix, gn, kd, .slice none 0 0, .slice none 0 0⟩] w fun e w' => e = .returned (cmV ⟨op, ix, gn, kd, .slice none 0 0, .slice none 0 0⟩) ∧ Below w.heap.size w w' := by
  have J1 : Hid (∀ W, Calls Tryz.prog 29 #[.slice none 0 0] W fun e w' => e = .returned (.slice none 0 0) ∧ w' = W) := clone_nums_nil
  have J2 : Hid (∀ W, Calls Tryz.prog 30 #[.slice none 0 0] W fun e w' => e = .returned (.slice none 0 0) ∧ w' = W) := clone_parts_nil
  unfold cmV cmL
  dsimp only
  go_enter Tryz.func17, Tryz.ntmps17
  go_wp2_with fail
  refine (J1.out _).mono ?_
  rintro e w' ⟨rfl, rfl⟩
  go_wp2_with fail
  refine (J2.out _).mono ?_
  rintro e w' ⟨rfl, rfl⟩
  go_wp2_with fail
  refine wp_loop_rounds 1 ?_
  rw [rounds_succ]
  go_wp2_with fail
  (try simp only [Exit.inBlock, Exit.then])
  refine bodyPost_ret ?_ rfl ⟨rfl, below_on (below_alloc w _) (below_alloc _ _)⟩
  rw [results_cell1 rfl]
  go_simp
/-- A list of one part, with its numbers. -/
structure P1 (w : World) (P : Nat → Prop) (v : Value) (k : Int) (V : List Int) : Prop where
  r : ∃ p : Pt, Rp w v [p] ∧ p.1 = k ∧ Iz w (ptV p) V ∧ (∀ j, (ptV p).ownBlock = some j → P j) ∧ (p.2.1 = none → p.2.2 = (0, 0))
  b : ∀ j, v.ownBlock = some j → P j
set_option maxHeartbeats 4000000 in
theorem clonec_one {w : World} {P : Nat → Prop} {v : Value} {k : Int} {V : List Int} (h : P1 w P v k V) (hV : V.length ≤ 48) (op ix gn kd : Int) : Calls Tryz.prog 17 #[cmV ⟨op, ix, gn, kd, .slice none 0 0, v⟩] w fun e w' => ∃ v', e = .returned (cmV ⟨op, ix, gn, kd, .slice none 0 0, v'⟩) ∧ P1 w' (fun j => w.heap.size ≤ j ∧ j < w'.heap.size) v' k V ∧ Below w.heap.size w w' := by
  have J1 : Hid (∀ W, Calls Tryz.prog 29 #[.slice none 0 0] W fun e w' => e = .returned (.slice none 0 0) ∧ w' = W) := clone_nums_nil
  obtain ⟨⟨⟨pk, pa, pn, pc⟩, hp, hk, hI, -, -⟩, -⟩ := h
  have hk : pk = k := hk
  subst hk
  have hI : Iz w (.slice pa pn pc) V := hI
  have J2 : Hid (∀ W, Below w.heap.size w W → Calls Tryz.prog 30 #[v] W fun e w' => ∃ g c, e = .returned (.slice (some ⟨g, 0, none⟩) 1 c) ∧ w'.ownsRow W.heap.size 50 2 (.slice (some ⟨g, 0, none⟩) 1 c) 1 (pz [(pk, pa, pn, pc)]) ∧ Below W.heap.size W w') := fun W hW => (clone_parts v [(pk, pa, pn, pc)] W (hp.frame (Mv.of_below hW (fun _ => False)) (fun _ _ e => e)) (by simp)).mono fun e w' ⟨v', h1, h2, h3⟩ => by
    rcases h2.2 with ⟨-, h0⟩ | ⟨g, c, cur, rfl, -⟩
    · simp at h0
    · exact ⟨g, c, h1, h2, h3⟩
  have J3 : Hid (∀ W, Below w.heap.size w W → Calls Tryz.prog 29 #[.slice pa pn pc] W fun e w' => ∃ v', e = .returned v' ∧ w'.ownsRow W.heap.size 2 1 v' V.length (zc V) ∧ Below W.heap.size W w') := fun W hW => clone_nums (.slice pa pn pc) V W (hI.later hW) (by omega)
  obtain ⟨a, c, rfl⟩ : ∃ a c, v = .slice a 1 c := by
    rcases hp with ⟨-, h0⟩ | ⟨g, o, c, rfl, -⟩
    · cases h0
    · exact ⟨_, _, rfl⟩
  clear hp hI hk
  unfold cmV cmL
  dsimp only
  obtain ⟨w0, hw0⟩ : ∃ X, X = (w.alloc (.cells #[.int .i64 op, .int .i64 ix, .int .i64 gn, .int .i64 kd, .slice none 0 0, .slice a 1 c] 40)).alloc (.cells #[.int .i64 0, .int .i64 0, .int .i64 0, .int .i64 0, .slice none 0 0, .slice none 0 0] 40) := ⟨_, rfl⟩
  have B0 : Hid (Below w.heap.size w w0) := by unfold Hid; rw [hw0]; exact below_on (below_alloc w _) (below_alloc _ _)
  go_enter Tryz.func17, Tryz.ntmps17
  go_wp2_with fail
  refine (J1.out _).mono ?_
  rintro e w' ⟨rfl, rfl⟩
  go_upto_region 2 with fail
  have k0 : w0.heap[w.heap.size]? = some (.cells #[.int .i64 op, .int .i64 ix, .int .i64 gn, .int .i64 kd, .slice none 0 0, .slice a 1 c] 40 (0, 0)) := by
    rw [hw0]
    exact ((below_alloc (w.alloc (.cells #[.int .i64 op, .int .i64 ix, .int .i64 gn, .int .i64 kd, .slice none 0 0, .slice a 1 c] 40)) _).block w.heap.size (by simp)).trans (heap_alloc_new w _)
  have k1 : w0.heap[w.heap.size + 1]? = some (.cells #[.int .i64 0, .int .i64 0, .int .i64 0, .int .i64 0, .slice none 0 0, .slice none 0 0] 40 (0, 0)) := by
    rw [hw0]
    have := heap_alloc_new (w.alloc (.cells #[.int .i64 op, .int .i64 ix, .int .i64 gn, .int .i64 kd, .slice none 0 0, .slice a 1 c] 40)) (.cells #[.int .i64 0, .int .i64 0, .int .i64 0, .int .i64 0, .slice none 0 0, .slice none 0 0] 40)
    simpa using this
  rw [← hw0]
  obtain ⟨kx, hkx⟩ : ∃ k, k = w.heap.size := ⟨_, rfl⟩
  obtain ⟨ky, hky⟩ : ∃ k, k = w.heap.size + 1 := ⟨_, rfl⟩
  rw [← hkx] at k0
  rw [← hky] at k1
  rw [← hky, ← hkx]
  have HXY : Hid (kx = w.heap.size ∧ ky = w.heap.size + 1 ∧ kx < w0.heap.size ∧ ky < w0.heap.size) := ⟨hkx, hky, lt_of_block k0, lt_of_block k1⟩
  have K0 := hide k0
  have K1 := hide k1
  have c5 : w0.cell? ⟨kx, 5, none⟩ = some (.slice a 1 c) := by rw [cell_of_row w0 _ _ _ 40 (0, 0) k0]; rfl
  have J4 := hide (J2.out w0 B0.out)
  clear hw0 hkx hky k0 k1 J2
  go_wp2_with fail
  refine J4.out.mono ?_
  rintro e w1 ⟨g, c', rfl, ho1, b1⟩
  have HO1 := hide ho1
  have HB1 := hide b1
  have c5' : w1.cell? ⟨kx, 5, none⟩ = some (.slice a 1 c) := (b1.cell (p := ⟨kx, 5, none⟩) HXY.out.2.2.1).trans c5
  have f5' : w1.frozen? ⟨kx, 5, none⟩ = false := frozen_of_row w1 kx 5 _ 40 ((b1.block kx HXY.out.2.2.1).trans K0.out)
  obtain ⟨w2, hw2⟩ : ∃ X, X = w1.setCell ⟨kx, 5, none⟩ (.slice (some ⟨g, 0, none⟩) 1 c') := ⟨_, rfl⟩
  have hg1 := ho1.lt g rfl
  have m2 : Mv w1 w2 (fun j => j = kx) := by rw [hw2]; exact (Mv.refl w1 (fun j => j = kx)).set rfl 5 _
  have HM2 := hide m2
  have k2 : w2.heap[kx]? = some (.cells #[.int .i64 op, .int .i64 ix, .int .i64 gn, .int .i64 kd, .slice none 0 0, .slice (some ⟨g, 0, none⟩) 1 c'] 40 (0, 0)) := by
    rw [hw2, heap_setCell_same w1 kx 5 _ 40 _ ((b1.block kx HXY.out.2.2.1).trans K0.out)]
    rfl
  have HO2 : Hid (w2.ownsRow w0.heap.size 50 2 (.slice (some ⟨g, 0, none⟩) 1 c') 1 (pz [(pk, pa, pn, pc)])) := m2.own ho1 (fun j e e2 => by
    have := HXY.out.2.2.1
    have e3 : g = j := Option.some.inj e
    omega)
  have K2 := hide k2
  have K1' : Hid (w2.heap[ky]? = some (.cells #[.int .i64 0, .int .i64 0, .int .i64 0, .int .i64 0, .slice none 0 0, .slice none 0 0] 40 (0, 0))) := m2.at ((b1.block ky HXY.out.2.2.2).trans K1.out) (fun e => by have := HXY.out; omega)
  clear ho1 b1 J4 c5 m2 k2 K0 K1 hg1
  obtain ⟨q0, q1⟩ := own_part HO2.out 0 (by simp)
  rw [Nat.zero_mul] at q0
  rw [Nat.zero_mul, Nat.zero_add] at q1
  replace q0 : w2.cell? ⟨g, 0, none⟩ = some (.int .i64 pk) := q0
  replace q1 : w2.cell? ⟨g, 1, none⟩ = some (.slice pa pn pc) := q1
  go_wp2_with fail
  rw [← hw2]
  clear hw2 c5' f5'
  refine wp_loop_rounds 2 ?_
  rw [rounds_succ]
  go_upto_region 6 with fail
  obtain ⟨w3, hw3⟩ : ∃ X, X = w2.alloc (.cells #[.int .i64 pk, .slice pa pn pc] 50) := ⟨_, rfl⟩
  have b3 : Below w2.heap.size w2 w3 := hw3 ▸ below_alloc w2 _
  have k3 : w3.heap[w2.heap.size]? = some (.cells #[.int .i64 pk, .slice pa pn pc] 50 (0, 0)) := by rw [hw3]; exact heap_alloc_new w2 _
  rw [← hw3]
  obtain ⟨kz, hkz⟩ : ∃ k, k = w2.heap.size := ⟨_, rfl⟩
  rw [← hkz] at k3
  rw [← hkz]
  have hg2 := HO2.out.lt g rfl
  have hx2 := lt_of_block K2.out
  have hy2 := lt_of_block K1'.out
  have hxy := HXY.out
  have nx : ¬ kx = g := by omega
  have nz : ¬ kz = g := by omega
  have ny : ¬ ky = g := by omega
  have nxy : ¬ ky = kx := by omega
  have gz : kz < w3.heap.size := lt_of_block k3
  have D3 : Hid (Below w.heap.size w w3) := by
    refine below_on ?_ b3
    have m : Below w.heap.size w w1 := below_on B0.out HB1.out
    have hs := m.size
    exact m.trans (HM2.out.below (by omega) (fun j e => by omega))
  have KL : Hid (∀ V, Below w3.heap.size w3 V → V.cell? ⟨kx, 5, none⟩ = some (.slice (some ⟨g, 0, none⟩) 1 c') ∧ V.cell? ⟨kz, 1, none⟩ = some (.slice pa pn pc)) := fun V hV => by
    have e1 := ((below_on b3 hV).block kx hx2).trans K2.out
    have e2 := (hV.block kz gz).trans k3
    exact ⟨by rw [cell_of_row V _ _ _ 40 (0, 0) e1]; rfl, by rw [cell_of_row V _ _ _ 50 (0, 0) e2]; rfl⟩
  have KM : Hid (∀ V u, Below w3.heap.size w3 V → (V.setCell ⟨g, 1, none⟩ u).cell? ⟨kx, 5, none⟩ = some (.slice (some ⟨g, 0, none⟩) 1 c') ∧ (V.setCell ⟨g, 1, none⟩ u).cell? ⟨kz, 1, none⟩ = some (.slice pa pn pc)) := fun V u hV =>
    ⟨(World.cell?_setCell_other _ ⟨g, 1, none⟩ ⟨kx, 5, none⟩ _ (fun e => nx (congrArg Addr.block e).symm)).trans (KL.out V hV).1, (World.cell?_setCell_other _ ⟨g, 1, none⟩ ⟨kz, 1, none⟩ _ (fun e => nz (congrArg Addr.block e).symm)).trans (KL.out V hV).2⟩
  have HO3 : Hid (∀ V, Below w3.heap.size w3 V → V.ownsRow w0.heap.size 50 2 (.slice (some ⟨g, 0, none⟩) 1 c') 1 (pz [(pk, pa, pn, pc)])) := fun V hV => own_later HO2.out (below_on b3 hV)
  have KG : Hid (∀ V, Below w3.heap.size w3 V → V.cell? ⟨g, 1, none⟩ = some (.slice pa pn pc) ∧ V.frozen? ⟨g, 1, none⟩ = false) := fun V hV => by
    have ho := HO3.out V hV
    exact ⟨(own_part ho 0 (by simp)).2, ho.frozenAt 1⟩
  have K3 : Hid (∀ V, Below w3.heap.size w3 V → V.heap[kx]? = some (.cells #[.int .i64 op, .int .i64 ix, .int .i64 gn, .int .i64 kd, .slice none 0 0, .slice (some ⟨g, 0, none⟩) 1 c'] 40 (0, 0)) ∧ V.heap[ky]? = some (.cells #[.int .i64 0, .int .i64 0, .int .i64 0, .int .i64 0, .slice none 0 0, .slice none 0 0] 40 (0, 0))) := fun V hV => ⟨((below_on b3 hV).block kx hx2).trans K2.out, ((below_on b3 hV).block ky hy2).trans K1'.out⟩
  have s0 := KL.out w3.drew (below_drew w3)
  have HG2 := hide hg2
  have HXW : Hid (w2.heap.size = kz ∧ w.heap.size ≤ w3.heap.size ∧ g < w3.heap.size ∧ kx < w3.heap.size ∧ ky < w3.heap.size ∧ w3.heap.size = kz + 1) := ⟨hkz.symm, D3.out.size, by have := b3.size; omega, by have := b3.size; omega, by have := b3.size; omega, by rw [hw3, hkz]; simp⟩
  clear q0 q1 hw3 hkz k3 b3 hg2 hx2 hy2 hxy gz
  go_region_held3 (fun V => V.cell? ⟨kx, 5, none⟩ = some (.slice (some ⟨g, 0, none⟩) 1 c') ∧ V.cell? ⟨kz, 1, none⟩ = some (.slice pa pn pc)) (first | exact s0 | exact KL.out _ H4.out | exact KM.out _ _ H4.out) ((go_at_call 29; refine (J3.out _ (below_on D3.out (below_drew _))).mono ?_; rintro e w4 ⟨v4, rfl, ho4, b4⟩; obtain ⟨a4, c4, rfl⟩ := own_len ho4; have H4 := hide (below_on (below_drew w3) b4); have HO4 := hide ho4; obtain ⟨g1, g2⟩ := KG.out w4 H4.out; clear ho4 b4))
  obtain ⟨w5, hw5⟩ : ∃ X, X = w4.setCell ⟨g, 1, none⟩ (.slice a4 V.length c4) := ⟨_, rfl⟩
  have m5 : Mv w4 w5 (fun j => j = g) := by rw [hw5]; exact (Mv.refl w4 (fun j => j = g)).set rfl 1 _
  obtain ⟨r1, r2⟩ := K3.out w4 H4.out
  have r1 := m5.at r1 nx
  have r2 := m5.at r2 ny
  have q : w5.cell? ⟨g, 1, none⟩ = some (.slice a4 V.length c4) := by rw [hw5]; exact World.cell?_setCell_same _ _ _ g1
  have q0 : w5.cell? ⟨g, 0, none⟩ = some (.int .i64 pk) := by rw [hw5]; exact (World.cell?_setCell_other _ ⟨g, 1, none⟩ ⟨g, 0, none⟩ _ (fun e => by cases e)).trans (own_part (HO3.out w4 H4.out) 0 (by simp)).1
  obtain ⟨w6, hw6⟩ : ∃ X, X = (((((w5.setCell ⟨ky, 0, none⟩ (.int .i64 op)).setCell ⟨ky, 1, none⟩ (.int .i64 ix)).setCell ⟨ky, 2, none⟩ (.int .i64 gn)).setCell ⟨ky, 3, none⟩ (.int .i64 kd)).setCell ⟨ky, 4, none⟩ (.slice none 0 0)).setCell ⟨ky, 5, none⟩ (.slice (some ⟨g, 0, none⟩) 1 c') := ⟨_, rfl⟩
  have m6 : Mv w5 w6 (fun j => j = ky) := by rw [hw6]; exact ((((((Mv.refl w5 (fun j => j = ky)).set rfl 0 _).set rfl 1 _).set rfl 2 _).set rfl 3 _).set rfl 4 _).set rfl 5 _
  have r6 : w6.heap[ky]? = some (.cells #[.int .i64 op, .int .i64 ix, .int .i64 gn, .int .i64 kd, .slice none 0 0, .slice (some ⟨g, 0, none⟩) 1 c'] 40 (0, 0)) := by
    rw [hw6]
    exact heap_setCell_same _ ky 5 _ 40 _ (heap_setCell_same _ ky 4 _ 40 _ (heap_setCell_same _ ky 3 _ 40 _ (heap_setCell_same _ ky 2 _ 40 _ (heap_setCell_same _ ky 1 _ 40 _ (heap_setCell_same w5 ky 0 _ 40 _ r2)))))
  have R6 := hide r6
  have x0 : w5.cell? ⟨kx, 0, none⟩ = some (.int .i64 op) := by rw [cell_of_row w5 _ _ _ 40 (0, 0) r1]; rfl
  have x1 : w5.cell? ⟨kx, 1, none⟩ = some (.int .i64 ix) := by rw [cell_of_row w5 _ _ _ 40 (0, 0) r1]; rfl
  have x2 : w5.cell? ⟨kx, 2, none⟩ = some (.int .i64 gn) := by rw [cell_of_row w5 _ _ _ 40 (0, 0) r1]; rfl
  have x3 : w5.cell? ⟨kx, 3, none⟩ = some (.int .i64 kd) := by rw [cell_of_row w5 _ _ _ 40 (0, 0) r1]; rfl
  have x4 : w5.cell? ⟨kx, 4, none⟩ = some (.slice none 0 0) := by rw [cell_of_row w5 _ _ _ 40 (0, 0) r1]; rfl
  have x5 : w5.cell? ⟨kx, 5, none⟩ = some (.slice (some ⟨g, 0, none⟩) 1 c') := by rw [cell_of_row w5 _ _ _ 40 (0, 0) r1]; rfl
  have y0 : w5.cell? ⟨ky, 0, none⟩ = some (.int .i64 0) := by rw [cell_of_row w5 _ _ _ 40 (0, 0) r2]; rfl
  have y1 : w5.cell? ⟨ky, 1, none⟩ = some (.int .i64 0) := by rw [cell_of_row w5 _ _ _ 40 (0, 0) r2]; rfl
  have y2 : w5.cell? ⟨ky, 2, none⟩ = some (.int .i64 0) := by rw [cell_of_row w5 _ _ _ 40 (0, 0) r2]; rfl
  have y3 : w5.cell? ⟨ky, 3, none⟩ = some (.int .i64 0) := by rw [cell_of_row w5 _ _ _ 40 (0, 0) r2]; rfl
  have y4 : w5.cell? ⟨ky, 4, none⟩ = some (.slice none 0 0) := by rw [cell_of_row w5 _ _ _ 40 (0, 0) r2]; rfl
  have y5 : w5.cell? ⟨ky, 5, none⟩ = some (.slice none 0 0) := by rw [cell_of_row w5 _ _ _ 40 (0, 0) r2]; rfl
  have z : ∀ j, w5.frozen? ⟨ky, j, none⟩ = false := fun j => frozen_of_row w5 ky j _ 40 r2
  have z0 := z 0
  have z1 := z 1
  have z2 := z 2
  have z3 := z 3
  have z4 := z 4
  have z5 := z 5
  have HE : Hid (P1 w6 (fun j => w.heap.size ≤ j ∧ j < w6.heap.size) (.slice (some ⟨g, 0, none⟩) 1 c') pk V ∧ Below w.heap.size w w6) := by
    have hgg := HG2.out
    have hxw := HXW.out
    have s5 := m5.size
    have s6 := m6.size
    have s4 := H4.out.size
    have s0' := B0.out.size
    have hxy := HXY.out
    have ho4 : w4.ownsRow w3.heap.size 2 1 (.slice a4 V.length c4) V.length (zc V) := HO4.out
    have hlt := ho4.lt
    have hcap : 1 ≤ c' ∧ c' ≤ maxLen := by
      rcases (HO3.out w4 H4.out).2 with ⟨e, -⟩ | ⟨g9, c9, cur, e, -, -, e1, e2, -⟩
      · cases e
      · injection e with _ _ e3
        subst e3
        exact ⟨e1, e2⟩
    refine ⟨⟨⟨(pk, a4, V.length, c4), .inr ⟨g, 0, c', rfl, hcap.1, hcap.2, fun j u hj => ?_⟩, rfl, ((Iz.own ho4).frame m5 (fun k e e2 => ?_)).frame m6 (fun k e e2 => ?_), fun k e => ?_, fun e => ?_⟩, fun k e => ?_⟩, ?_⟩
    · match j, hj with
      | 0, hj =>
        obtain rfl := Option.some.inj hj
        exact m6.cell (a := ⟨g, 0, none⟩) q0 (fun e => ny e.symm)
      | 1, hj =>
        obtain rfl := Option.some.inj hj
        exact m6.cell (a := ⟨g, 1, none⟩) q (fun e => ny e.symm)
      | j + 2, hj => simp [pz] at hj
    · have := hlt k e
      omega
    · have := hlt k e
      omega
    · have := hlt k e
      constructor <;> omega
    · rcases ho4.2 with ⟨e1, -⟩ | ⟨g9, c9, cur, e1, -⟩
      · injection e1 with _ e3 e4
        show (V.length, c4) = (0, 0)
        rw [e3, e4]
      · injection e1 with e2
        have e : a4 = none := e
        rw [e] at e2
        cases e2
    · have e3 : g = k := Option.some.inj e
      constructor <;> omega
    · exact ((below_on D3.out H4.out).trans (m5.below (by omega) (fun k e => by omega))).trans (m6.below (by omega) (fun k e => by omega))
  rw [← hw5]
  clear hw5 m5 r1 r2 q q0 m6 r6 g1 g2 z
  go_wp2_with fail
  rw [rounds_succ]
  go_wp2_with fail
  rw [← hw6]
  clear hw6 x0 x1 x2 x3 x4 x5 y0 y1 y2 y3 y4 y5 z0 z1 z2 z3 z4 z5
  have y0 : w6.cell? ⟨ky, 0, none⟩ = some (.int .i64 op) := by rw [cell_of_row w6 _ _ _ 40 (0, 0) R6.out]; rfl
  have y1 : w6.cell? ⟨ky, 1, none⟩ = some (.int .i64 ix) := by rw [cell_of_row w6 _ _ _ 40 (0, 0) R6.out]; rfl
  have y2 : w6.cell? ⟨ky, 2, none⟩ = some (.int .i64 gn) := by rw [cell_of_row w6 _ _ _ 40 (0, 0) R6.out]; rfl
  have y3 : w6.cell? ⟨ky, 3, none⟩ = some (.int .i64 kd) := by rw [cell_of_row w6 _ _ _ 40 (0, 0) R6.out]; rfl
  have y4 : w6.cell? ⟨ky, 4, none⟩ = some (.slice none 0 0) := by rw [cell_of_row w6 _ _ _ 40 (0, 0) R6.out]; rfl
  have y5 : w6.cell? ⟨ky, 5, none⟩ = some (.slice (some ⟨g, 0, none⟩) 1 c') := by rw [cell_of_row w6 _ _ _ 40 (0, 0) R6.out]; rfl
  (try simp only [Exit.inBlock, Exit.then])
  refine bodyPost_ret ?_ rfl ⟨_, rfl, HE.out.1, HE.out.2⟩
  rw [results_cell1 rfl]
  go_simp
end Go.Proofs.YtiolaenkfhcajaaGreat
