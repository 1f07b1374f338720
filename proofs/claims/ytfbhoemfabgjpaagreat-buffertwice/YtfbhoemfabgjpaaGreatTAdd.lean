/-
  Add.
-/
import Derived.Test.YtfbhoemfabgjpaaGreatMgAB
import Derived.Test.YtfbhoemfabgjpaaGreatTLate
namespace Go.Proofs.YtfbhoemfabgjpaaGreat
open Go.RowKit
set_option maxRecDepth 100000
/-- Numbers that are read, wherever they lie. -/
def Iz (w : World) (v : Value) (l : List Int) : Prop :=
  ∃ ao c, v = .slice ao l.length c ∧ l.length ≤ c ∧ c ≤ maxLen ∧ ∀ j (hj : j < l.length), ∃ g o, ao = some ⟨g, o, none⟩ ∧ w.cell? ⟨g, o + j, none⟩ = some (.int .i64 l[j])
theorem Iz.frame {w w' : World} {v : Value} {l : List Int} {S : Nat → Prop} (h : Iz w v l) (hm : Mv w w' S) (hs : ∀ k, v.ownBlock = some k → ¬ S k) : Iz w' v l := by
  obtain ⟨ao, c, rfl, h1, h2, h3⟩ := h
  refine ⟨ao, c, rfl, h1, h2, fun j hj => ?_⟩
  obtain ⟨g, o, rfl, hc⟩ := h3 j hj
  exact ⟨g, o, rfl, hm.cell hc (hs g rfl)⟩
/-- A number more in each of the first i columns. -/
def pcol (cols : List (List Int)) (vals : List Int) (i : Nat) : List (List Int) := cols.mapIdx fun j c => if j < i then c ++ [vals.getD j 0] else c
theorem pcol_len (cols : List (List Int)) (vals : List Int) (i : Nat) : (pcol cols vals i).length = cols.length := by simp [pcol]
theorem pcol_at (cols : List (List Int)) (vals : List Int) (i j : Nat) (hj : j < cols.length) : (pcol cols vals i)[j]'(by rw [pcol_len]; exact hj) = if j < i then cols[j] ++ [vals.getD j 0] else cols[j] := by simp [pcol]
theorem pcol_zero (cols : List (List Int)) (vals : List Int) : pcol cols vals 0 = cols := by
  apply List.ext_getElem (by rw [pcol_len])
  intro j h1 h2
  rw [pcol_at _ _ _ _ h2, if_neg (by omega)]
theorem pcol_step (cols : List (List Int)) (vals : List Int) (i : Nat) (hi : i < cols.length) : (pcol cols vals i).set i (cols[i] ++ [vals.getD i 0]) = pcol cols vals (i + 1) := by
  apply List.ext_getElem (by simp [pcol_len])
  intro j h1 h2
  have hj : j < cols.length := by rw [pcol_len] at h2; exact h2
  rw [List.getElem_set, pcol_at _ _ _ _ hj, pcol_at _ _ _ _ hj]
  by_cases e : i = j
  · subst e; rw [if_pos rfl, if_pos (by omega)]
  · rw [if_neg e]
    by_cases e2 : j < i
    · rw [if_pos e2, if_pos (by omega)]
    · rw [if_neg e2, if_neg (by omega)]
/-- A row more. -/
def addRow (cols : List (List Int)) (vals : List Int) : List (List Int) := pcol cols vals cols.length
section
variable {w : World} {S : Nat → Prop} {g n : Nat} {rows : List (Int × Int)} {cols : List (List Int)}
set_option maxHeartbeats 1000000 in
theorem add_field (h : Tb w S g n rows cols) (a b : Int) (v : Value) (vals : List Int) (hv : Iz w v vals) (hl : vals.length ≠ cols.length) : Calls Tryz.prog 92 #[.pointer (some ⟨g, 0, none⟩), .agg #[.int .i64 a, .int .i64 b], v] w fun e w' => e = .returned (.tuple #[.int .i64 0, .int .i64 63]) ∧ Below w.heap.size w w' := by
  obtain ⟨lab, vr, gm, vc, cs, f, hm, -⟩ := h
  obtain ⟨ac, cc, rfl⟩ := own_len hm.2.2.2.1
  have hcs := hm.2.2.2.2.1
  have c2 : ∀ o, (w.alloc o).cell? ⟨g, 2, none⟩ = some (.slice ac cs.length cc) := fun o => (hm.later (below_alloc w o)).cell.2.2
  obtain ⟨ao, c, rfl, -⟩ := hv
  have t1 : ((vals.length : Int) == (cols.length : Int)) = false := by rw [beq_eq_false_iff_ne]; omega
  have t2 : ¬ (vals.length : Int) = (cols.length : Int) := by omega
  clear hm
  go_enter Tryz.func92, Tryz.ntmps92
  go_wp2_with fail
  go_ret2
  exact ⟨rfl, below_alloc w _⟩
set_option maxHeartbeats 1000000 in
theorem add_has (h : Tb w S g n rows cols) (a b : Int) (v : Value) (vals : List Int) (hv : Iz w v vals) (hl : vals.length = cols.length) (hb : InB (a, b)) (he : (a, b) ∈ rows) : Calls Tryz.prog 92 #[.pointer (some ⟨g, 0, none⟩), .agg #[.int .i64 a, .int .i64 b], v] w fun e w' => e = .returned (.tuple #[.int .i64 0, .int .i64 61]) ∧ Below w.heap.size w w' := by
  have J : Hid (∀ W, Below w.heap.size w W → Calls Tryz.prog 77 #[.pointer (some ⟨g, 0, none⟩), .agg #[.int .i64 a, .int .i64 b]] W fun e w' => ∃ r : Nat, e = .returned (.int .i64 (r : Int)) ∧ Below W.heap.size W w') := fun W hbw => (find_any (h.later hbw) a b hb).mono (fun e w' ⟨r, h1, h2, h3⟩ => by
    rcases h2 with ⟨-, h2⟩ | ⟨i, hi, rfl, -⟩
    · exact absurd he h2
    · exact ⟨i, h1, h3⟩)
  obtain ⟨lab, vr, gm, vc, cs, f, hm, -⟩ := h
  obtain ⟨ac, cc, rfl⟩ := own_len hm.2.2.2.1
  have hcs := hm.2.2.2.2.1
  have c2 : ∀ o, (w.alloc o).cell? ⟨g, 2, none⟩ = some (.slice ac cs.length cc) := fun o => (hm.later (below_alloc w o)).cell.2.2
  obtain ⟨ao, c, rfl, -⟩ := hv
  rw [hl]
  clear hm
  go_enter Tryz.func92, Tryz.ntmps92
  go_wp2_with fail
  refine (J.out _ (below_alloc w _)).mono ?_
  rintro e w1 ⟨r, rfl, hb1⟩
  have t3 : (r : Int) ≥ 0 := by omega
  go_wp2_with fail
  go_ret2
  exact ⟨rfl, below_on (below_alloc w _) hb1⟩
set_option maxHeartbeats 1000000 in
theorem add_full (h : Tb w S g n rows cols) (a b : Int) (v : Value) (vals : List Int) (hv : Iz w v vals) (hl : vals.length = cols.length) (hb : InB (a, b)) (he : (a, b) ∉ rows) (hr : rows.length = 200) : Calls Tryz.prog 92 #[.pointer (some ⟨g, 0, none⟩), .agg #[.int .i64 a, .int .i64 b], v] w fun e w' => e = .returned (.tuple #[.int .i64 0, .int .i64 40]) ∧ Below w.heap.size w w' := by
  have J : Hid (∀ W, Below w.heap.size w W → Calls Tryz.prog 77 #[.pointer (some ⟨g, 0, none⟩), .agg #[.int .i64 a, .int .i64 b]] W fun e w' => e = .returned (.int .i64 (-1)) ∧ Below W.heap.size W w') := fun W hbw => (find_any (h.later hbw) a b hb).mono (fun e w' ⟨r, h1, h2, h3⟩ => by
    rcases h2 with ⟨rfl, -⟩ | ⟨i, hi, rfl, h2⟩
    · exact ⟨h1, h3⟩
    · exact absurd (h2 ▸ List.getElem_mem hi) he)
  obtain ⟨lab, vr, gm, vc, cs, f, hm, -⟩ := h
  obtain ⟨ac, cc, rfl⟩ := own_len hm.2.2.2.1
  obtain ⟨ar, cr, rfl⟩ := own_len hm.2.1
  have hcs := hm.2.2.2.2.1
  have c2 : ∀ o, (w.alloc o).cell? ⟨g, 2, none⟩ = some (.slice ac cs.length cc) := fun o => (hm.later (below_alloc w o)).cell.2.2
  obtain ⟨ao, c, rfl, -⟩ := hv
  rw [hl]
  have HM := hide hm
  clear hm
  go_enter Tryz.func92, Tryz.ntmps92
  go_wp2_with fail
  refine (J.out _ (below_alloc w _)).mono ?_
  rintro e w1 ⟨rfl, hb1⟩
  have d0 := (HM.out.later (below_on (below_alloc w _) hb1)).cell.1
  rw [hr] at d0
  go_wp2_with fail
  go_ret2
  exact ⟨rfl, below_on (below_alloc w _) hb1⟩
set_option maxHeartbeats 40000000 in
set_option maxRecDepth 1000000 in
theorem add_any (h : Tb w S g n rows cols) (a b : Int) (v : Value) (vals : List Int) (hv : Iz w v vals) (hvS : ∀ k, v.ownBlock = some k → ¬ S k ∧ k < w.heap.size) (hl : vals.length = cols.length) (hb : InB (a, b)) (he : (a, b) ∉ rows) (hr : rows.length < 200) (hn : n ≤ 1000000) :
    Calls Tryz.prog 92 #[.pointer (some ⟨g, 0, none⟩), .agg #[.int .i64 a, .int .i64 b], v] w fun e w' => e = .returned (.tuple #[.int .i64 (rows.length : Int), .int .i64 0]) ∧ Tb w' (Nw w S) g (n + 1) (rows ++ [(a, b)]) (addRow cols vals) ∧ Mv w w' S := by
  have J : Hid (∀ W, Below w.heap.size w W → Calls Tryz.prog 77 #[.pointer (some ⟨g, 0, none⟩), .agg #[.int .i64 a, .int .i64 b]] W fun e w' => e = .returned (.int .i64 (-1)) ∧ Below W.heap.size W w') := fun W hbw => (find_any (h.later hbw) a b hb).mono (fun e w' ⟨r, h1, h2, h3⟩ => by
    rcases h2 with ⟨rfl, -⟩ | ⟨i, hi, rfl, h2⟩
    · exact ⟨h1, h3⟩
    · exact absurd (h2 ▸ List.getElem_mem hi) he)
  obtain ⟨lab, vr, gm, vc, cs, f, hm, hix, hcl, ⟨s1, s2, s3, s4, s5⟩, hib, hr2, hc48⟩ := h
  obtain ⟨ac, cc, rfl⟩ := own_len hm.2.2.2.1
  obtain ⟨ar, cr, rfl⟩ := own_len hm.2.1
  obtain ⟨i32, hi32, hz0, hz1, hz2⟩ := info_parts info32
  obtain ⟨i2, hi2, hx0, hx1, hx2⟩ := info_parts info2
  have hcs := hm.2.2.2.2.1
  have c2 : ∀ o, (w.alloc o).cell? ⟨g, 2, none⟩ = some (.slice ac cs.length cc) := fun o => (hm.later (below_alloc w o)).cell.2.2
  obtain ⟨av, cv, rfl, -⟩ := id hv
  have HV := hide hv
  have HVS := hide hvS
  rw [hl] at hv HV HVS
  rw [hl]
  have HM := hide hm
  have HIX := hide hix
  have HREST := hide (And.intro hcl (And.intro (And.intro s1 (And.intro s2 (And.intro s3 (And.intro s4 s5)))) hib))
  clear hm hv hvS hix hcl s1 s2 s3 s4 s5 hib
  go_enter Tryz.func92, Tryz.ntmps92
  go_wp2_with fail
  refine (J.out _ (below_alloc w _)).mono ?_
  rintro e w2 ⟨rfl, hb2⟩
  have B2 := below_on (below_alloc w (.cells #[.int .i64 a, .int .i64 b] 34)) hb2
  obtain ⟨kx, hkx⟩ : ∃ k, k = w.heap.size := ⟨_, rfl⟩
  have hbx : w2.heap[kx]? = some (.cells #[.int .i64 a, .int .i64 b] 34 (0, 0)) := by
    rw [hkx]
    exact (hb2.block _ (by simp)).trans (heap_alloc_new w _)
  have hk2 : kx < w2.heap.size := lt_of_block hbx
  have H2 := hide (HM.out.later B2)
  have HBX := hide hbx
  have d0 := H2.out.cell.1
  have t3 : ¬ (rows.length : Int) ≥ 200 := by omega
  have HKX := hide hkx
  have HB2 := hide B2
  rw [← hkx]
  clear hkx hb2 B2 J c2 hbx
  go_upto_region 8 with fail
  clear d0
  have BX : ∀ W : World, W.heap[kx]? = some (.cells #[.int .i64 a, .int .i64 b] 34 (0, 0)) → W.cell? ⟨kx, 0, none⟩ = some (.int .i64 a) ∧ W.cell? ⟨kx, 1, none⟩ = some (.int .i64 b) := fun W h => ⟨by rw [cell_of_row W kx _ _ 34 (0, 0) h]; rfl, by rw [cell_of_row W kx _ _ 34 (0, 0) h]; rfl⟩
  have CS8 : Hid (∀ W, Below w2.heap.size w2 W → W.cell? ⟨g, 0, none⟩ = some (.slice ar rows.length cr) ∧ W.cell? ⟨kx, 0, none⟩ = some (.int .i64 a) ∧ W.cell? ⟨kx, 1, none⟩ = some (.int .i64 b)) := fun W hbw => ⟨(H2.out.later hbw).cell.1, (BX W ((hbw.block kx hk2).trans HBX.out)).1, (BX W ((hbw.block kx hk2).trans HBX.out)).2⟩
  have HO8 : Hid ((w2.drew.alloc (.cells #[.int .i64 a, .int .i64 b] 34)).ownsRow 0 34 2 (.slice ar rows.length cr) rows.length (ez rows)) := own_later H2.out.2.1 (below_on (below_drew w2) (below_alloc _ _))
  have K8 : Hid (∀ (g9 c9 : Nat) (w9 : World), w9.ownsRow 0 34 2 (.slice (some ⟨g9, 0, none⟩) (rows.length + 1) c9) (rows.length + 1) (ez rows ++ [.int .i64 a, .int .i64 b]) → (w2.drew.alloc (.cells #[.int .i64 a, .int .i64 b] 34)).grownBy w9 (Value.slice ar rows.length cr).ownBlock → ((Value.slice ar rows.length cr).ownBlock = some g9 ∨ g9 = (w2.drew.alloc (.cells #[.int .i64 a, .int .i64 b] 34)).heap.size) →
      w9.cell? ⟨g, 0, none⟩ = some (.slice ar rows.length cr) ∧ w9.cell? ⟨kx, 0, none⟩ = some (.int .i64 a) ∧ w9.cell? ⟨kx, 1, none⟩ = some (.int .i64 b) ∧ w9.frozen? ⟨g, 0, none⟩ = false ∧
      (∃ lab', Hid (Tm (w9.setCell ⟨g, 0, none⟩ (.slice (some ⟨g9, 0, none⟩) (rows.length + 1) c9)) lab' g (.slice (some ⟨g9, 0, none⟩) (rows.length + 1) c9) gm n (.slice ac cs.length cc) cs f (rows ++ [(a, b)]) cols ∧ In (Nw w S) (.slice (some ⟨g9, 0, none⟩) (rows.length + 1) c9))) ∧ Hid (Mv w (w9.setCell ⟨g, 0, none⟩ (.slice (some ⟨g9, 0, none⟩) (rows.length + 1) c9)) S ∧ (w9.setCell ⟨g, 0, none⟩ (.slice (some ⟨g9, 0, none⟩) (rows.length + 1) c9)).heap[kx]? = some (.cells #[.int .i64 a, .int .i64 b] 34 (0, 0)))) := fun g9 c9 w9 h1 h2 h3 => by
    obtain ⟨hcl, ⟨s1, s2, s3, s4, s5⟩, hib⟩ := HREST.out
    have hbb := below_on (below_drew w2) (below_alloc w2.drew (.cells #[.int .i64 a, .int .i64 b] 34))
    have hsz2 := HB2.out.size
    have hkx := HKX.out
    have hvlt : ∀ k, (Value.slice ar rows.length cr).ownBlock = some k → k < w.heap.size := fun k e => (HM.out.2.1.lt k e).2
    have ha : (Value.slice (some ⟨g9, 0, none⟩) (rows.length + 1) c9).ownBlock = (Value.slice ar rows.length cr).ownBlock ∨ (Value.slice (some ⟨g9, 0, none⟩) (rows.length + 1) c9).ownBlock = some (w2.drew.alloc (.cells #[.int .i64 a, .int .i64 b] 34)).heap.size := by
      rcases h3 with h | h
      · exact .inl h.symm
      · exact .inr (by rw [h]; rfl)
    have h1' : w9.ownsRow 0 34 2 (.slice (some ⟨g9, 0, none⟩) (rows.length + 1) c9) (rows ++ [(a, b)]).length (ez (rows ++ [(a, b)])) := by
      rw [ez_append, List.length_append]
      exact h1
    obtain ⟨z1, z2, z3, z4⟩ := H2.out.rows_put hbb h1' h2 ha
    have hbx9 : (w9.setCell ⟨g, 0, none⟩ (.slice (some ⟨g9, 0, none⟩) (rows.length + 1) c9)).heap[kx]? = some (.cells #[.int .i64 a, .int .i64 b] 34 (0, 0)) := z2.at HBX.out (fun e => by
      have hg := HM.out.lt
      rcases e with e | e
      · omega
      · have := hvlt kx e; omega)
    have hbx8 : w9.heap[kx]? = some (.cells #[.int .i64 a, .int .i64 b] 34 (0, 0)) := (h2.block kx (by have := hbb.size; omega) (fun e => by have := hvlt kx e.symm; omega)).trans ((hbb.block kx hk2).trans HBX.out)
    refine ⟨z3, (BX _ hbx8).1, (BX _ hbx8).2, z4, ⟨_, z1, fun k e => ?_⟩, (Mv.of_below HB2.out S).trans z2 (fun k _ e => ?_), hbx9⟩
    · rcases ha with ha | ha
      · exact .inl (s2 k (ha ▸ e))
      · rw [e] at ha; have := Option.some.inj ha; exact .inr (by have := hbb.size; omega)
    · rcases e with e | e
      · exact e ▸ s1
      · exact s2 k e
  refine wp_region_noPanic ?_
  refine wp_region_late (J := fun i => i != 10) (S := fun W => W.cell? ⟨g, 0, none⟩ = some (.slice ar rows.length cr) ∧ W.cell? ⟨kx, 0, none⟩ = some (.int .i64 a) ∧ W.cell? ⟨kx, 1, none⟩ = some (.int .i64 b)) (by kernel_rfl) (CS8.out _ (below_drew w2)) (fun hHeld => ?_)
  refine' wpAnyJ_takeW (i := 0) (oi := { dst := some 30, op := Op.move (Operand.tmp 0), type := 75, pos := "table.go:41", after := #[], guard := none }) (v := _) rfl (by kernel_rfl) (by kernel_rfl) (by kernel_rfl) (fun _ _ _ h => h) (Or.inl ⟨by rfl, ?hyA1⟩) ?reA1
  case hyA1 => (intro W hSw; (try dsimp only at hSw); go_simp; try with_reducible rfl)
  try simp only [Act.put, List.setIfInBounds_toArray, List.set_cons_zero, List.set_cons_succ]
  refine' wpAnyJ_takeW (i := 1) (oi := { dst := some 31, op := Op.move (Operand.tmp 0), type := 75, pos := "table.go:41", after := #[], guard := none }) (v := _) rfl (by kernel_rfl) (by kernel_rfl) (by kernel_rfl) (fun _ _ _ h => h) (Or.inl ⟨by rfl, ?hyA2⟩) ?reA2
  case hyA2 => (intro W hSw; (try dsimp only at hSw); go_simp; try with_reducible rfl)
  try simp only [Act.put, List.setIfInBounds_toArray, List.set_cons_zero, List.set_cons_succ]
  refine' wpAnyJ_takeW (i := 2) (oi := { dst := some 32, op := Op.nilCheck (Operand.tmp 31), type := 0, pos := "table.go:41", after := #[{ on := 1, ground := Ground.data }], guard := none }) (v := _) rfl (by kernel_rfl) (by kernel_rfl) (by kernel_rfl) (fun _ _ _ h => h) (Or.inl ⟨by rfl, ?hyA3⟩) ?reA3
  case hyA3 => (intro W hSw; (try dsimp only at hSw); go_simp; try with_reducible rfl)
  try simp only [Act.put, List.setIfInBounds_toArray, List.set_cons_zero, List.set_cons_succ]
  refine' wpAnyJ_takeW (i := 3) (oi := { dst := some 33, op := Op.fieldAddr 108 (Operand.tmp 32) 0, type := 0, pos := "table.go:41", after := #[{ on := 2, ground := Ground.data }], guard := none }) (v := _) rfl (by kernel_rfl) (by kernel_rfl) (by kernel_rfl) (fun _ _ _ h => h) (Or.inl ⟨by rfl, ?hyA4⟩) ?reA4
  case hyA4 => (intro W hSw; (try dsimp only at hSw); go_simp; try with_reducible rfl)
  try simp only [Act.put, List.setIfInBounds_toArray, List.set_cons_zero, List.set_cons_succ]
  refine' wpAnyJ_take (i := 4) (oi := { dst := some 34, op := Op.load 41 (Operand.tmp 33), type := 41, pos := "table.go:41", after := #[{ on := 3, ground := Ground.data }], guard := none }) (v := _) rfl (by kernel_rfl) (by kernel_rfl) (by kernel_rfl) (by kernel_rfl) (fun _ _ _ h => h) (Or.inl ⟨by rfl, ?hyA5⟩) (by assumption) ?reA5
  case hyA5 => (intro W hSw; (try dsimp only at hSw); go_simp; try with_reducible rfl)
  try simp only [Act.put, List.setIfInBounds_toArray, List.set_cons_zero, List.set_cons_succ]
  refine' wpAnyJ_take (i := 5) (oi := { dst := some 35, op := Op.load 34 (Operand.tmp 4), type := 34, pos := "table.go:41", after := #[], guard := none }) (v := _) rfl (by kernel_rfl) (by kernel_rfl) (by kernel_rfl) (by kernel_rfl) (fun _ _ _ h => h) (Or.inl ⟨by rfl, ?hyA6⟩) (by assumption) ?reA6
  case hyA6 => (intro W hSw; (try dsimp only at hSw); go_simp; try with_reducible rfl)
  try simp only [Act.put, List.setIfInBounds_toArray, List.set_cons_zero, List.set_cons_succ]
  refine wpAnyJ_ready (rs := [6]) (by kernel_rfl) (by simp) ?_
  refine AllReadyJ.cons (o := { dst := some 36, op := Op.buildSlice 41 1 #[(0, Operand.tmp 35)], type := 41, pos := "table.go:41", after := #[{ on := 5, ground := Ground.data }], guard := none }) rfl (fun K hK => ?_) AllReadyJ.nil
  go_simp
  refine hK.out _ _ (fun _ _ => CS8.out _ (below_on (below_drew w2) (below_alloc _ _))) ?_
  clear hK K
  try simp only [Act.put, List.setIfInBounds_toArray, List.set_cons_zero, List.set_cons_succ]
  refine wpAnyJ_ready (rs := [7]) (by kernel_rfl) (by simp) ?_
  refine AllReadyJ.cons (o := { dst := some 37, op := Op.call { callee := Callee.builtin Builtin.append, args := #[Operand.tmp 34, Operand.tmp 36], argTypes := #[41, 41] }, type := 41, pos := "table.go:41", after := #[{ on := 4, ground := Ground.data }, { on := 6, ground := Ground.data }], guard := none }) rfl (fun K hK => ?_) AllReadyJ.nil
  refine step_append_lies _ rfl (.tmp 34) (.tmp 36) 41 rfl 0 34 i32 (.agg #[.int .i64 0, .int .i64 0]) 2 16 Tryz.underlying41 hi32 hz0 hz1 hz2 rfl (by decide) (.slice ar rows.length cr) rows.length (ez rows) (by simp [Act.eval]) HO8.out ⟨w2.heap.size, 0, none⟩ 1 1 [.int .i64 a, .int .i64 b] (by simp [Act.eval]) rfl (by intro j u hj; match j, hj with | 0, hj => simp at hj; subst hj; simp [Addr.add] | 1, hj => simp at hj; subst hj; simp [Addr.add]) (by intro u hu; simp at hu; rcases hu with rfl | rfl <;> rfl) (by omega) (by unfold maxLen; omega) (by omega) (Nat.zero_le _) _ rfl ?_
  intro g9 c9 w9 ho9 hg9 ha9 _
  obtain ⟨m1, m2, m3, fz, HT3, HM3⟩ := K8.out g9 c9 w9 ho9 hg9 ha9
  clear ho9 hg9 ha9
  refine hK.out _ _ (fun _ _ => ⟨m1, m2, m3⟩) ?_
  clear hK K
  try simp only [Act.put, List.setIfInBounds_toArray, List.set_cons_zero, List.set_cons_succ]
  refine' wpAnyJ_takeW (i := 8) (oi := { dst := some 38, op := Op.nilCheck (Operand.tmp 30), type := 0, pos := "table.go:41", after := #[{ on := 0, ground := Ground.data }, { on := 0, ground := Ground.phase }, { on := 1, ground := Ground.phase }, { on := 2, ground := Ground.phase }, { on := 3, ground := Ground.phase }, { on := 4, ground := Ground.phase }, { on := 5, ground := Ground.phase }, { on := 6, ground := Ground.phase }, { on := 7, ground := Ground.phase }], guard := none }) (v := _) rfl (by kernel_rfl) (by kernel_rfl) (by kernel_rfl) (fun _ _ _ h => h) (Or.inl ⟨by rfl, ?hyA7⟩) ?reA7
  case hyA7 => (intro W hSw; (try dsimp only at hSw); go_simp; try with_reducible rfl)
  try simp only [Act.put, List.setIfInBounds_toArray, List.set_cons_zero, List.set_cons_succ]
  refine' wpAnyJ_takeW (i := 9) (oi := { dst := some 39, op := Op.fieldAddr 108 (Operand.tmp 38) 0, type := 0, pos := "table.go:41", after := #[{ on := 8, ground := Ground.data }, { on := 0, ground := Ground.phase }, { on := 1, ground := Ground.phase }, { on := 2, ground := Ground.phase }, { on := 3, ground := Ground.phase }, { on := 4, ground := Ground.phase }, { on := 5, ground := Ground.phase }, { on := 6, ground := Ground.phase }, { on := 7, ground := Ground.phase }], guard := none }) (v := _) rfl (by kernel_rfl) (by kernel_rfl) (by kernel_rfl) (fun _ _ _ h => h) (Or.inl ⟨by rfl, ?hyA8⟩) ?reA8
  case hyA8 => (intro W hSw; (try dsimp only at hSw); go_simp; try with_reducible rfl)
  try simp only [Act.put, List.setIfInBounds_toArray, List.set_cons_zero, List.set_cons_succ]
  refine wpAnyJ_ready (rs := [10]) (by kernel_rfl) (by simp) ?_
  refine AllReadyJ.cons (o := { dst := none, op := Op.store 41 (Operand.tmp 39) (Operand.tmp 37), type := 0, pos := "table.go:41", after := #[{ on := 9, ground := Ground.data }, { on := 7, ground := Ground.data }, { on := 7, ground := Ground.chain }, { on := 0, ground := Ground.phase }, { on := 1, ground := Ground.phase }, { on := 2, ground := Ground.phase }, { on := 3, ground := Ground.phase }, { on := 4, ground := Ground.phase }, { on := 5, ground := Ground.phase }, { on := 6, ground := Ground.phase }, { on := 7, ground := Ground.phase }], guard := none }) rfl (fun K hK => ?_) AllReadyJ.nil
  go_simp
  refine hK.out _ _ (fun h => absurd h (by decide)) ?_
  clear hK K
  try simp only [Act.put, List.setIfInBounds_toArray, List.set_cons_zero, List.set_cons_succ]
  refine wpAnyJ_done (by kernel_rfl) ?_ _
  refine NoPanic.normal ?_
  obtain ⟨lab3, HT3⟩ := HT3
  obtain ⟨w3, hw3⟩ : ∃ X, X = w9.setCell ⟨g, 0, none⟩ (.slice (some ⟨g9, 0, none⟩) (rows.length + 1) c9) := ⟨_, rfl⟩
  rw [← hw3] at HT3 HM3 ⊢
  clear hw3 m1 m2 m3 fz K8 HO8 CS8
  have hn1 : w3.drew.cell? ⟨g, 1, none⟩ = some (.map (some gm)) := (HT3.out.1.later (below_drew w3)).cell.2.1
  obtain ⟨hn2, hn3⟩ := BX w3.drew HM3.out.2
  obtain ⟨w4, hst, hmp4, htn4⟩ := (HT3.out.1.later (below_drew w3)).2.2.1.store (a, b) hb rows.length (by omega) hn
  obtain ⟨ht4, hmv4⟩ := (HT3.out.1.later (below_drew w3)).map_put (W' := w4) hmp4 htn4.grown
  have n1 := hn1
  have n2 := hn2
  have n3 := hn3
  have HT4 := hide ht4
  have HIV := hide HT3.out.2
  have HMP : Hid (Mv w w4 S) := (HM3.out.1.later (below_drew w3)).trans hmv4 (fun k _ e => by rw [e]; exact HREST.out.2.1.2.2.1)
  clear ht4 hmv4 hmp4 htn4 hn1 hn2 hn3
  dsimp only at hst
  go_wp2_with fail
  refine wp_region_noPanic ?_
  refine wp_region_late (J := fun i => i != 6) (S := fun W => W.cell? ⟨g, 1, none⟩ = some (.map (some gm)) ∧ W.cell? ⟨kx, 0, none⟩ = some (.int .i64 a) ∧ W.cell? ⟨kx, 1, none⟩ = some (.int .i64 b)) (by kernel_rfl) ⟨n1, n2, n3⟩ (fun hHeld => ?_)
  refine' wpAnyJ_takeW (i := 0) (oi := { dst := some 40, op := Op.move (Operand.tmp 0), type := 75, pos := "table.go:42", after := #[], guard := none }) (v := _) rfl (by kernel_rfl) (by kernel_rfl) (by kernel_rfl) (fun _ _ _ h => h) (Or.inl ⟨by rfl, ?hyB1⟩) ?reB1
  case hyB1 => (intro W hSw; (try dsimp only at hSw); go_simp; try with_reducible rfl)
  try simp only [Act.put, List.setIfInBounds_toArray, List.set_cons_zero, List.set_cons_succ]
  refine' wpAnyJ_takeW (i := 1) (oi := { dst := some 41, op := Op.nilCheck (Operand.tmp 40), type := 0, pos := "table.go:42", after := #[{ on := 0, ground := Ground.data }], guard := none }) (v := _) rfl (by kernel_rfl) (by kernel_rfl) (by kernel_rfl) (fun _ _ _ h => h) (Or.inl ⟨by rfl, ?hyB2⟩) ?reB2
  case hyB2 => (intro W hSw; (try dsimp only at hSw); go_simp; try with_reducible rfl)
  try simp only [Act.put, List.setIfInBounds_toArray, List.set_cons_zero, List.set_cons_succ]
  refine' wpAnyJ_takeW (i := 2) (oi := { dst := some 42, op := Op.fieldAddr 108 (Operand.tmp 41) 1, type := 0, pos := "table.go:42", after := #[{ on := 1, ground := Ground.data }], guard := none }) (v := _) rfl (by kernel_rfl) (by kernel_rfl) (by kernel_rfl) (fun _ _ _ h => h) (Or.inl ⟨by rfl, ?hyB3⟩) ?reB3
  case hyB3 => (intro W hSw; (try dsimp only at hSw); go_simp; try with_reducible rfl)
  try simp only [Act.put, List.setIfInBounds_toArray, List.set_cons_zero, List.set_cons_succ]
  refine' wpAnyJ_take (i := 3) (oi := { dst := some 43, op := Op.load 61 (Operand.tmp 42), type := 61, pos := "table.go:42", after := #[{ on := 2, ground := Ground.data }], guard := none }) (v := _) rfl (by kernel_rfl) (by kernel_rfl) (by kernel_rfl) (by kernel_rfl) (fun _ _ _ h => h) (Or.inl ⟨by rfl, ?hyB4⟩) (by assumption) ?reB4
  case hyB4 => (intro W hSw; (try dsimp only at hSw); go_simp; try with_reducible rfl)
  try simp only [Act.put, List.setIfInBounds_toArray, List.set_cons_zero, List.set_cons_succ]
  refine' wpAnyJ_take (i := 4) (oi := { dst := some 44, op := Op.load 34 (Operand.tmp 4), type := 34, pos := "table.go:42", after := #[], guard := none }) (v := _) rfl (by kernel_rfl) (by kernel_rfl) (by kernel_rfl) (by kernel_rfl) (fun _ _ _ h => h) (Or.inl ⟨by rfl, ?hyB5⟩) (by assumption) ?reB5
  case hyB5 => (intro W hSw; (try dsimp only at hSw); go_simp; try with_reducible rfl)
  try simp only [Act.put, List.setIfInBounds_toArray, List.set_cons_zero, List.set_cons_succ]
  refine' wpAnyJ_takeW (i := 5) (oi := { dst := some 45, op := Op.move (Operand.tmp 8), type := 3, pos := "table.go:42", after := #[], guard := none }) (v := _) rfl (by kernel_rfl) (by kernel_rfl) (by kernel_rfl) (fun _ _ _ h => h) (Or.inl ⟨by rfl, ?hyB6⟩) ?reB6
  case hyB6 => (intro W hSw; (try dsimp only at hSw); go_simp; try with_reducible rfl)
  try simp only [Act.put, List.setIfInBounds_toArray, List.set_cons_zero, List.set_cons_succ]
  refine wpAnyJ_ready (rs := [6]) (by kernel_rfl) (by simp) ?_
  refine AllReadyJ.cons (o := { dst := none, op := Op.mapUpdate 61 (Operand.tmp 43) (Operand.tmp 44) (Operand.tmp 45), type := 0, pos := "table.go:42", after := #[{ on := 3, ground := Ground.data }, { on := 4, ground := Ground.data }, { on := 5, ground := Ground.data }, { on := 0, ground := Ground.phase }, { on := 1, ground := Ground.phase }, { on := 2, ground := Ground.phase }, { on := 3, ground := Ground.phase }, { on := 4, ground := Ground.phase }, { on := 5, ground := Ground.phase }], guard := none }) rfl (fun K hK => ?_) AllReadyJ.nil
  go_simp
  refine hK.out _ _ (fun h => absurd h (by decide)) ?_
  clear hK K
  try simp only [Act.put, List.setIfInBounds_toArray, List.set_cons_zero, List.set_cons_succ]
  refine wpAnyJ_done (by kernel_rfl) ?_ _
  refine NoPanic.normal ?_
  go_upto_block 0 with fail
  clear hst n1 n2 n3
  have HC4 : Hid (∀ u ∈ cs, In (Nw w S) u) := fun u hu => (HREST.out.2.1.2.2.2.2 u hu).mono (fun k e => .inl e)
  have HCS := hide hcs
  have HT4' : Hid (Tm w4 lab3 g (.slice (some ⟨g9, 0, none⟩) (rows.length + 1) c9) gm (n + 1) (.slice ac cs.length cc) cs (fun x => if x = (a, b) then some rows.length else f x) (rows ++ [(a, b)]) (pcol cols vals 0)) := by
    rw [pcol_zero]
    exact HT4.out
  clear HT4
  go_wp2_with fail
  go_loopw [48] (fun v48 W => ∃ (j : Nat) (labj : Nat → Nat) (csj : List Value), j ≤ cols.length ∧ v48 = .int .i64 (j : Int) ∧ Hid (csj.length = cols.length) ∧ Hid (Tm W labj g (.slice (some ⟨g9, 0, none⟩) (rows.length + 1) c9) gm (n + 1) (.slice ac csj.length cc) csj (fun x => if x = (a, b) then some rows.length else f x) (rows ++ [(a, b)]) (pcol cols vals j)) ∧ Hid (Mv w W S) ∧ Hid (∀ u ∈ csj, In (Nw w S) u)) (fun v48 _ => cols.length - (intOf v48).toNat)
  case atStart => exact ⟨0, lab3, cs, Nat.zero_le _, rfl, HCS, HT4', HMP, HC4⟩
  case round =>
    obtain ⟨j, labj, csj, hjl, rfl, HCJ, HT, HMV, HIN⟩ := hrel
    clear HT4' HMP HC4
    by_cases hj : j < cols.length
    · have t5 : (j : Int) < (cols.length : Int) := by omega
      have hcj := HCJ.out
      obtain ⟨gc, cc', ec, -, -⟩ := own_form HT.out.2.2.2.1 (by omega)
      simp only [Value.slice.injEq] at ec
      obtain ⟨rfl, -, rfl⟩ := ec
      obtain ⟨av', cv', ev', hv1, hv2, hv3⟩ := HV.out.frame HMV.out (fun k e => (HVS.out k e).1)
      simp only [Value.slice.injEq] at ev'
      obtain ⟨rfl, -, rfl⟩ := ev'
      obtain ⟨gv, ov, rfl, hvc⟩ := hv3 j (by omega)
      obtain ⟨x, hx⟩ : ∃ x, x = vals[j]'(by omega) := ⟨_, rfl⟩
      rw [← hx] at hvc
      have hxg : vals.getD j 0 = x := by rw [List.getD_eq_getElem?_getD, List.getElem?_eq_getElem (by omega), hx]; rfl
      have hpl : j < (pcol cols vals j).length := by rw [pcol_len]; exact hj
      have hrow := HT.out.2.2.2.2.2.1 j (by omega) hpl
      have hpc : (pcol cols vals j)[j] = cols[j] := by rw [pcol_at _ _ _ _ hj, if_neg (Nat.lt_irrefl _)]
      rw [hpc] at hrow
      have hln : cols[j].length = rows.length := HREST.out.1 _ (List.getElem_mem hj)
      rw [hln] at hrow
      obtain ⟨aj, cj, hvj⟩ := own_len hrow
      have HVJ := hide hvj
      have HHX := hide hxg
      obtain ⟨colj, hcolj⟩ : ∃ c, c = cols[j] := ⟨_, rfl⟩
      rw [← hcolj] at hrow
      have HCO := hide hcolj
      rw [hvj] at hrow
      have CS13 : Hid (∀ W, Below wr.heap.size wr W → W.cell? ⟨g, 2, none⟩ = some (.slice (some ⟨gc, 0, none⟩) cols.length cc) ∧ W.cell? ⟨gc, j, none⟩ = some (.slice aj rows.length cj)) := fun W hbw => by
        have h1 := HT.out.later hbw
        refine ⟨?_, ?_⟩
        · have := h1.cell.2.2
          rw [hcj] at this
          exact this
        · rw [← HVJ.out]
          exact own_slices h1.2.2.2.1 j (by omega)
      have HO13 : Hid ((wr.drew.alloc (.cells #[.int .i64 x] 2)).ownsRow 0 2 1 (.slice aj rows.length cj) rows.length (zc colj)) := own_later hrow (below_on (below_drew wr) (below_alloc _ _))
      have K13 : Hid (∀ (g9' c9' : Nat) (w9 : World), w9.ownsRow 0 2 1 (.slice (some ⟨g9', 0, none⟩) (rows.length + 1) c9') (rows.length + 1) (zc colj ++ [.int .i64 x]) → (wr.drew.alloc (.cells #[.int .i64 x] 2)).grownBy w9 (Value.slice aj rows.length cj).ownBlock → ((Value.slice aj rows.length cj).ownBlock = some g9' ∨ g9' = (wr.drew.alloc (.cells #[.int .i64 x] 2)).heap.size) →
          w9.cell? ⟨g, 2, none⟩ = some (.slice (some ⟨gc, 0, none⟩) cols.length cc) ∧ w9.cell? ⟨gc, j, none⟩ = some (.slice aj rows.length cj) ∧ w9.frozen? ⟨gc, j, none⟩ = false ∧
          (∃ lab' csk, Hid (csk.length = cols.length) ∧ Hid (Tm (w9.setCell ⟨gc, j, none⟩ (.slice (some ⟨g9', 0, none⟩) (rows.length + 1) c9')) lab' g (.slice (some ⟨g9, 0, none⟩) (rows.length + 1) c9) gm (n + 1) (.slice (some ⟨gc, 0, none⟩) csk.length cc) csk (fun x => if x = (a, b) then some rows.length else f x) (rows ++ [(a, b)]) (pcol cols vals (j + 1))) ∧ Hid (∀ u ∈ csk, In (Nw w S) u)) ∧ Hid (Mv w (w9.setCell ⟨gc, j, none⟩ (.slice (some ⟨g9', 0, none⟩) (rows.length + 1) c9')) S)) := fun g9' c9' w9 h1 h2 h3 => by
        have hbb := below_on (below_drew wr) (below_alloc wr.drew (.cells #[.int .i64 x] 2))
        have hjc : j < csj.length := by omega
        have hv := HVJ.out
        have hco := HCO.out
        have hlen : (colj ++ [x]).length = rows.length + 1 := by rw [List.length_append, hco, hln]; rfl
        have h1' : w9.ownsRow 0 2 1 (.slice (some ⟨g9', 0, none⟩) (rows.length + 1) c9') (colj ++ [x]).length (zc (colj ++ [x])) := by
          rw [zc_append, hlen]
          exact h1
        have ha : (Value.slice (some ⟨g9', 0, none⟩) (rows.length + 1) c9').ownBlock = (csj[j]).ownBlock ∨ (Value.slice (some ⟨g9', 0, none⟩) (rows.length + 1) c9').ownBlock = some (wr.drew.alloc (.cells #[.int .i64 x] 2)).heap.size := by
          rw [hv]
          rcases h3 with h | h
          · exact .inl h.symm
          · exact .inr (by rw [h]; rfl)
        have h2' : (wr.drew.alloc (.cells #[.int .i64 x] 2)).grownBy w9 (csj[j]).ownBlock := by rw [hv]; exact h2
        obtain ⟨z1, z2, z3, z4⟩ := HT.out.col_put (v' := .slice (some ⟨g9', 0, none⟩) (rows.length + 1) c9') (col := colj ++ [x]) hjc hbb h1' h2' ha
        have hpp : (pcol cols vals j).set j (colj ++ [x]) = pcol cols vals (j + 1) := by rw [hco, ← HHX.out]; exact pcol_step cols vals j hj
        rw [hpp] at z1
        have hgt : w9.cell? ⟨g, 2, none⟩ = some (.slice (some ⟨gc, 0, none⟩) cols.length cc) := by
          have hl7 := HT.out.2.2.2.2.2.2.1
          have hl11 := HT.out.2.2.2.2.2.2.2.2.2.2 j hjc
          have := h2'.cell (CS13.out _ hbb).1 (fun e => by have := hl11 g e.symm; omega)
          exact this
        have hgcS : S gc := HREST.out.2.1.2.2.2.1 gc rfl
        rw [hv] at z3
        refine ⟨hgt, z3, z4, ⟨ext labj (wr.drew.alloc (.cells #[.int .i64 x] 2)).heap.size (4 + j), csj.set j (.slice (some ⟨g9', 0, none⟩) (rows.length + 1) c9'), ?_, ?_, fun u hu => ?_⟩, HMV.out.trans z2 (fun k hk e => ?_)⟩
        · show (csj.set j _).length = cols.length
          rw [List.length_set]
          exact hcj
        · show Tm _ _ _ _ _ _ (.slice (some ⟨gc, 0, none⟩) (csj.set j _).length cc) _ _ _ _
          rw [List.length_set]
          exact z1
        · rcases List.mem_or_eq_of_mem_set hu with hu | rfl
          · exact HIN.out u hu
          · intro k e
            rcases ha with ha | ha
            · exact HIN.out _ (List.getElem_mem hjc) k (ha ▸ e)
            · rw [e] at ha
              have := Option.some.inj ha
              exact .inr (by have := hbb.size; have := HMV.out.size; omega)
        · rcases e with e | e
          · exact e ▸ hgcS
          · rcases HIN.out _ (List.getElem_mem hjc) k e with h | h
            · exact h
            · omega
      have d2 := (CS13.out wr (Below.refl _ _)).1
      clear hvj HVJ HCO HHX hrow hx hxg hcolj hv1 hv2 hv3
      clear hpc hln hpl hcj
      go_upto_region 13 with fail
      refine wp_region_noPanic ?_
      refine wp_region_late (J := fun i => i != 16) (S := fun W => W.cell? ⟨g, 2, none⟩ = some (.slice (some ⟨gc, 0, none⟩) cols.length cc) ∧ W.cell? ⟨gc, j, none⟩ = some (.slice aj rows.length cj)) (by kernel_rfl) (CS13.out _ (below_drew wr)) (fun hHeld => ?_)
      refine' wpAnyJ_takeW (i := 0) (oi := { dst := some 53, op := Op.move (Operand.tmp 0), type := 75, pos := "table.go:44", after := #[], guard := none }) (v := _) rfl (by kernel_rfl) (by kernel_rfl) (by kernel_rfl) (fun _ _ _ h => h) (Or.inl ⟨by rfl, ?hyC1⟩) ?reC1
      case hyC1 => (intro W hSw; (try dsimp only at hSw); go_simp; try with_reducible rfl)
      try simp only [Act.put, List.setIfInBounds_toArray, List.set_cons_zero, List.set_cons_succ]
      refine' wpAnyJ_takeW (i := 1) (oi := { dst := some 54, op := Op.nilCheck (Operand.tmp 53), type := 0, pos := "table.go:44", after := #[{ on := 0, ground := Ground.data }], guard := none }) (v := _) rfl (by kernel_rfl) (by kernel_rfl) (by kernel_rfl) (fun _ _ _ h => h) (Or.inl ⟨by rfl, ?hyC2⟩) ?reC2
      case hyC2 => (intro W hSw; (try dsimp only at hSw); go_simp; try with_reducible rfl)
      try simp only [Act.put, List.setIfInBounds_toArray, List.set_cons_zero, List.set_cons_succ]
      refine' wpAnyJ_takeW (i := 2) (oi := { dst := some 55, op := Op.fieldAddr 108 (Operand.tmp 54) 2, type := 0, pos := "table.go:44", after := #[{ on := 1, ground := Ground.data }], guard := none }) (v := _) rfl (by kernel_rfl) (by kernel_rfl) (by kernel_rfl) (fun _ _ _ h => h) (Or.inl ⟨by rfl, ?hyC3⟩) ?reC3
      case hyC3 => (intro W hSw; (try dsimp only at hSw); go_simp; try with_reducible rfl)
      try simp only [Act.put, List.setIfInBounds_toArray, List.set_cons_zero, List.set_cons_succ]
      refine' wpAnyJ_take (i := 3) (oi := { dst := some 56, op := Op.load 106 (Operand.tmp 55), type := 106, pos := "table.go:44", after := #[{ on := 2, ground := Ground.data }], guard := none }) (v := _) rfl (by kernel_rfl) (by kernel_rfl) (by kernel_rfl) (by kernel_rfl) (fun _ _ _ h => h) (Or.inl ⟨by rfl, ?hyC4⟩) (by assumption) ?reC4
      case hyC4 => (intro W hSw; (try dsimp only at hSw); go_simp; try with_reducible rfl)
      try simp only [Act.put, List.setIfInBounds_toArray, List.set_cons_zero, List.set_cons_succ]
      refine' wpAnyJ_takeW (i := 4) (oi := { dst := some 57, op := Op.move (Operand.tmp 9), type := 3, pos := "table.go:44", after := #[], guard := none }) (v := _) rfl (by kernel_rfl) (by kernel_rfl) (by kernel_rfl) (fun _ _ _ h => h) (Or.inl ⟨by rfl, ?hyC5⟩) ?reC5
      case hyC5 => (intro W hSw; (try dsimp only at hSw); go_simp; try with_reducible rfl)
      try simp only [Act.put, List.setIfInBounds_toArray, List.set_cons_zero, List.set_cons_succ]
      refine' wpAnyJ_takeW (i := 5) (oi := { dst := some 58, op := Op.move (Operand.tmp 0), type := 75, pos := "table.go:44", after := #[], guard := none }) (v := _) rfl (by kernel_rfl) (by kernel_rfl) (by kernel_rfl) (fun _ _ _ h => h) (Or.inl ⟨by rfl, ?hyC6⟩) ?reC6
      case hyC6 => (intro W hSw; (try dsimp only at hSw); go_simp; try with_reducible rfl)
      try simp only [Act.put, List.setIfInBounds_toArray, List.set_cons_zero, List.set_cons_succ]
      refine' wpAnyJ_takeW (i := 6) (oi := { dst := some 59, op := Op.nilCheck (Operand.tmp 58), type := 0, pos := "table.go:44", after := #[{ on := 5, ground := Ground.data }], guard := none }) (v := _) rfl (by kernel_rfl) (by kernel_rfl) (by kernel_rfl) (fun _ _ _ h => h) (Or.inl ⟨by rfl, ?hyC7⟩) ?reC7
      case hyC7 => (intro W hSw; (try dsimp only at hSw); go_simp; try with_reducible rfl)
      try simp only [Act.put, List.setIfInBounds_toArray, List.set_cons_zero, List.set_cons_succ]
      refine' wpAnyJ_takeW (i := 7) (oi := { dst := some 60, op := Op.fieldAddr 108 (Operand.tmp 59) 2, type := 0, pos := "table.go:44", after := #[{ on := 6, ground := Ground.data }], guard := none }) (v := _) rfl (by kernel_rfl) (by kernel_rfl) (by kernel_rfl) (fun _ _ _ h => h) (Or.inl ⟨by rfl, ?hyC8⟩) ?reC8
      case hyC8 => (intro W hSw; (try dsimp only at hSw); go_simp; try with_reducible rfl)
      try simp only [Act.put, List.setIfInBounds_toArray, List.set_cons_zero, List.set_cons_succ]
      refine' wpAnyJ_take (i := 8) (oi := { dst := some 61, op := Op.load 106 (Operand.tmp 60), type := 106, pos := "table.go:44", after := #[{ on := 7, ground := Ground.data }], guard := none }) (v := _) rfl (by kernel_rfl) (by kernel_rfl) (by kernel_rfl) (by kernel_rfl) (fun _ _ _ h => h) (Or.inl ⟨by rfl, ?hyC9⟩) (by assumption) ?reC9
      case hyC9 => (intro W hSw; (try dsimp only at hSw); go_simp; try with_reducible rfl)
      try simp only [Act.put, List.setIfInBounds_toArray, List.set_cons_zero, List.set_cons_succ]
      refine' wpAnyJ_takeW (i := 9) (oi := { dst := some 62, op := Op.move (Operand.tmp 9), type := 3, pos := "table.go:44", after := #[], guard := none }) (v := _) rfl (by kernel_rfl) (by kernel_rfl) (by kernel_rfl) (fun _ _ _ h => h) (Or.inl ⟨by rfl, ?hyC10⟩) ?reC10
      case hyC10 => (intro W hSw; (try dsimp only at hSw); go_simp; try with_reducible rfl)
      try simp only [Act.put, List.setIfInBounds_toArray, List.set_cons_zero, List.set_cons_succ]
      refine' wpAnyJ_takeW (i := 10) (oi := { dst := some 63, op := Op.indexAddr 106 (Operand.tmp 61) (Operand.tmp 62), type := 0, pos := "table.go:44", after := #[{ on := 8, ground := Ground.data }, { on := 9, ground := Ground.data }], guard := none }) (v := _) rfl (by kernel_rfl) (by kernel_rfl) (by kernel_rfl) (fun _ _ _ h => h) (Or.inl ⟨by rfl, ?hyC11⟩) ?reC11
      case hyC11 => (intro W hSw; (try dsimp only at hSw); go_simp; try with_reducible rfl)
      try simp only [Act.put, List.setIfInBounds_toArray, List.set_cons_zero, List.set_cons_succ]
      refine' wpAnyJ_take (i := 11) (oi := { dst := some 64, op := Op.load 35 (Operand.tmp 63), type := 35, pos := "table.go:44", after := #[{ on := 10, ground := Ground.data }], guard := none }) (v := _) rfl (by kernel_rfl) (by kernel_rfl) (by kernel_rfl) (by kernel_rfl) (fun _ _ _ h => h) (Or.inl ⟨by rfl, ?hyC12⟩) (by assumption) ?reC12
      case hyC12 => (intro W hSw; (try dsimp only at hSw); go_simp; try with_reducible rfl)
      try simp only [Act.put, List.setIfInBounds_toArray, List.set_cons_zero, List.set_cons_succ]
      refine' wpAnyJ_takeW (i := 12) (oi := { dst := some 65, op := Op.move (Operand.tmp 10), type := 2, pos := "table.go:44", after := #[], guard := none }) (v := _) rfl (by kernel_rfl) (by kernel_rfl) (by kernel_rfl) (fun _ _ _ h => h) (Or.inl ⟨by rfl, ?hyC13⟩) ?reC13
      case hyC13 => (intro W hSw; (try dsimp only at hSw); go_simp; try with_reducible rfl)
      try simp only [Act.put, List.setIfInBounds_toArray, List.set_cons_zero, List.set_cons_succ]
      refine wpAnyJ_ready (rs := [13]) (by kernel_rfl) (by simp) ?_
      refine AllReadyJ.cons (o := { dst := some 66, op := Op.buildSlice 35 1 #[(0, Operand.tmp 65)], type := 35, pos := "table.go:44", after := #[{ on := 12, ground := Ground.data }], guard := none }) rfl (fun K hK => ?_) AllReadyJ.nil
      go_simp
      refine hK.out _ _ (fun _ _ => CS13.out _ (below_on (below_drew wr) (below_alloc _ _))) ?_
      clear hK K
      try simp only [Act.put, List.setIfInBounds_toArray, List.set_cons_zero, List.set_cons_succ]
      refine wpAnyJ_ready (rs := [14]) (by kernel_rfl) (by simp) ?_
      refine AllReadyJ.cons (o := { dst := some 67, op := Op.call { callee := Callee.builtin Builtin.append, args := #[Operand.tmp 64, Operand.tmp 66], argTypes := #[35, 35] }, type := 35, pos := "table.go:44", after := #[{ on := 11, ground := Ground.data }, { on := 13, ground := Ground.data }], guard := none }) rfl (fun K hK => ?_) AllReadyJ.nil
      refine step_append_lies _ rfl (.tmp 64) (.tmp 66) 35 rfl 0 2 i2 (.int .i64 0) 1 8 Tryz.underlying35 hi2 hx0 hx1 hx2 rfl (by decide) (.slice aj rows.length cj) rows.length (zc colj) (by simp [Act.eval]) HO13.out ⟨wr.heap.size, 0, none⟩ 1 1 [.int .i64 x] (by simp [Act.eval]) rfl (by intro j u hj; match j, hj with | 0, hj => simp at hj; subst hj; simp [Addr.add]) (by intro u hu; simp at hu; subst hu; rfl) (by omega) (by unfold maxLen; omega) (by omega) (Nat.zero_le _) _ rfl ?_
      intro g8 c8 w9 ho9 hg9 ha9 _
      obtain ⟨m1, m2, fz, HT3, HM3⟩ := K13.out g8 c8 w9 ho9 hg9 ha9
      clear ho9 hg9 ha9
      refine hK.out _ _ (fun _ _ => ⟨m1, m2⟩) ?_
      clear hK K
      try simp only [Act.put, List.setIfInBounds_toArray, List.set_cons_zero, List.set_cons_succ]
      refine' wpAnyJ_takeW (i := 15) (oi := { dst := some 68, op := Op.indexAddr 106 (Operand.tmp 56) (Operand.tmp 57), type := 0, pos := "table.go:44", after := #[{ on := 3, ground := Ground.data }, { on := 4, ground := Ground.data }, { on := 0, ground := Ground.phase }, { on := 1, ground := Ground.phase }, { on := 2, ground := Ground.phase }, { on := 3, ground := Ground.phase }, { on := 4, ground := Ground.phase }, { on := 5, ground := Ground.phase }, { on := 6, ground := Ground.phase }, { on := 7, ground := Ground.phase }, { on := 8, ground := Ground.phase }, { on := 9, ground := Ground.phase }, { on := 10, ground := Ground.phase }, { on := 11, ground := Ground.phase }, { on := 12, ground := Ground.phase }, { on := 13, ground := Ground.phase }, { on := 14, ground := Ground.phase }], guard := none }) (v := _) rfl (by kernel_rfl) (by kernel_rfl) (by kernel_rfl) (fun _ _ _ h => h) (Or.inl ⟨by rfl, ?hyC14⟩) ?reC14
      case hyC14 => (intro W hSw; (try dsimp only at hSw); go_simp; try with_reducible rfl)
      try simp only [Act.put, List.setIfInBounds_toArray, List.set_cons_zero, List.set_cons_succ]
      refine wpAnyJ_ready (rs := [16]) (by kernel_rfl) (by simp) ?_
      refine AllReadyJ.cons (o := { dst := none, op := Op.store 35 (Operand.tmp 68) (Operand.tmp 67), type := 0, pos := "table.go:44", after := #[{ on := 15, ground := Ground.data }, { on := 14, ground := Ground.data }, { on := 14, ground := Ground.chain }, { on := 0, ground := Ground.phase }, { on := 1, ground := Ground.phase }, { on := 2, ground := Ground.phase }, { on := 3, ground := Ground.phase }, { on := 4, ground := Ground.phase }, { on := 5, ground := Ground.phase }, { on := 6, ground := Ground.phase }, { on := 7, ground := Ground.phase }, { on := 8, ground := Ground.phase }, { on := 9, ground := Ground.phase }, { on := 10, ground := Ground.phase }, { on := 11, ground := Ground.phase }, { on := 12, ground := Ground.phase }, { on := 13, ground := Ground.phase }, { on := 14, ground := Ground.phase }], guard := none }) rfl (fun K hK => ?_) AllReadyJ.nil
      go_simp
      refine hK.out _ _ (fun h => absurd h (by decide)) ?_
      clear hK K
      try simp only [Act.put, List.setIfInBounds_toArray, List.set_cons_zero, List.set_cons_succ]
      refine wpAnyJ_done (by kernel_rfl) ?_ _
      refine NoPanic.normal ?_
      obtain ⟨lab9, csk, HCK, HTK, HIK⟩ := HT3
      clear m1 m2 fz K13 HO13 CS13
      go_wp2_with fail
      go_roundw
      case rel => exact ⟨j + 1, lab9, csk, by omega, by go_num, HCK, HTK, HM3, HIK⟩
      case measure => simp [intOf]; omega
    · obtain rfl : j = cols.length := by omega
      have t5 : ¬ (cols.length : Int) < (cols.length : Int) := by omega
      go_wp2_with fail
      go_ret2
      obtain ⟨hcl, ⟨s1, s2, s3, s4, s5⟩, hib⟩ := HREST.out
      unfold addRow
      refine ⟨rfl, ⟨labj, _, gm, _, csj, _, HT.out, HIX.out.add he, fun c hc => ?_, ⟨.inl s1, HIV.out, .inl s3, fun k e => .inl (s4 k (by cases ac <;> exact e)), HIN.out⟩, fun e' he' => ?_, by simp; omega, by rw [pcol_len]; exact hc48⟩, HMV.out⟩
      · obtain ⟨i, hi, rfl⟩ := List.getElem_of_mem hc
        have hi' : i < cols.length := by rw [pcol_len] at hi; exact hi
        rw [pcol_at _ _ _ _ hi', if_pos hi', List.length_append, hcl _ (List.getElem_mem hi'), List.length_append]
        rfl
      · rw [List.mem_append] at he'
        rcases he' with he' | he'
        · exact hib e' he'
        · simp at he'
          rw [he']
          exact hb
end
end Go.Proofs.YtfbhoemfabgjpaaGreat
