/-
  Remove.
-/
import Derived.Test.YtfbhoemfabgjpaaGreatTAdd
namespace Go.Proofs.YtfbhoemfabgjpaaGreat
open Go.RowKit
set_option maxRecDepth 100000
theorem Mp.mono {w : World} {gm n n' : Nat} {f : Int × Int → Option Nat} (h : Mp w gm n f) (hn : n ≤ n') : Mp w gm n' f := by
  obtain ⟨D, h1, h2⟩ := h
  exact ⟨D, h1.mono hn, h2⟩
/-- The first i columns without a row. -/
def prem (cols : List (List Int)) (row i : Nat) : List (List Int) := cols.mapIdx fun j c => if j < i then rem c row else c
theorem prem_len (cols : List (List Int)) (row i : Nat) : (prem cols row i).length = cols.length := by simp [prem]
theorem prem_at (cols : List (List Int)) (row i j : Nat) (hj : j < cols.length) : (prem cols row i)[j]'(by rw [prem_len]; exact hj) = if j < i then rem cols[j] row else cols[j] := by simp [prem]
theorem prem_zero (cols : List (List Int)) (row : Nat) : prem cols row 0 = cols := by
  apply List.ext_getElem (by rw [prem_len])
  intro j h1 h2
  rw [prem_at _ _ _ _ h2, if_neg (by omega)]
theorem prem_step (cols : List (List Int)) (row i : Nat) (hi : i < cols.length) : (prem cols row i).set i (rem cols[i] row) = prem cols row (i + 1) := by
  apply List.ext_getElem (by simp [prem_len])
  intro j h1 h2
  have hj : j < cols.length := by rw [prem_len] at h2; exact h2
  rw [List.getElem_set, prem_at _ _ _ _ hj, prem_at _ _ _ _ hj]
  by_cases e : i = j
  · subst e; rw [if_pos rfl, if_pos (by omega)]
  · rw [if_neg e]
    by_cases e2 : j < i
    · rw [if_pos e2, if_pos (by omega)]
    · rw [if_neg e2, if_neg (by omega)]
def remCols (cols : List (List Int)) (row : Nat) : List (List Int) := prem cols row cols.length
theorem own_rem_ent {w : World} {gr cr row : Nat} {rows : List (Int × Int)} (h : w.ownsRow 0 34 2 (.slice (some ⟨gr, 0, none⟩) rows.length cr) rows.length (ez rows)) (hr : row < rows.length) :
    ((w.setCell ⟨gr, row * 2, none⟩ (.int .i64 (rows[rows.length - 1]'(by omega)).1)).setCell ⟨gr, row * 2 + 1, none⟩ (.int .i64 (rows[rows.length - 1]'(by omega)).2)).ownsRow 0 34 2 (.slice (some ⟨gr, 0, none⟩) (rows.length - 1) cr) (rem rows row).length (ez (rem rows row)) := by
  have h1 := ((h.stored (row * 2) (.int .i64 (rows[rows.length - 1]'(by omega)).1)).1.stored (row * 2 + 1) (.int .i64 (rows[rows.length - 1]'(by omega)).2)).1
  rw [ez_set rows row _ _ hr] at h1
  have h2 := own_prefix h1 (n := rows.length - 1) (by omega)
  rw [ez_take] at h2
  have e : rows.getD (rows.length - 1) default = rows[rows.length - 1]'(by omega) := by rw [List.getD_eq_getElem?_getD, List.getElem?_eq_getElem (by omega)]; rfl
  rw [rem_len]
  unfold rem
  rw [e]
  exact h2
theorem own_rem_num {w : World} {gj cj row : Nat} {col : List Int} (h : w.ownsRow 0 2 1 (.slice (some ⟨gj, 0, none⟩) col.length cj) col.length (zc col)) (hr : row < col.length) :
    (w.setCell ⟨gj, row, none⟩ (.int .i64 (col[col.length - 1]'(by omega)))).ownsRow 0 2 1 (.slice (some ⟨gj, 0, none⟩) (col.length - 1) cj) (rem col row).length (zc (rem col row)) := by
  have h1 := (h.stored row (.int .i64 (col[col.length - 1]'(by omega)))).1
  rw [zc_set] at h1
  have h2 := own_prefix h1 (n := col.length - 1) (by omega)
  rw [Nat.mul_one, zc_take] at h2
  have e : col.getD (col.length - 1) default = col[col.length - 1]'(by omega) := by rw [List.getD_eq_getElem?_getD, List.getElem?_eq_getElem (by omega)]; rfl
  rw [rem_len]
  unfold rem
  rw [e]
  exact h2
theorem grown_drew (w : World) (r : Option Nat) : w.grownBy w.drew r := ⟨rfl, rfl, rfl, Nat.le_refl _, fun _ _ _ => rfl⟩
theorem grown_two {w w1 w2 : World} {r : Option Nat} (h : w.grownBy w1 r) (k : w1.grownBy w2 r) : w.grownBy w2 r := ⟨k.os.trans h.os, k.tape.trans h.tape, k.output.trans h.output, Nat.le_trans h.size k.size, fun i hi hn => (k.block i (Nat.lt_of_lt_of_le hi h.size) hn).trans (h.block i hi hn)⟩
section
variable {w : World} {S : Nat → Prop} {g n : Nat} {rows : List (Int × Int)} {cols : List (List Int)}
theorem remove_bad (h : Tb w S g n rows cols) (x : Int) (hx : ¬ (0 ≤ x ∧ x < (rows.length : Int))) : Calls Tryz.prog 93 #[.pointer (some ⟨g, 0, none⟩), .int .i64 x] w fun e w' => e = .returned (.tuple #[.agg #[.int .i64 0, .int .i64 0], .bool false, .int .i64 50]) ∧ Below w.heap.size w w' := by
  have J : Hid (∀ W, Below w.heap.size w W → Calls Tryz.prog 97 #[.pointer (some ⟨g, 0, none⟩), .int .i64 x] W fun e w' => e = .returned (.bool false) ∧ w' = W) := fun W hb => by
    have := hasrow_any (h.later hb) x
    rw [decide_eq_false hx] at this
    exact this
  go_enter Tryz.func93, Tryz.ntmps93
  go_wp2_with fail
  refine (J.out _ (below_alloc w _)).mono ?_
  rintro e w1 ⟨rfl, rfl⟩
  go_wp2_with fail
  (try simp only [Exit.inBlock, Exit.then])
  refine bodyPost_ret (v := .tuple #[.agg #[.int .i64 0, .int .i64 0], .bool false, .int .i64 50]) ?_ rfl ⟨rfl, below_alloc w _⟩
  rw [results_cell2 rfl]
  go_simp
set_option maxHeartbeats 40000000 in
set_option maxRecDepth 1000000 in
theorem remove_any (h : Tb w S g n rows cols) (row : Nat) (hr : row < rows.length) (hn : n ≤ 1000000) :
    Calls Tryz.prog 93 #[.pointer (some ⟨g, 0, none⟩), .int .i64 (row : Int)] w fun e w' => e = .returned (.tuple #[if row = rows.length - 1 then .agg #[.int .i64 0, .int .i64 0] else .agg #[.int .i64 (rows[rows.length - 1]'(by omega)).1, .int .i64 (rows[rows.length - 1]'(by omega)).2], .bool (decide (row ≠ rows.length - 1)), .int .i64 0]) ∧ Tb w' S g (n + 1) (rem rows row) (remCols cols row) ∧ Mv w w' S := by
  have J : Hid (∀ W, Below w.heap.size w W → Calls Tryz.prog 97 #[.pointer (some ⟨g, 0, none⟩), .int .i64 (row : Int)] W fun e w' => e = .returned (.bool true) ∧ w' = W) := fun W hb => by
    have := hasrow_any (h.later hb) (row : Int)
    rw [decide_eq_true ⟨by omega, by omega⟩] at this
    exact this
  obtain ⟨lab, vr, gm, vc, cs, f, hm, hix, hcl, ⟨s1, s2, s3, s4, s5⟩, hib, hr2, hc48⟩ := h
  obtain ⟨ac, cc, rfl⟩ := own_len hm.2.2.2.1
  obtain ⟨gr, cr, rfl, hcr1, hcr2⟩ := own_form hm.2.1 (by omega)
  have hcs := hm.2.2.2.2.1
  have HM := hide hm
  have HIX := hide hix
  have HREST := hide (And.intro hcl (And.intro (And.intro s1 (And.intro s2 (And.intro s3 (And.intro s4 s5)))) hib))
  have hcc := (own_cap hm.2.2.2.1)
  have hll : rows.length - 1 < rows.length := by omega
  obtain ⟨r1, hr1⟩ : ∃ r, r = rows[row].1 := ⟨_, rfl⟩
  obtain ⟨r2, hr2'⟩ : ∃ r, r = rows[row].2 := ⟨_, rfl⟩
  obtain ⟨l1, hl1⟩ : ∃ r, r = (rows[rows.length - 1]'hll).1 := ⟨_, rfl⟩
  obtain ⟨l2, hl2⟩ : ∃ r, r = (rows[rows.length - 1]'hll).2 := ⟨_, rfl⟩
  obtain ⟨last, hlast⟩ : ∃ l, l = rows.length - 1 := ⟨_, rfl⟩
  have CE : Hid (∀ W, Below w.heap.size w W → W.cell? ⟨g, 0, none⟩ = some (.slice (some ⟨gr, 0, none⟩) rows.length cr) ∧ W.cell? ⟨gr, last * 2, none⟩ = some (.int .i64 l1) ∧ W.cell? ⟨gr, last * 2 + 1, none⟩ = some (.int .i64 l2)) := fun W hb => by
    have hw := HM.out.later hb
    have := own_ent hw.2.1 (rows.length - 1) (by omega)
    rw [hl1, hl2, hlast]
    exact ⟨hw.cell.1, this.1, this.2⟩
  have tl : (rows.length : Int) - 1 = (last : Int) := by omega
  have tl2 : (last : Int) < (rows.length : Int) := by omega
  have tr : (row : Int) < (rows.length : Int) := by omega
  have trl : row ≤ last := by omega
  have HLAST : Hid (last = rows.length - 1) := hlast
  have HR12 : Hid (r1 = rows[row].1 ∧ r2 = rows[row].2) := ⟨hr1, hr2'⟩
  have HL12 : Hid (l1 = (rows[rows.length - 1]'hll).1 ∧ l2 = (rows[rows.length - 1]'hll).2) := ⟨hl1, hl2⟩
  clear hm hix hcl s1 s2 s3 s4 s5 hib hlast hr1 hr2' hl1 hl2
  have tw : IntKind.i64.wrap (last : Int) = (last : Int) := by rw [IntKind.wrap_i64]; omega
  go_enter Tryz.func93, Tryz.ntmps93
  go_wp2_with fail
  refine (J.out _ (below_alloc w _)).mono ?_
  rintro e w1 ⟨rfl, hw1⟩
  obtain ⟨kb, hkb⟩ : ∃ k, k = w.heap.size := ⟨_, rfl⟩
  have B1 : Below w.heap.size w w1 := hw1 ▸ below_alloc w _
  have hbx1 : w1.heap[kb]? = some (.cells #[.int .i64 0, .int .i64 0] 34 (0, 0)) := by rw [hkb, hw1]; exact heap_alloc_new w _
  obtain ⟨d0, d1, d2⟩ := CE.out w1 B1
  have HW1 := hide hw1
  have HKB := hide hkb
  rw [← hkb]
  clear hw1 hkb J
  go_upto_region 5 with fail
  obtain ⟨w3, hw3⟩ : ∃ X, X = w1.alloc (.cells #[.int .i64 l1, .int .i64 l2] 34) := ⟨_, rfl⟩
  have B3 : Below w1.heap.size w1 w3 := hw3 ▸ below_alloc w1 _
  have hbx3 : w3.heap[w1.heap.size]? = some (.cells #[.int .i64 l1, .int .i64 l2] 34 (0, 0)) := hw3 ▸ heap_alloc_new w1 _
  rw [← hw3]
  obtain ⟨k8, hk8⟩ : ∃ k, k = w1.heap.size := ⟨_, rfl⟩
  rw [← hk8] at hbx3 ⊢
  have hbxb : w3.heap[kb]? = some (.cells #[.int .i64 0, .int .i64 0] 34 (0, 0)) := (B3.block kb (lt_of_block hbx1)).trans hbx1
  have C3 : Hid (Below w.heap.size w w3) := below_on B1 B3
  have HKK : Hid (w.heap.size ≤ kb ∧ w.heap.size ≤ k8 ∧ kb < k8) := ⟨Nat.le_of_eq HKB.out.symm, by rw [hk8]; exact B1.size, by rw [hk8]; exact lt_of_block hbx1⟩
  have HBB := hide (And.intro hbxb hbx3)
  clear hw3 hk8 hbx1 hbx3 hbxb d0 d1 d2 HW1
  have H3 := hide (HM.out.later C3.out)
  have BX : Hid (∀ W : World, Mv w3 W (fun k => S k ∧ k < w.heap.size) → (W.heap[k8]? = some (.cells #[.int .i64 l1, .int .i64 l2] 34 (0, 0)) ∧ W.heap[kb]? = some (.cells #[.int .i64 0, .int .i64 0] 34 (0, 0))) ∧ W.cell? ⟨k8, 0, none⟩ = some (.int .i64 l1) ∧ W.cell? ⟨k8, 1, none⟩ = some (.int .i64 l2)) := fun W hm => by
    have h8 := hm.at HBB.out.2 (fun e => by have := HKK.out; omega)
    have hb := hm.at HBB.out.1 (fun e => by have := HKK.out; omega)
    exact ⟨⟨h8, hb⟩, by rw [cell_of_row W k8 _ _ 34 (0, 0) h8]; rfl, by rw [cell_of_row W k8 _ _ 34 (0, 0) h8]; rfl⟩
  have hd3 := H3.out.later (below_drew w3)
  obtain ⟨y2, y1, -⟩ := hd3.cell
  obtain ⟨y3, y4⟩ := own_ent hd3.2.1 row hr
  rw [← HR12.out.1] at y3
  rw [← HR12.out.2] at y4
  have hin : InB (r1, r2) := by
    have := HREST.out.2.2 _ (List.getElem_mem hr)
    rw [HR12.out.1, HR12.out.2]
    exact this
  obtain ⟨w4, hst, hmp4, htn4⟩ := hd3.2.2.1.drop (r1, r2) hin 0
  obtain ⟨ht4, hmv4⟩ := hd3.map_put (W' := w4) hmp4 htn4.grown
  have HT4 := hide ht4
  have HSG : Hid ((S g ∧ g < w.heap.size) ∧ (S gr ∧ gr < w.heap.size) ∧ (S gm ∧ gm < w.heap.size)) := ⟨⟨HREST.out.2.1.1, HM.out.lt⟩, ⟨HREST.out.2.1.2.1 gr rfl, (HM.out.2.1.lt gr rfl).2⟩, ⟨HREST.out.2.1.2.2.1, HM.out.2.2.1.lt⟩⟩
  have HM4 : Hid (Mv w3 w4 (fun k => S k ∧ k < w.heap.size)) := (Mv.of_below (below_drew w3) _).trans hmv4 (fun k _ e => by rw [e]; exact HSG.out.2.2)
  obtain ⟨yy2, yy1, -⟩ := HT4.out.cell
  obtain ⟨yy3, yy4⟩ := own_ent HT4.out.2.1 row hr
  rw [← HR12.out.1] at yy3
  rw [← HR12.out.2] at yy4
  clear hmp4 htn4 ht4 hmv4 hd3
  dsimp only at hst
  refine wp_region_noPanic ?_
  refine wp_region_late (J := fun i => i != 99) (S := fun W => W.cell? ⟨g, 1, none⟩ = some (.map (some gm)) ∧ W.cell? ⟨g, 0, none⟩ = some (.slice (some ⟨gr, 0, none⟩) rows.length cr) ∧ W.cell? ⟨gr, row * 2, none⟩ = some (.int .i64 r1) ∧ W.cell? ⟨gr, row * 2 + 1, none⟩ = some (.int .i64 r2)) (by kernel_rfl) ⟨y1, y2, y3, y4⟩ (fun hHeld => ?_)
  refine' wpAnyJ_takeW (i := 0) (oi := { dst := some 29, op := Op.move (Operand.tmp 0), type := 75, pos := "table.go:56", after := #[], guard := none }) (v := _) rfl (by kernel_rfl) (by kernel_rfl) (by kernel_rfl) (fun _ _ _ h => h) (Or.inl ⟨by rfl, ?hyA1⟩) ?reA1
  case hyA1 => (intro W hSw; (try dsimp only at hSw); go_simp; try with_reducible rfl)
  try simp only [Act.put, List.setIfInBounds_toArray, List.set_cons_zero, List.set_cons_succ]
  refine' wpAnyJ_takeW (i := 1) (oi := { dst := some 30, op := Op.nilCheck (Operand.tmp 29), type := 0, pos := "table.go:56", after := #[{ on := 0, ground := Ground.data }], guard := none }) (v := _) rfl (by kernel_rfl) (by kernel_rfl) (by kernel_rfl) (fun _ _ _ h => h) (Or.inl ⟨by rfl, ?hyA2⟩) ?reA2
  case hyA2 => (intro W hSw; (try dsimp only at hSw); go_simp; try with_reducible rfl)
  try simp only [Act.put, List.setIfInBounds_toArray, List.set_cons_zero, List.set_cons_succ]
  refine' wpAnyJ_takeW (i := 2) (oi := { dst := some 31, op := Op.fieldAddr 108 (Operand.tmp 30) 1, type := 0, pos := "table.go:56", after := #[{ on := 1, ground := Ground.data }], guard := none }) (v := _) rfl (by kernel_rfl) (by kernel_rfl) (by kernel_rfl) (fun _ _ _ h => h) (Or.inl ⟨by rfl, ?hyA3⟩) ?reA3
  case hyA3 => (intro W hSw; (try dsimp only at hSw); go_simp; try with_reducible rfl)
  try simp only [Act.put, List.setIfInBounds_toArray, List.set_cons_zero, List.set_cons_succ]
  refine' wpAnyJ_take (i := 3) (oi := { dst := some 32, op := Op.load 61 (Operand.tmp 31), type := 61, pos := "table.go:56", after := #[{ on := 2, ground := Ground.data }], guard := none }) (v := _) rfl (by kernel_rfl) (by kernel_rfl) (by kernel_rfl) (by kernel_rfl) (fun _ _ _ h => h) (Or.inl ⟨by rfl, ?hyA4⟩) (by assumption) ?reA4
  case hyA4 => (intro W hSw; (try dsimp only at hSw); go_simp; try with_reducible rfl)
  try simp only [Act.put, List.setIfInBounds_toArray, List.set_cons_zero, List.set_cons_succ]
  refine' wpAnyJ_takeW (i := 4) (oi := { dst := some 33, op := Op.move (Operand.tmp 0), type := 75, pos := "table.go:56", after := #[], guard := none }) (v := _) rfl (by kernel_rfl) (by kernel_rfl) (by kernel_rfl) (fun _ _ _ h => h) (Or.inl ⟨by rfl, ?hyA5⟩) ?reA5
  case hyA5 => (intro W hSw; (try dsimp only at hSw); go_simp; try with_reducible rfl)
  try simp only [Act.put, List.setIfInBounds_toArray, List.set_cons_zero, List.set_cons_succ]
  refine' wpAnyJ_takeW (i := 5) (oi := { dst := some 34, op := Op.nilCheck (Operand.tmp 33), type := 0, pos := "table.go:56", after := #[{ on := 4, ground := Ground.data }], guard := none }) (v := _) rfl (by kernel_rfl) (by kernel_rfl) (by kernel_rfl) (fun _ _ _ h => h) (Or.inl ⟨by rfl, ?hyA6⟩) ?reA6
  case hyA6 => (intro W hSw; (try dsimp only at hSw); go_simp; try with_reducible rfl)
  try simp only [Act.put, List.setIfInBounds_toArray, List.set_cons_zero, List.set_cons_succ]
  refine' wpAnyJ_takeW (i := 6) (oi := { dst := some 35, op := Op.fieldAddr 108 (Operand.tmp 34) 0, type := 0, pos := "table.go:56", after := #[{ on := 5, ground := Ground.data }], guard := none }) (v := _) rfl (by kernel_rfl) (by kernel_rfl) (by kernel_rfl) (fun _ _ _ h => h) (Or.inl ⟨by rfl, ?hyA7⟩) ?reA7
  case hyA7 => (intro W hSw; (try dsimp only at hSw); go_simp; try with_reducible rfl)
  try simp only [Act.put, List.setIfInBounds_toArray, List.set_cons_zero, List.set_cons_succ]
  refine' wpAnyJ_take (i := 7) (oi := { dst := some 36, op := Op.load 41 (Operand.tmp 35), type := 41, pos := "table.go:56", after := #[{ on := 6, ground := Ground.data }], guard := none }) (v := _) rfl (by kernel_rfl) (by kernel_rfl) (by kernel_rfl) (by kernel_rfl) (fun _ _ _ h => h) (Or.inl ⟨by rfl, ?hyA8⟩) (by assumption) ?reA8
  case hyA8 => (intro W hSw; (try dsimp only at hSw); go_simp; try with_reducible rfl)
  try simp only [Act.put, List.setIfInBounds_toArray, List.set_cons_zero, List.set_cons_succ]
  refine' wpAnyJ_takeW (i := 8) (oi := { dst := some 37, op := Op.move (Operand.tmp 1), type := 3, pos := "table.go:56", after := #[], guard := none }) (v := _) rfl (by kernel_rfl) (by kernel_rfl) (by kernel_rfl) (fun _ _ _ h => h) (Or.inl ⟨by rfl, ?hyA9⟩) ?reA9
  case hyA9 => (intro W hSw; (try dsimp only at hSw); go_simp; try with_reducible rfl)
  try simp only [Act.put, List.setIfInBounds_toArray, List.set_cons_zero, List.set_cons_succ]
  refine' wpAnyJ_takeW (i := 9) (oi := { dst := some 38, op := Op.indexAddr 41 (Operand.tmp 36) (Operand.tmp 37), type := 0, pos := "table.go:56", after := #[{ on := 7, ground := Ground.data }, { on := 8, ground := Ground.data }], guard := none }) (v := _) rfl (by kernel_rfl) (by kernel_rfl) (by kernel_rfl) (fun _ _ _ h => h) (Or.inl ⟨by rfl, ?hyA10⟩) ?reA10
  case hyA10 => (intro W hSw; (try dsimp only at hSw); go_simp; try with_reducible rfl)
  try simp only [Act.put, List.setIfInBounds_toArray, List.set_cons_zero, List.set_cons_succ]
  refine' wpAnyJ_take (i := 10) (oi := { dst := some 39, op := Op.load 34 (Operand.tmp 38), type := 34, pos := "table.go:56", after := #[{ on := 9, ground := Ground.data }], guard := none }) (v := _) rfl (by kernel_rfl) (by kernel_rfl) (by kernel_rfl) (by kernel_rfl) (fun _ _ _ h => h) (Or.inl ⟨by rfl, ?hyA11⟩) (by assumption) ?reA11
  case hyA11 => (intro W hSw; (try dsimp only at hSw); go_simp; try with_reducible rfl)
  try simp only [Act.put, List.setIfInBounds_toArray, List.set_cons_zero, List.set_cons_succ]
  refine wpAnyJ_ready (rs := [11]) (by kernel_rfl) (by simp) ?_
  refine AllReadyJ.cons (o := { dst := none, op := Op.call { callee := Callee.builtin Builtin.delete, args := #[Operand.tmp 32, Operand.tmp 39], argTypes := #[61, 34] }, type := 0, pos := "table.go:56", after := #[{ on := 3, ground := Ground.data }, { on := 10, ground := Ground.data }], guard := none }) rfl (fun K hK => ?_) AllReadyJ.nil
  go_simp
  refine hK.out _ _ (fun _ _ => ⟨yy1, yy2, yy3, yy4⟩) ?_
  clear hK K
  try simp only [Act.put, List.setIfInBounds_toArray, List.set_cons_zero, List.set_cons_succ]
  refine wpAnyJ_done (by kernel_rfl) ?_ _
  refine NoPanic.normal ?_
  clear hst y1 y2 y3 y4 yy1 yy2 yy3 yy4
  have hd4 := HT4.out.later (below_drew w4)
  have M4d : Hid (Mv w3 w4.drew (fun k => S k ∧ k < w.heap.size)) := HM4.out.later (below_drew w4)
  obtain ⟨y1, -, -⟩ := hd4.cell
  obtain ⟨-, y2, y3⟩ := BX.out w4.drew M4d.out
  have hrow4 := HT4.out.2.1
  obtain ⟨q1, q2⟩ := own_ent hrow4 row hr
  have fz1 := hrow4.frozenAt (row * 2)
  have hs1 := hrow4.stored (row * 2) (.int .i64 l1)
  have fz2 : ∀ v k, (w4.setCell ⟨gr, row * 2, none⟩ v).frozen? ⟨gr, k, none⟩ = false := fun v k => (hrow4.stored (row * 2) v).1.frozenAt k
  have cz2 : ∀ v, (w4.setCell ⟨gr, row * 2, none⟩ v).cell? ⟨gr, row * 2 + 1, none⟩ = some (.int .i64 rows[row].2) := fun v => (World.cell?_setCell_other (w := w4) (a := ⟨gr, row * 2, none⟩) (v := v) (b := ⟨gr, row * 2 + 1, none⟩) (by intro e; injection e with _ e; omega)).trans q2
  clear hd4 hrow4 hs1
  go_upto_region 6 with fail
  refine wp_region_noPanic ?_
  refine wp_region_late (J := fun i => i != 7) (S := fun W => W.cell? ⟨g, 0, none⟩ = some (.slice (some ⟨gr, 0, none⟩) rows.length cr) ∧ W.cell? ⟨k8, 0, none⟩ = some (.int .i64 l1) ∧ W.cell? ⟨k8, 1, none⟩ = some (.int .i64 l2)) (by kernel_rfl) ⟨y1, y2, y3⟩ (fun hHeld => ?_)
  refine' wpAnyJ_takeW (i := 0) (oi := { dst := some 40, op := Op.move (Operand.tmp 0), type := 75, pos := "table.go:57", after := #[], guard := none }) (v := _) rfl (by kernel_rfl) (by kernel_rfl) (by kernel_rfl) (fun _ _ _ h => h) (Or.inl ⟨by rfl, ?hyB1⟩) ?reB1
  case hyB1 => (intro W hSw; (try dsimp only at hSw); go_simp; try with_reducible rfl)
  try simp only [Act.put, List.setIfInBounds_toArray, List.set_cons_zero, List.set_cons_succ]
  refine' wpAnyJ_takeW (i := 1) (oi := { dst := some 41, op := Op.nilCheck (Operand.tmp 40), type := 0, pos := "table.go:57", after := #[{ on := 0, ground := Ground.data }], guard := none }) (v := _) rfl (by kernel_rfl) (by kernel_rfl) (by kernel_rfl) (fun _ _ _ h => h) (Or.inl ⟨by rfl, ?hyB2⟩) ?reB2
  case hyB2 => (intro W hSw; (try dsimp only at hSw); go_simp; try with_reducible rfl)
  try simp only [Act.put, List.setIfInBounds_toArray, List.set_cons_zero, List.set_cons_succ]
  refine' wpAnyJ_takeW (i := 2) (oi := { dst := some 42, op := Op.fieldAddr 108 (Operand.tmp 41) 0, type := 0, pos := "table.go:57", after := #[{ on := 1, ground := Ground.data }], guard := none }) (v := _) rfl (by kernel_rfl) (by kernel_rfl) (by kernel_rfl) (fun _ _ _ h => h) (Or.inl ⟨by rfl, ?hyB3⟩) ?reB3
  case hyB3 => (intro W hSw; (try dsimp only at hSw); go_simp; try with_reducible rfl)
  try simp only [Act.put, List.setIfInBounds_toArray, List.set_cons_zero, List.set_cons_succ]
  refine' wpAnyJ_take (i := 3) (oi := { dst := some 43, op := Op.load 41 (Operand.tmp 42), type := 41, pos := "table.go:57", after := #[{ on := 2, ground := Ground.data }], guard := none }) (v := _) rfl (by kernel_rfl) (by kernel_rfl) (by kernel_rfl) (by kernel_rfl) (fun _ _ _ h => h) (Or.inl ⟨by rfl, ?hyB4⟩) (by assumption) ?reB4
  case hyB4 => (intro W hSw; (try dsimp only at hSw); go_simp; try with_reducible rfl)
  try simp only [Act.put, List.setIfInBounds_toArray, List.set_cons_zero, List.set_cons_succ]
  refine' wpAnyJ_takeW (i := 4) (oi := { dst := some 44, op := Op.move (Operand.tmp 1), type := 3, pos := "table.go:57", after := #[], guard := none }) (v := _) rfl (by kernel_rfl) (by kernel_rfl) (by kernel_rfl) (fun _ _ _ h => h) (Or.inl ⟨by rfl, ?hyB5⟩) ?reB5
  case hyB5 => (intro W hSw; (try dsimp only at hSw); go_simp; try with_reducible rfl)
  try simp only [Act.put, List.setIfInBounds_toArray, List.set_cons_zero, List.set_cons_succ]
  refine' wpAnyJ_take (i := 5) (oi := { dst := some 45, op := Op.load 34 (Operand.tmp 8), type := 34, pos := "table.go:57", after := #[], guard := none }) (v := _) rfl (by kernel_rfl) (by kernel_rfl) (by kernel_rfl) (by kernel_rfl) (fun _ _ _ h => h) (Or.inl ⟨by rfl, ?hyB6⟩) (by assumption) ?reB6
  case hyB6 => (intro W hSw; (try dsimp only at hSw); go_simp; try with_reducible rfl)
  try simp only [Act.put, List.setIfInBounds_toArray, List.set_cons_zero, List.set_cons_succ]
  refine' wpAnyJ_takeW (i := 6) (oi := { dst := some 46, op := Op.indexAddr 41 (Operand.tmp 43) (Operand.tmp 44), type := 0, pos := "table.go:57", after := #[{ on := 3, ground := Ground.data }, { on := 4, ground := Ground.data }, { on := 0, ground := Ground.phase }, { on := 1, ground := Ground.phase }, { on := 2, ground := Ground.phase }, { on := 3, ground := Ground.phase }, { on := 4, ground := Ground.phase }, { on := 5, ground := Ground.phase }], guard := none }) (v := _) rfl (by kernel_rfl) (by kernel_rfl) (by kernel_rfl) (fun _ _ _ h => h) (Or.inl ⟨by rfl, ?hyB7⟩) ?reB7
  case hyB7 => (intro W hSw; (try dsimp only at hSw); go_simp; try with_reducible rfl)
  try simp only [Act.put, List.setIfInBounds_toArray, List.set_cons_zero, List.set_cons_succ]
  refine wpAnyJ_ready (rs := [7]) (by kernel_rfl) (by simp) ?_
  refine AllReadyJ.cons (o := { dst := none, op := Op.store 34 (Operand.tmp 46) (Operand.tmp 45), type := 0, pos := "table.go:57", after := #[{ on := 6, ground := Ground.data }, { on := 5, ground := Ground.data }, { on := 0, ground := Ground.phase }, { on := 1, ground := Ground.phase }, { on := 2, ground := Ground.phase }, { on := 3, ground := Ground.phase }, { on := 4, ground := Ground.phase }, { on := 5, ground := Ground.phase }], guard := none }) rfl (fun K hK => ?_) AllReadyJ.nil
  go_simp
  refine hK.out _ _ (fun h => absurd h (by decide)) ?_
  clear hK K
  try simp only [Act.put, List.setIfInBounds_toArray, List.set_cons_zero, List.set_cons_succ]
  refine wpAnyJ_done (by kernel_rfl) ?_ _
  refine NoPanic.normal ?_
  have hor := own_rem_ent HT4.out.2.1 hr
  rw [← HL12.out.1, ← HL12.out.2] at hor
  obtain ⟨w5, hw5⟩ : ∃ X, X = ((w4.setCell ⟨gr, row * 2, none⟩ (.int .i64 l1)).setCell ⟨gr, row * 2 + 1, none⟩ (.int .i64 l2)).drew := ⟨_, rfl⟩
  have hor5 : w5.ownsRow 0 34 2 (.slice (some ⟨gr, 0, none⟩) last cr) (rem rows row).length (ez (rem rows row)) := by
    rw [hw5, HLAST.out]
    exact own_later hor (below_drew _)
  have hg5 : w4.grownBy w5 (Value.slice (some ⟨gr, 0, none⟩) rows.length cr).ownBlock := by
    rw [hw5]
    exact grown_two (grown_two (grown_set _ _ _ _) (grown_set _ _ _ _)) (grown_drew _ _)
  obtain ⟨z1, z2, z3, z4⟩ := HT4.out.rows_put (Below.refl _ _) hor5 hg5 (.inl rfl)
  rw [← hw5]
  have HT6 := hide z1
  have HM6 : Hid (Mv w3 (w5.setCell ⟨g, 0, none⟩ (.slice (some ⟨gr, 0, none⟩) last cr)) (fun k => S k ∧ k < w.heap.size)) := HM4.out.trans z2 (fun k _ e => by
    rcases e with e | e
    · rw [e]; exact HSG.out.1
    · simp only [Value.ownBlock, Option.some.injEq] at e
      rw [← e]; exact HSG.out.2.1)
  have c5 := z3
  have f5 := z4
  have hc1 : (last : Int) ≤ (cr : Int) := by omega
  clear z1 z2 z3 z4 hor hor5 hg5 hw5 y1 y2 y3 q1 q2 fz1 fz2 cz2
  have d6 := HT6.out.cell.2.2
  go_upto_block 0 with fail
  obtain ⟨w6, hw6⟩ : ∃ X, X = w5.setCell ⟨g, 0, none⟩ (.slice (some ⟨gr, 0, none⟩) last cr) := ⟨_, rfl⟩
  rw [← hw6] at HT6 HM6 ⊢
  clear hw6 c5 f5 d6
  obtain ⟨lab6, hlab6⟩ : ∃ l, l = ext lab w4.heap.size 1 := ⟨_, rfl⟩
  have HT6' : Hid (Tm w6 lab6 g (.slice (some ⟨gr, 0, none⟩) last cr) gm n (.slice ac cs.length cc) cs (fun x => if x = (r1, r2) then none else f x) (rem rows row) (prem cols row 0)) := by
    rw [prem_zero, hlab6]
    exact HT6.out
  have HCS := hide hcs
  clear HT6 hlab6
  go_wp2_with fail
  go_loopw [61] (fun v61 W => ∃ (j : Nat) (labj : Nat → Nat) (csj : List Value), j ≤ cols.length ∧ v61 = .int .i64 (j : Int) ∧ Hid (csj.length = cols.length) ∧ Hid (Tm W labj g (.slice (some ⟨gr, 0, none⟩) last cr) gm n (.slice ac csj.length cc) csj (fun x => if x = (r1, r2) then none else f x) (rem rows row) (prem cols row j)) ∧ Hid (Mv w3 W (fun k => S k ∧ k < w.heap.size)) ∧ Hid (∀ u ∈ csj, ∀ k, u.ownBlock = some k → S k ∧ k < w.heap.size)) (fun v61 _ => cols.length - (intOf v61).toNat)
  case atStart => exact ⟨0, lab6, cs, Nat.zero_le _, rfl, HCS, HT6', HM6, fun u hu k e => ⟨HREST.out.2.1.2.2.2.2 u hu k e, by
    obtain ⟨i, hi, rfl⟩ := List.getElem_of_mem hu
    exact ((HM.out.2.2.2.2.2.1 i hi (by omega)).lt k e).2⟩⟩
  case round =>
    obtain ⟨j, labj, csj, hjl, rfl, HCJ, HT, HMV, HIN⟩ := hrel
    clear HT6' HM6
    by_cases hj : j < cols.length
    · have t5 : (j : Int) < (cols.length : Int) := by omega
      have hcj := HCJ.out
      have hjc : j < csj.length := by omega
      obtain ⟨gc, cc', ec, -, -⟩ := own_form HT.out.2.2.2.1 (by omega)
      simp only [Value.slice.injEq] at ec
      obtain ⟨rfl, -, rfl⟩ := ec
      have hpl : j < (prem cols row j).length := by rw [prem_len]; exact hj
      have hrow := HT.out.2.2.2.2.2.1 j hjc hpl
      have hpc : (prem cols row j)[j] = cols[j] := by rw [prem_at _ _ _ _ hj, if_neg (Nat.lt_irrefl _)]
      rw [hpc] at hrow
      have hln : cols[j].length = rows.length := HREST.out.1 _ (List.getElem_mem hj)
      obtain ⟨gj, cj, hvj, hcj1, hcj2⟩ := own_form hrow (by omega)
      have hrow2 := hrow
      rw [hvj] at hrow2
      have e1 := own_slices HT.out.2.2.2.1 j hjc
      rw [hvj, hln] at e1
      have e2 := own_num hrow2 (cols[j].length - 1) (by omega)
      obtain ⟨x3, e3⟩ : ∃ x3, wr.cell? ⟨gj, row, none⟩ = some x3 := ⟨_, own_num hrow2 row (by omega)⟩
      have ef := hrow2.frozenAt row
      obtain ⟨x, hx⟩ : ∃ x, x = cols[j][cols[j].length - 1]'(by omega) := ⟨_, rfl⟩
      rw [← hx] at e2
      have e2' : wr.cell? ⟨gj, last, none⟩ = some (.int .i64 x) := by rw [HLAST.out, ← hln]; exact e2
      have hon := own_rem_num hrow2 (row := row) (by omega)
      rw [← hx] at hon
      have hl5 : cols[j].length - 1 = last := by rw [hln, HLAST.out]
      rw [hl5] at hon
      have hcl3 : (last : Int) ≤ (cj : Int) := by omega
      have lgj : labj gj = 4 + j := HT.out.2.2.2.2.2.2.2.2.2.2 j hjc gj (by rw [hvj]; rfl)
      have lg : labj g = 0 := HT.out.2.2.2.2.2.2.1
      have d2 : ∀ u, (wr.setCell ⟨gj, row, none⟩ u).cell? ⟨g, 2, none⟩ = some (.slice (some ⟨gc, 0, none⟩) cols.length cc) := fun u => by
        rw [World.cell?_setCell_far _ _ _ _ (by show gj ≠ g; intro e; subst e; omega)]
        have := HT.out.cell.2.2
        rw [hcj] at this
        exact this
      have y2 : ((wr.setCell ⟨gj, row, none⟩ (.int .i64 x)).drew).cell? ⟨g, 2, none⟩ = some (.slice (some ⟨gc, 0, none⟩) cols.length cc) := d2 _
      have hgrw : wr.grownBy ((wr.setCell ⟨gj, row, none⟩ (.int .i64 x)).drew) (csj[j]).ownBlock := by
        rw [hvj]
        exact grown_two (grown_set _ _ _ _) (grown_drew _ _)
      have hinj := HIN.out _ (List.getElem_mem hjc)
      obtain ⟨z1, z2, z3, z4⟩ := HT.out.col_put (v' := .slice (some ⟨gj, 0, none⟩) last cj) (col := rem cols[j] row) hjc (Below.refl _ _) (own_later hon (below_drew _)) hgrw (.inl (by rw [hvj]; rfl))
      have hpp := prem_step cols row j hj
      rw [hpp] at z1
      have HZ1 : Hid (Tm (((wr.setCell ⟨gj, row, none⟩ (.int .i64 x)).drew).setCell ⟨gc, j, none⟩ (.slice (some ⟨gj, 0, none⟩) last cj)) (ext labj wr.heap.size (4 + j)) g (.slice (some ⟨gr, 0, none⟩) last cr) gm n (.slice (some ⟨gc, 0, none⟩) (csj.set j (.slice (some ⟨gj, 0, none⟩) last cj)).length cc) (csj.set j (.slice (some ⟨gj, 0, none⟩) last cj)) (fun x => if x = (r1, r2) then none else f x) (rem rows row) (prem cols row (j + 1))) := by
        rw [List.length_set]
        exact z1
      have hgcS : S gc ∧ gc < w.heap.size := ⟨HREST.out.2.1.2.2.2.1 gc rfl, (HM.out.2.2.2.1.lt gc rfl).2⟩
      have HZ2 : Hid (Mv w3 (((wr.setCell ⟨gj, row, none⟩ (.int .i64 x)).drew).setCell ⟨gc, j, none⟩ (.slice (some ⟨gj, 0, none⟩) last cj)) (fun k => S k ∧ k < w.heap.size)) := HMV.out.trans z2 (fun k _ e => by
        rcases e with e | e
        · rw [e]; exact hgcS
        · exact hinj k e)
      have HZ3 : Hid ((csj.set j (.slice (some ⟨gj, 0, none⟩) last cj)).length = cols.length) := by
        show (csj.set j _).length = cols.length
        rw [List.length_set]
        exact hcj
      have HZ4 : Hid (∀ u ∈ csj.set j (.slice (some ⟨gj, 0, none⟩) last cj), ∀ k, u.ownBlock = some k → S k ∧ k < w.heap.size) := fun u hu k e => by
        rcases List.mem_or_eq_of_mem_set hu with hu | rfl
        · exact HIN.out u hu k e
        · exact hinj k (by rw [hvj]; exact e)
      rw [hvj, hln] at z3
      clear z1 z2 hgrw hinj hgcS hpp hon hrow2 hrow hx e2 hl5 hpc hpl lgj lg hvj hln
      clear hjc hcj
      have z3' : (wr.setCell ⟨gj, row, none⟩ (.int .i64 x)).cell? ⟨gc, j, none⟩ = some (.slice (some ⟨gj, 0, none⟩) rows.length cj) := z3
      have z4' : (wr.setCell ⟨gj, row, none⟩ (.int .i64 x)).frozen? ⟨gc, j, none⟩ = false := z4
      go_upto_region 12 with fail
      refine wp_region_noPanic ?_
      refine wp_region_late (J := fun i => i != 9) (S := fun W => W.cell? ⟨g, 2, none⟩ = some (.slice (some ⟨gc, 0, none⟩) cols.length cc)) (by kernel_rfl) y2 (fun hHeld => ?_)
      refine' wpAnyJ_takeW (i := 0) (oi := { dst := some 73, op := Op.move (Operand.tmp 0), type := 75, pos := "table.go:61", after := #[], guard := none }) (v := _) rfl (by kernel_rfl) (by kernel_rfl) (by kernel_rfl) (fun _ _ _ h => h) (Or.inl ⟨by rfl, ?hyC1⟩) ?reC1
      case hyC1 => (intro W hSw; (try dsimp only at hSw); go_simp; try with_reducible rfl)
      try simp only [Act.put, List.setIfInBounds_toArray, List.set_cons_zero, List.set_cons_succ]
      refine' wpAnyJ_takeW (i := 1) (oi := { dst := some 74, op := Op.nilCheck (Operand.tmp 73), type := 0, pos := "table.go:61", after := #[{ on := 0, ground := Ground.data }], guard := none }) (v := _) rfl (by kernel_rfl) (by kernel_rfl) (by kernel_rfl) (fun _ _ _ h => h) (Or.inl ⟨by rfl, ?hyC2⟩) ?reC2
      case hyC2 => (intro W hSw; (try dsimp only at hSw); go_simp; try with_reducible rfl)
      try simp only [Act.put, List.setIfInBounds_toArray, List.set_cons_zero, List.set_cons_succ]
      refine' wpAnyJ_takeW (i := 2) (oi := { dst := some 75, op := Op.fieldAddr 108 (Operand.tmp 74) 2, type := 0, pos := "table.go:61", after := #[{ on := 1, ground := Ground.data }], guard := none }) (v := _) rfl (by kernel_rfl) (by kernel_rfl) (by kernel_rfl) (fun _ _ _ h => h) (Or.inl ⟨by rfl, ?hyC3⟩) ?reC3
      case hyC3 => (intro W hSw; (try dsimp only at hSw); go_simp; try with_reducible rfl)
      try simp only [Act.put, List.setIfInBounds_toArray, List.set_cons_zero, List.set_cons_succ]
      refine' wpAnyJ_take (i := 3) (oi := { dst := some 76, op := Op.load 106 (Operand.tmp 75), type := 106, pos := "table.go:61", after := #[{ on := 2, ground := Ground.data }], guard := none }) (v := _) rfl (by kernel_rfl) (by kernel_rfl) (by kernel_rfl) (by kernel_rfl) (fun _ _ _ h => h) (Or.inl ⟨by rfl, ?hyC4⟩) (by assumption) ?reC4
      case hyC4 => (intro W hSw; (try dsimp only at hSw); go_simp; try with_reducible rfl)
      try simp only [Act.put, List.setIfInBounds_toArray, List.set_cons_zero, List.set_cons_succ]
      refine' wpAnyJ_takeW (i := 4) (oi := { dst := some 77, op := Op.move (Operand.tmp 9), type := 3, pos := "table.go:61", after := #[], guard := none }) (v := _) rfl (by kernel_rfl) (by kernel_rfl) (by kernel_rfl) (fun _ _ _ h => h) (Or.inl ⟨by rfl, ?hyC5⟩) ?reC5
      case hyC5 => (intro W hSw; (try dsimp only at hSw); go_simp; try with_reducible rfl)
      try simp only [Act.put, List.setIfInBounds_toArray, List.set_cons_zero, List.set_cons_succ]
      refine' wpAnyJ_takeW (i := 5) (oi := { dst := some 78, op := Op.move (Operand.tmp 10), type := 35, pos := "table.go:61", after := #[], guard := none }) (v := _) rfl (by kernel_rfl) (by kernel_rfl) (by kernel_rfl) (fun _ _ _ h => h) (Or.inl ⟨by rfl, ?hyC6⟩) ?reC6
      case hyC6 => (intro W hSw; (try dsimp only at hSw); go_simp; try with_reducible rfl)
      try simp only [Act.put, List.setIfInBounds_toArray, List.set_cons_zero, List.set_cons_succ]
      refine' wpAnyJ_takeW (i := 6) (oi := { dst := some 79, op := Op.move (Operand.tmp 7), type := 3, pos := "table.go:61", after := #[], guard := none }) (v := _) rfl (by kernel_rfl) (by kernel_rfl) (by kernel_rfl) (fun _ _ _ h => h) (Or.inl ⟨by rfl, ?hyC7⟩) ?reC7
      case hyC7 => (intro W hSw; (try dsimp only at hSw); go_simp; try with_reducible rfl)
      try simp only [Act.put, List.setIfInBounds_toArray, List.set_cons_zero, List.set_cons_succ]
      refine' wpAnyJ_takeW (i := 7) (oi := { dst := some 80, op := Op.slice 35 (Operand.tmp 78) none (some (Operand.tmp 79)) none, type := 35, pos := "table.go:61", after := #[{ on := 5, ground := Ground.data }, { on := 6, ground := Ground.data }], guard := none }) (v := _) rfl (by kernel_rfl) (by kernel_rfl) (by kernel_rfl) (fun _ _ _ h => h) (Or.inl ⟨by rfl, ?hyC8⟩) ?reC8
      case hyC8 => (intro W hSw; (try dsimp only at hSw); go_simp; try with_reducible rfl)
      try simp only [Act.put, List.setIfInBounds_toArray, List.set_cons_zero, List.set_cons_succ]
      refine' wpAnyJ_takeW (i := 8) (oi := { dst := some 81, op := Op.indexAddr 106 (Operand.tmp 76) (Operand.tmp 77), type := 0, pos := "table.go:61", after := #[{ on := 3, ground := Ground.data }, { on := 4, ground := Ground.data }, { on := 0, ground := Ground.phase }, { on := 1, ground := Ground.phase }, { on := 2, ground := Ground.phase }, { on := 3, ground := Ground.phase }, { on := 4, ground := Ground.phase }, { on := 5, ground := Ground.phase }, { on := 6, ground := Ground.phase }, { on := 7, ground := Ground.phase }], guard := none }) (v := _) rfl (by kernel_rfl) (by kernel_rfl) (by kernel_rfl) (fun _ _ _ h => h) (Or.inl ⟨by rfl, ?hyC9⟩) ?reC9
      case hyC9 => (intro W hSw; (try dsimp only at hSw); go_simp; try with_reducible rfl)
      try simp only [Act.put, List.setIfInBounds_toArray, List.set_cons_zero, List.set_cons_succ]
      refine wpAnyJ_ready (rs := [9]) (by kernel_rfl) (by simp) ?_
      refine AllReadyJ.cons (o := { dst := none, op := Op.store 35 (Operand.tmp 81) (Operand.tmp 80), type := 0, pos := "table.go:61", after := #[{ on := 8, ground := Ground.data }, { on := 7, ground := Ground.data }, { on := 0, ground := Ground.phase }, { on := 1, ground := Ground.phase }, { on := 2, ground := Ground.phase }, { on := 3, ground := Ground.phase }, { on := 4, ground := Ground.phase }, { on := 5, ground := Ground.phase }, { on := 6, ground := Ground.phase }, { on := 7, ground := Ground.phase }], guard := none }) rfl (fun K hK => ?_) AllReadyJ.nil
      go_simp
      refine hK.out _ _ (fun h => absurd h (by decide)) ?_
      clear hK K
      try simp only [Act.put, List.setIfInBounds_toArray, List.set_cons_zero, List.set_cons_succ]
      refine wpAnyJ_done (by kernel_rfl) ?_ _
      refine NoPanic.normal ?_
      go_wp2_with fail
      go_roundw
      case rel => exact ⟨j + 1, _, _, by omega, by go_num, HZ3, HZ1, HZ2, HZ4⟩
      case measure => simp [intOf]; omega
    · obtain rfl : j = cols.length := by omega
      have t5 : ¬ (cols.length : Int) < (cols.length : Int) := by omega
      obtain ⟨⟨hb8, hbb⟩, y2, y3⟩ := BX.out wr HMV.out
      have u0 : wr.cell? ⟨kb, 0, none⟩ = some (.int .i64 0) := by rw [cell_of_row wr kb _ _ 34 (0, 0) hbb]; rfl
      have u1 : wr.cell? ⟨kb, 1, none⟩ = some (.int .i64 0) := by rw [cell_of_row wr kb _ _ 34 (0, 0) hbb]; rfl
      have v0 := frozen_of_row wr kb 0 _ 34 hbb
      have v1 := frozen_of_row wr kb 1 _ 34 hbb
      have hrl : (rem rows row).length = rows.length - 1 := rem_len rows row
      have hcl' : ∀ c ∈ prem cols row cols.length, c.length = (rem rows row).length := fun c hc => by
        obtain ⟨i, hi, rfl⟩ := List.getElem_of_mem hc
        have hi' : i < cols.length := by rw [prem_len] at hi; exact hi
        rw [prem_at _ _ _ _ hi', if_pos hi', rem_len, rem_len, HREST.out.1 _ (List.getElem_mem hi')]
      have hib' : ∀ e ∈ rem rows row, InB e := fun e he => by
        obtain ⟨i, hi, rfl⟩ := List.getElem_of_mem he
        rw [rem_at rows row i hr hi]
        split
        · exact HREST.out.2.2 _ (List.getElem_mem _)
        · exact HREST.out.2.2 _ (List.getElem_mem _)
      have hrr : rows[row] = (r1, r2) := by rw [HR12.out.1, HR12.out.2]
      have hll2 : rows[rows.length - 1]'hll = (l1, l2) := by rw [HL12.out.1, HL12.out.2]
      have hdel := HIX.out.del hr
      have FIN : Hid (∀ (W : World) (n' : Nat) (f' : Int × Int → Option Nat), Tm W labj g (.slice (some ⟨gr, 0, none⟩) last cr) gm n' (.slice ac csj.length cc) csj f' (rem rows row) (prem cols row cols.length) → n' ≤ n + 1 → Ix (rem rows row) f' → Mv w3 W (fun k => (S k ∧ k < w.heap.size) ∨ k = kb) → Tb W S g (n + 1) (rem rows row) (remCols cols row) ∧ Mv w W S) := fun W n' f' ht hn' hix hmv => by
        refine ⟨⟨labj, _, gm, _, csj, f', ⟨ht.1, ht.2.1, ht.2.2.1.mono hn', ht.2.2.2⟩, hix, hcl', ⟨HSG.out.1.1, fun k e => ?_, HSG.out.2.2.1, fun k e => HREST.out.2.1.2.2.2.1 k (by cases ac <;> exact e), fun v hv k e => (HIN.out v hv k e).1⟩, hib', by omega, by unfold remCols; rw [prem_len]; exact hc48⟩, (Mv.of_below C3.out S).trans hmv (fun k hk e => ?_)⟩
        · simp only [Value.ownBlock, Option.some.injEq] at e
          rw [← e]
          exact HSG.out.2.1.1
        · rcases e with e | e
          · exact e.1
          · have := HKK.out.1
            omega
      clear hcl' hib'
      by_cases hrl2 : row = last
      · have t6 : ((row : Int) == (last : Int)) = true := by rw [hrl2]; simp
        have hRL : row = rows.length - 1 := by rw [hrl2, HLAST.out]
        have hdel' : Ix (rem rows row) (fun x => if x = (r1, r2) then none else f x) := by
          have e : (fun e => if row = rows.length - 1 then (if e = rows[row] then none else f e) else if e = rows[rows.length - 1]'(by omega) then some row else if e = rows[row] then none else f e) = (fun x => if x = (r1, r2) then none else f x) := by
            funext x
            rw [if_pos hRL, hrr]
          rw [e] at hdel
          exact hdel
        have HDEL := hide hdel'
        have HRL := hide hRL
        have hx2 := hide hrl2
        clear hdel hdel' hrr hll2 hRL hrl hrl2
        go_wp2_with fail
        (try simp only [Exit.inBlock, Exit.then])
        have hm : Mv wr ((wr.setCell ⟨kb, 0, none⟩ (.int .i64 0)).setCell ⟨kb, 1, none⟩ (.int .i64 0)) (fun q => q = kb) := Mv.set (S := fun q => q = kb) (Mv.set (S := fun q => q = kb) (Mv.refl _ _) rfl _ _) rfl _ _
        have hkb := HKK.out
        have htf := HT.out.frame hm (fun e => by have := HSG.out.1.2; omega) (fun k e e' => by simp only [Value.ownBlock, Option.some.injEq] at e; have := HSG.out.2.1.2; omega) (fun e => by have := HSG.out.2.2.2; omega) (fun k e e' => by have := (HM.out.2.2.2.1.lt k (by cases ac <;> exact e)).2; omega) (fun v hv k e e' => by have := (HIN.out v hv k e).2; omega)
        obtain ⟨z1, z2⟩ := FIN.out _ n _ htf (by omega) HDEL.out ((HMV.out.mono (fun k _ e => .inl e)).trans hm (fun k _ e => .inr e))
        refine bodyPost_ret (v := .tuple #[.agg #[.int .i64 0, .int .i64 0], .bool false, .int .i64 0]) ?_ rfl ?_
        · rw [results_cell2 rfl]
          go_simp
        · rw [HRL.out] at z1
          exact ⟨rfl, z1, z2⟩
      · have t6 : ((row : Int) == (last : Int)) = false := by rw [beq_eq_false_iff_ne]; omega
        have hRL : ¬ row = rows.length - 1 := by have := HLAST.out; omega
        have hdel' : Ix (rem rows row) (fun x => if x = (l1, l2) then some row else if x = (r1, r2) then none else f x) := by
          have e : (fun e => if row = rows.length - 1 then (if e = rows[row] then none else f e) else if e = rows[rows.length - 1]'(by omega) then some row else if e = rows[row] then none else f e) = (fun x => if x = (l1, l2) then some row else if x = (r1, r2) then none else f x) := by
            funext x
            rw [if_neg hRL, hrr, hll2]
          rw [e] at hdel
          exact hdel
        have hinl : InB (l1, l2) := by rw [← hll2]; exact HREST.out.2.2 _ (List.getElem_mem hll)
        have HDEL := hide hdel'
        have HRL := hide hRL
        have hdw := HT.out.later (below_drew wr)
        obtain ⟨w8, hst, hmp8, htn8⟩ := hdw.2.2.1.store (l1, l2) hinl row (by omega) hn
        obtain ⟨ht8, hmv8⟩ := hdw.map_put (W' := w8) hmp8 htn8.grown
        have y1 := hdw.cell.2.1
        have M8 : Hid (Mv w3 w8 (fun k => S k ∧ k < w.heap.size)) := (HMV.out.later (below_drew wr)).trans hmv8 (fun k _ e => by rw [e]; exact HSG.out.2.2)
        have HT8 := hide ht8
        dsimp only at hst
        clear hdel hdel' hrr hll2 hRL hrl hrl2 hdw hmp8 htn8 ht8 hmv8 hb8 hbb
        go_upto_region 16 with fail
        refine wp_region_noPanic ?_
        refine wp_region_late (J := fun i => i != 6) (S := fun W => W.cell? ⟨g, 1, none⟩ = some (.map (some gm)) ∧ W.cell? ⟨k8, 0, none⟩ = some (.int .i64 l1) ∧ W.cell? ⟨k8, 1, none⟩ = some (.int .i64 l2)) (by kernel_rfl) ⟨y1, y2, y3⟩ (fun hHeld => ?_)
        refine' wpAnyJ_takeW (i := 0) (oi := { dst := some 87, op := Op.move (Operand.tmp 0), type := 75, pos := "table.go:66", after := #[], guard := none }) (v := _) rfl (by kernel_rfl) (by kernel_rfl) (by kernel_rfl) (fun _ _ _ h => h) (Or.inl ⟨by rfl, ?hyD1⟩) ?reD1
        case hyD1 => (intro W hSw; (try dsimp only at hSw); go_simp; try with_reducible rfl)
        try simp only [Act.put, List.setIfInBounds_toArray, List.set_cons_zero, List.set_cons_succ]
        refine' wpAnyJ_takeW (i := 1) (oi := { dst := some 88, op := Op.nilCheck (Operand.tmp 87), type := 0, pos := "table.go:66", after := #[{ on := 0, ground := Ground.data }], guard := none }) (v := _) rfl (by kernel_rfl) (by kernel_rfl) (by kernel_rfl) (fun _ _ _ h => h) (Or.inl ⟨by rfl, ?hyD2⟩) ?reD2
        case hyD2 => (intro W hSw; (try dsimp only at hSw); go_simp; try with_reducible rfl)
        try simp only [Act.put, List.setIfInBounds_toArray, List.set_cons_zero, List.set_cons_succ]
        refine' wpAnyJ_takeW (i := 2) (oi := { dst := some 89, op := Op.fieldAddr 108 (Operand.tmp 88) 1, type := 0, pos := "table.go:66", after := #[{ on := 1, ground := Ground.data }], guard := none }) (v := _) rfl (by kernel_rfl) (by kernel_rfl) (by kernel_rfl) (fun _ _ _ h => h) (Or.inl ⟨by rfl, ?hyD3⟩) ?reD3
        case hyD3 => (intro W hSw; (try dsimp only at hSw); go_simp; try with_reducible rfl)
        try simp only [Act.put, List.setIfInBounds_toArray, List.set_cons_zero, List.set_cons_succ]
        refine' wpAnyJ_take (i := 3) (oi := { dst := some 90, op := Op.load 61 (Operand.tmp 89), type := 61, pos := "table.go:66", after := #[{ on := 2, ground := Ground.data }], guard := none }) (v := _) rfl (by kernel_rfl) (by kernel_rfl) (by kernel_rfl) (by kernel_rfl) (fun _ _ _ h => h) (Or.inl ⟨by rfl, ?hyD4⟩) (by assumption) ?reD4
        case hyD4 => (intro W hSw; (try dsimp only at hSw); go_simp; try with_reducible rfl)
        try simp only [Act.put, List.setIfInBounds_toArray, List.set_cons_zero, List.set_cons_succ]
        refine' wpAnyJ_take (i := 4) (oi := { dst := some 91, op := Op.load 34 (Operand.tmp 8), type := 34, pos := "table.go:66", after := #[], guard := none }) (v := _) rfl (by kernel_rfl) (by kernel_rfl) (by kernel_rfl) (by kernel_rfl) (fun _ _ _ h => h) (Or.inl ⟨by rfl, ?hyD5⟩) (by assumption) ?reD5
        case hyD5 => (intro W hSw; (try dsimp only at hSw); go_simp; try with_reducible rfl)
        try simp only [Act.put, List.setIfInBounds_toArray, List.set_cons_zero, List.set_cons_succ]
        refine' wpAnyJ_takeW (i := 5) (oi := { dst := some 92, op := Op.move (Operand.tmp 1), type := 3, pos := "table.go:66", after := #[], guard := none }) (v := _) rfl (by kernel_rfl) (by kernel_rfl) (by kernel_rfl) (fun _ _ _ h => h) (Or.inl ⟨by rfl, ?hyD6⟩) ?reD6
        case hyD6 => (intro W hSw; (try dsimp only at hSw); go_simp; try with_reducible rfl)
        try simp only [Act.put, List.setIfInBounds_toArray, List.set_cons_zero, List.set_cons_succ]
        refine wpAnyJ_ready (rs := [6]) (by kernel_rfl) (by simp) ?_
        refine AllReadyJ.cons (o := { dst := none, op := Op.mapUpdate 61 (Operand.tmp 90) (Operand.tmp 91) (Operand.tmp 92), type := 0, pos := "table.go:66", after := #[{ on := 3, ground := Ground.data }, { on := 4, ground := Ground.data }, { on := 5, ground := Ground.data }, { on := 0, ground := Ground.phase }, { on := 1, ground := Ground.phase }, { on := 2, ground := Ground.phase }, { on := 3, ground := Ground.phase }, { on := 4, ground := Ground.phase }, { on := 5, ground := Ground.phase }], guard := none }) rfl (fun K hK => ?_) AllReadyJ.nil
        go_simp
        refine hK.out _ _ (fun h => absurd h (by decide)) ?_
        clear hK K
        try simp only [Act.put, List.setIfInBounds_toArray, List.set_cons_zero, List.set_cons_succ]
        refine wpAnyJ_done (by kernel_rfl) ?_ _
        refine NoPanic.normal ?_
        obtain ⟨⟨hb8, hbb⟩, x2, x3⟩ := BX.out w8 M8.out
        have u0' : w8.cell? ⟨kb, 0, none⟩ = some (.int .i64 0) := by rw [cell_of_row w8 kb _ _ 34 (0, 0) hbb]; rfl
        have u1' : w8.cell? ⟨kb, 1, none⟩ = some (.int .i64 0) := by rw [cell_of_row w8 kb _ _ 34 (0, 0) hbb]; rfl
        have v0' := frozen_of_row w8 kb 0 _ 34 hbb
        have v1' := frozen_of_row w8 kb 1 _ 34 hbb
        clear hst
        go_wp2_with fail
        (try simp only [Exit.inBlock, Exit.then])
        have hm : Mv w8 ((w8.setCell ⟨kb, 0, none⟩ (.int .i64 l1)).setCell ⟨kb, 1, none⟩ (.int .i64 l2)) (fun q => q = kb) := Mv.set (S := fun q => q = kb) (Mv.set (S := fun q => q = kb) (Mv.refl _ _) rfl _ _) rfl _ _
        have hkb := HKK.out
        have htf := HT8.out.frame hm (fun e => by have := HSG.out.1.2; omega) (fun k e e' => by simp only [Value.ownBlock, Option.some.injEq] at e; have := HSG.out.2.1.2; omega) (fun e => by have := HSG.out.2.2.2; omega) (fun k e e' => by have := (HM.out.2.2.2.1.lt k (by cases ac <;> exact e)).2; omega) (fun v hv k e e' => by have := (HIN.out v hv k e).2; omega)
        obtain ⟨z1, z2⟩ := FIN.out _ (n + 1) _ htf (by omega) HDEL.out ((M8.out.mono (fun k _ e => .inl e)).trans hm (fun k _ e => .inr e))
        refine bodyPost_ret (v := .tuple #[.agg #[.int .i64 l1, .int .i64 l2], .bool true, .int .i64 0]) ?_ rfl ⟨?_, z1, z2⟩
        · rw [results_cell2 rfl]
          go_simp
        · rw [HL12.out.1, HL12.out.2]
end
end Go.Proofs.YtfbhoemfabgjpaaGreat
