import Derived.Test.YtafmiolehlagkaaGreatOd01
import Derived.Laws.BitsAllLaws
import Derived.Test.YtafmiolehlagkaaGreatProg
import Derived.WalkKit
import Derived.WalkSpells
import Derived.WalkLawsBesides
import Derived.Laws.CopyOwn
import Derived.Laws.AppendOwnNone
import Derived.Maps.AppendAt
import Derived.Laws.OwnMore
import Derived.Below
import Derived.RowKit
import Derived.Deep.DeepCutAuto
import Derived.Deep.RegionWith
import Derived.Deep.RegionLaw
import Derived.Deep.RegionHeld3
import Derived.Deep.QuietTactic
import Derived.Deep.CutBlock
import Derived.Deep.AppendLies
import Derived.BigQuiet
import Derived.BigRegion
import Derived.OrdersHeld
/-
  Remove.
-/
namespace Go.Proofs.YtafmiolehlagkaaGreat
open Go.RowKit
set_option maxRecDepth 100000
theorem Mp.mono {w : World} {gm n n' : Nat} {f : Int × Int → Option Nat} (h : Mp w gm n f) (hn : n ≤ n') : Mp w gm n' f := by
  obtain ⟨D, h1, h2⟩ := h
  exact ⟨D, h1.mono hn, h2⟩
/-- The first i columns without a row. -/
def prem (cols : List (List Int)) (row i : Nat) : List (List Int) := cols.mapIdx fun j c => if j < i then rem c row else c
theorem prem_len (cols : List (List Int)) (row i : Nat) : (prem cols row i).length = cols.length := by simp [prem]
theorem prem_at (cols : List (List Int)) (row i j : Nat) (hj : j < cols.length) : (prem cols row i)[j]'(by rw [prem_len]; exact hj) = if j < i then rem cols[j] row else cols[j] := by simp [prem]
theorem prem_zero (cols : List (List Int)) (row : Nat) : prem cols row 0 = cols := by
  apply List.ext_getElem (by rw [prem_len])
  intro j h1 h2
  rw [prem_at _ _ _ _ h2, if_neg (by omega)]
theorem prem_step (cols : List (List Int)) (row i : Nat) (hi : i < cols.length) : (prem cols row i).set i (rem cols[i] row) = prem cols row (i + 1) := by
  apply List.ext_getElem (by simp [prem_len])
  intro j h1 h2
  have hj : j < cols.length := by rw [prem_len] at h2; exact h2
  rw [List.getElem_set, prem_at _ _ _ _ hj, prem_at _ _ _ _ hj]
  by_cases e : i = j
  · subst e; rw [if_pos rfl, if_pos (by omega)]
  · rw [if_neg e]
    by_cases e2 : j < i
    · rw [if_pos e2, if_pos (by omega)]
    · rw [if_neg e2, if_neg (by omega)]
def remCols (cols : List (List Int)) (row : Nat) : List (List Int) := prem cols row cols.length
theorem own_rem_ent {w : World} {gr cr row : Nat} {rows : List (Int × Int)} (h : w.ownsRow 0 29 2 (.slice (some ⟨gr, 0, none⟩) rows.length cr) rows.length (ez rows)) (hr : row < rows.length) :
    ((w.setCell ⟨gr, row * 2, none⟩ (.int .i64 (rows[rows.length - 1]'(by omega)).1)).setCell ⟨gr, row * 2 + 1, none⟩ (.int .i64 (rows[rows.length - 1]'(by omega)).2)).ownsRow 0 29 2 (.slice (some ⟨gr, 0, none⟩) (rows.length - 1) cr) (rem rows row).length (ez (rem rows row)) := by
  have h1 := ((h.stored (row * 2) (.int .i64 (rows[rows.length - 1]'(by omega)).1)).1.stored (row * 2 + 1) (.int .i64 (rows[rows.length - 1]'(by omega)).2)).1
  rw [ez_set rows row _ _ hr] at h1
  have h2 := own_prefix h1 (n := rows.length - 1) (by omega)
  rw [ez_take] at h2
  have e : rows.getD (rows.length - 1) default = rows[rows.length - 1]'(by omega) := by rw [List.getD_eq_getElem?_getD, List.getElem?_eq_getElem (by omega)]; rfl
  rw [rem_len]
  unfold rem
  rw [e]
  exact h2
theorem own_rem_num {w : World} {gj cj row : Nat} {col : List Int} (h : w.ownsRow 0 2 1 (.slice (some ⟨gj, 0, none⟩) col.length cj) col.length (zc col)) (hr : row < col.length) :
    (w.setCell ⟨gj, row, none⟩ (.int .i64 (col[col.length - 1]'(by omega)))).ownsRow 0 2 1 (.slice (some ⟨gj, 0, none⟩) (col.length - 1) cj) (rem col row).length (zc (rem col row)) := by
  have h1 := (h.stored row (.int .i64 (col[col.length - 1]'(by omega)))).1
  rw [zc_set] at h1
  have h2 := own_prefix h1 (n := col.length - 1) (by omega)
  rw [Nat.mul_one, zc_take] at h2
  have e : col.getD (col.length - 1) default = col[col.length - 1]'(by omega) := by rw [List.getD_eq_getElem?_getD, List.getElem?_eq_getElem (by omega)]; rfl
  rw [rem_len]
  unfold rem
  rw [e]
  exact h2
theorem grown_drew (w : World) (r : Option Nat) : w.grownBy w.drew r := ⟨rfl, rfl, rfl, Nat.le_refl _, fun _ _ _ => rfl⟩
theorem grown_two {w w1 w2 : World} {r : Option Nat} (h : w.grownBy w1 r) (k : w1.grownBy w2 r) : w.grownBy w2 r := ⟨k.os.trans h.os, k.tape.trans h.tape, k.output.trans h.output, Nat.le_trans h.size k.size, fun i hi hn => (k.block i (Nat.lt_of_lt_of_le hi h.size) hn).trans (h.block i hi hn)⟩
section
variable {w : World} {S : Nat → Prop} {g n : Nat} {rows : List (Int × Int)} {cols : List (List Int)}
theorem remove_bad (h : Tb w S g n rows cols) (x : Int) (hx : ¬ (0 ≤ x ∧ x < (rows.length : Int))) : Calls Tryz.prog 151 #[.pointer (some ⟨g, 0, none⟩), .int .i64 x] w fun e w' => e = .returned (.tuple #[.agg #[.int .i64 0, .int .i64 0], .bool false, .int .i64 50]) ∧ Below w.heap.size w w' := by
  have J : Hid (∀ W, Below w.heap.size w W → Calls Tryz.prog 183 #[.pointer (some ⟨g, 0, none⟩), .int .i64 x] W fun e w' => e = .returned (.bool false) ∧ w' = W) := fun W hb => by
    have := hasrow_any (h.later hb) x
    rw [decide_eq_false hx] at this
    exact this
  go_enter Tryz.func151, Tryz.ntmps151
  go_wp2_with fail
  refine (J.out _ (below_alloc w _)).mono ?_
  rintro e w1 ⟨rfl, rfl⟩
  go_wp2_with fail
  (try simp only [Exit.inBlock, Exit.then])
  refine bodyPost_ret (v := .tuple #[.agg #[.int .i64 0, .int .i64 0], .bool false, .int .i64 50]) ?_ rfl ⟨rfl, below_alloc w _⟩
  rw [results_cell2 rfl]
  go_simp
set_option maxHeartbeats 40000000 in
set_option maxRecDepth 1000000 in
theorem remove_any (h : Tb w S g n rows cols) (row : Nat) (hr : row < rows.length) (hn : n ≤ 1000000) :
    Calls Tryz.prog 151 #[.pointer (some ⟨g, 0, none⟩), .int .i64 (row : Int)] w fun e w' => e = .returned (.tuple #[if row = rows.length - 1 then .agg #[.int .i64 0, .int .i64 0] else .agg #[.int .i64 (rows[rows.length - 1]'(by omega)).1, .int .i64 (rows[rows.length - 1]'(by omega)).2], .bool (decide (row ≠ rows.length - 1)), .int .i64 0]) ∧ Tb w' S g (n + 1) (rem rows row) (remCols cols row) ∧ Mv w w' S := by
  have J : Hid (∀ W, Below w.heap.size w W → Calls Tryz.prog 183 #[.pointer (some ⟨g, 0, none⟩), .int .i64 (row : Int)] W fun e w' => e = .returned (.bool true) ∧ w' = W) := fun W hb => by
    have := hasrow_any (h.later hb) (row : Int)
    rw [decide_eq_true ⟨by omega, by omega⟩] at this
    exact this
  obtain ⟨lab, vr, gm, vc, cs, f, hm, hix, hcl, ⟨s1, s2, s3, s4, s5⟩, hib, hr2, hc48⟩ := h
  obtain ⟨ac, cc, rfl⟩ := own_len hm.2.2.2.1
  obtain ⟨gr, cr, rfl, hcr1, hcr2⟩ := own_form hm.2.1 (by omega)
  have hcs := hm.2.2.2.2.1
  have HM := hide hm
  have HIX := hide hix
  have HREST := hide (And.intro hcl (And.intro (And.intro s1 (And.intro s2 (And.intro s3 (And.intro s4 s5)))) hib))
  have hcc := (own_cap hm.2.2.2.1)
  have hll : rows.length - 1 < rows.length := by omega
  obtain ⟨r1, hr1⟩ : ∃ r, r = rows[row].1 := ⟨_, rfl⟩
  obtain ⟨r2, hr2'⟩ : ∃ r, r = rows[row].2 := ⟨_, rfl⟩
  obtain ⟨l1, hl1⟩ : ∃ r, r = (rows[rows.length - 1]'hll).1 := ⟨_, rfl⟩
  obtain ⟨l2, hl2⟩ : ∃ r, r = (rows[rows.length - 1]'hll).2 := ⟨_, rfl⟩
  obtain ⟨last, hlast⟩ : ∃ l, l = rows.length - 1 := ⟨_, rfl⟩
  have CE : Hid (∀ W, Below w.heap.size w W → W.cell? ⟨g, 0, none⟩ = some (.slice (some ⟨gr, 0, none⟩) rows.length cr) ∧ W.cell? ⟨gr, last * 2, none⟩ = some (.int .i64 l1) ∧ W.cell? ⟨gr, last * 2 + 1, none⟩ = some (.int .i64 l2)) := fun W hb => by
    have hw := HM.out.later hb
    have := own_ent hw.2.1 (rows.length - 1) (by omega)
    rw [hl1, hl2, hlast]
    exact ⟨hw.cell.1, this.1, this.2⟩
  have tl : (rows.length : Int) - 1 = (last : Int) := by omega
  have tl2 : (last : Int) < (rows.length : Int) := by omega
  have tr : (row : Int) < (rows.length : Int) := by omega
  have trl : row ≤ last := by omega
  have HLAST : Hid (last = rows.length - 1) := hlast
  have HR12 : Hid (r1 = rows[row].1 ∧ r2 = rows[row].2) := ⟨hr1, hr2'⟩
  have HL12 : Hid (l1 = (rows[rows.length - 1]'hll).1 ∧ l2 = (rows[rows.length - 1]'hll).2) := ⟨hl1, hl2⟩
  clear hm hix hcl s1 s2 s3 s4 s5 hib hlast hr1 hr2' hl1 hl2
  have tw : IntKind.i64.wrap (last : Int) = (last : Int) := by rw [IntKind.wrap_i64]; omega
  go_enter Tryz.func151, Tryz.ntmps151
  go_wp2_with fail
  refine (J.out _ (below_alloc w _)).mono ?_
  rintro e w1 ⟨rfl, hw1⟩
  obtain ⟨kb, hkb⟩ : ∃ k, k = w.heap.size := ⟨_, rfl⟩
  have B1 : Below w.heap.size w w1 := hw1 ▸ below_alloc w _
  have hbx1 : w1.heap[kb]? = some (.cells #[.int .i64 0, .int .i64 0] 29 (0, 0)) := by rw [hkb, hw1]; exact heap_alloc_new w _
  obtain ⟨d0, d1, d2⟩ := CE.out w1 B1
  have HW1 := hide hw1
  have HKB := hide hkb
  rw [← hkb]
  clear hw1 hkb J
  go_upto_region 5 with fail
  obtain ⟨w3, hw3⟩ : ∃ X, X = w1.alloc (.cells #[.int .i64 l1, .int .i64 l2] 29) := ⟨_, rfl⟩
  have B3 : Below w1.heap.size w1 w3 := hw3 ▸ below_alloc w1 _
  have hbx3 : w3.heap[w1.heap.size]? = some (.cells #[.int .i64 l1, .int .i64 l2] 29 (0, 0)) := hw3 ▸ heap_alloc_new w1 _
  rw [← hw3]
  obtain ⟨k8, hk8⟩ : ∃ k, k = w1.heap.size := ⟨_, rfl⟩
  rw [← hk8] at hbx3 ⊢
  have hbxb : w3.heap[kb]? = some (.cells #[.int .i64 0, .int .i64 0] 29 (0, 0)) := (B3.block kb (lt_of_block hbx1)).trans hbx1
  have C3 : Hid (Below w.heap.size w w3) := below_on B1 B3
  have HKK : Hid (w.heap.size ≤ kb ∧ w.heap.size ≤ k8 ∧ kb < k8) := ⟨Nat.le_of_eq HKB.out.symm, by rw [hk8]; exact B1.size, by rw [hk8]; exact lt_of_block hbx1⟩
  have HBB := hide (And.intro hbxb hbx3)
  clear hw3 hk8 hbx1 hbx3 hbxb d0 d1 d2 HW1
  have H3 := hide (HM.out.later C3.out)
  have BX : Hid (∀ W : World, Mv w3 W (fun k => S k ∧ k < w.heap.size) → (W.heap[k8]? = some (.cells #[.int .i64 l1, .int .i64 l2] 29 (0, 0)) ∧ W.heap[kb]? = some (.cells #[.int .i64 0, .int .i64 0] 29 (0, 0))) ∧ W.cell? ⟨k8, 0, none⟩ = some (.int .i64 l1) ∧ W.cell? ⟨k8, 1, none⟩ = some (.int .i64 l2)) := fun W hm => by
    have h8 := hm.at HBB.out.2 (fun e => by have := HKK.out; omega)
    have hb := hm.at HBB.out.1 (fun e => by have := HKK.out; omega)
    exact ⟨⟨h8, hb⟩, by rw [cell_of_row W k8 _ _ 29 (0, 0) h8]; rfl, by rw [cell_of_row W k8 _ _ 29 (0, 0) h8]; rfl⟩
  have hd3 := H3.out.later (below_drew w3)
  obtain ⟨y2, y1, -⟩ := hd3.cell
  obtain ⟨y3, y4⟩ := own_ent hd3.2.1 row hr
  rw [← HR12.out.1] at y3
  rw [← HR12.out.2] at y4
  have hin : InB (r1, r2) := by
    have := HREST.out.2.2 _ (List.getElem_mem hr)
    rw [HR12.out.1, HR12.out.2]
    exact this
  obtain ⟨w4, hst, hmp4, htn4⟩ := hd3.2.2.1.drop (r1, r2) hin 0
  obtain ⟨ht4, hmv4⟩ := hd3.map_put (W' := w4) hmp4 htn4.grown
  have HT4 := hide ht4
  have HSG : Hid ((S g ∧ g < w.heap.size) ∧ (S gr ∧ gr < w.heap.size) ∧ (S gm ∧ gm < w.heap.size)) := ⟨⟨HREST.out.2.1.1, HM.out.lt⟩, ⟨HREST.out.2.1.2.1 gr rfl, (HM.out.2.1.lt gr rfl).2⟩, ⟨HREST.out.2.1.2.2.1, HM.out.2.2.1.lt⟩⟩
  have HM4 : Hid (Mv w3 w4 (fun k => S k ∧ k < w.heap.size)) := (Mv.of_below (below_drew w3) _).trans hmv4 (fun k _ e => by rw [e]; exact HSG.out.2.2)
  obtain ⟨yy2, yy1, -⟩ := HT4.out.cell
  obtain ⟨yy3, yy4⟩ := own_ent HT4.out.2.1 row hr
  rw [← HR12.out.1] at yy3
  rw [← HR12.out.2] at yy4
  clear hmp4 htn4 ht4 hmv4 hd3
  dsimp only at hst
  refine wp_region_noPanic ?_
  refine wp_region_late (J := fun i => i != 99) (S := fun W => W.cell? ⟨g, 1, none⟩ = some (.map (some gm)) ∧ W.cell? ⟨g, 0, none⟩ = some (.slice (some ⟨gr, 0, none⟩) rows.length cr) ∧ W.cell? ⟨gr, row * 2, none⟩ = some (.int .i64 r1) ∧ W.cell? ⟨gr, row * 2 + 1, none⟩ = some (.int .i64 r2)) (by kernel_rfl) ⟨y1, y2, y3, y4⟩ (fun hHeld => ?_)
  refine' wpAnyJ_takeW (i := 0) (oi := { dst := some 29, op := Op.move (Operand.tmp 0), type := 133, pos := "table.go:56", after := #[], guard := none }) (v := _) rfl (by kernel_rfl) (by kernel_rfl) (by kernel_rfl) (fun _ _ _ h => h) (Or.inl ⟨by rfl, ?hyA1⟩) ?reA1
  case hyA1 => (intro W hSw; (try dsimp only at hSw); go_simp; try with_reducible rfl)
  try simp only [Act.put, List.setIfInBounds_toArray, List.set_cons_zero, List.set_cons_succ]
  refine' wpAnyJ_takeW (i := 1) (oi := { dst := some 30, op := Op.nilCheck (Operand.tmp 29), type := 0, pos := "table.go:56", after := #[{ on := 0, ground := Ground.data }], guard := none }) (v := _) rfl (by kernel_rfl) (by kernel_rfl) (by kernel_rfl) (fun _ _ _ h => h) (Or.inl ⟨by rfl, ?hyA2⟩) ?reA2
  case hyA2 => (intro W hSw; (try dsimp only at hSw); go_simp; try with_reducible rfl)
  try simp only [Act.put, List.setIfInBounds_toArray, List.set_cons_zero, List.set_cons_succ]
  refine' wpAnyJ_takeW (i := 2) (oi := { dst := some 31, op := Op.fieldAddr 197 (Operand.tmp 30) 1, type := 0, pos := "table.go:56", after := #[{ on := 1, ground := Ground.data }], guard := none }) (v := _) rfl (by kernel_rfl) (by kernel_rfl) (by kernel_rfl) (fun _ _ _ h => h) (Or.inl ⟨by rfl, ?hyA3⟩) ?reA3
  case hyA3 => (intro W hSw; (try dsimp only at hSw); go_simp; try with_reducible rfl)
  try simp only [Act.put, List.setIfInBounds_toArray, List.set_cons_zero, List.set_cons_succ]
  refine' wpAnyJ_take (i := 3) (oi := { dst := some 32, op := Op.load 106 (Operand.tmp 31), type := 106, pos := "table.go:56", after := #[{ on := 2, ground := Ground.data }], guard := none }) (v := _) rfl (by kernel_rfl) (by kernel_rfl) (by kernel_rfl) (by kernel_rfl) (fun _ _ _ h => h) (Or.inl ⟨by rfl, ?hyA4⟩) (by assumption) ?reA4
  case hyA4 => (intro W hSw; (try dsimp only at hSw); go_simp; try with_reducible rfl)
  try simp only [Act.put, List.setIfInBounds_toArray, List.set_cons_zero, List.set_cons_succ]
  refine' wpAnyJ_takeW (i := 4) (oi := { dst := some 33, op := Op.move (Operand.tmp 0), type := 133, pos := "table.go:56", after := #[], guard := none }) (v := _) rfl (by kernel_rfl) (by kernel_rfl) (by kernel_rfl) (fun _ _ _ h => h) (Or.inl ⟨by rfl, ?hyA5⟩) ?reA5
  case hyA5 => (intro W hSw; (try dsimp only at hSw); go_simp; try with_reducible rfl)
  try simp only [Act.put, List.setIfInBounds_toArray, List.set_cons_zero, List.set_cons_succ]
  refine' wpAnyJ_takeW (i := 5) (oi := { dst := some 34, op := Op.nilCheck (Operand.tmp 33), type := 0, pos := "table.go:56", after := #[{ on := 4, ground := Ground.data }], guard := none }) (v := _) rfl (by kernel_rfl) (by kernel_rfl) (by kernel_rfl) (fun _ _ _ h => h) (Or.inl ⟨by rfl, ?hyA6⟩) ?reA6
  case hyA6 => (intro W hSw; (try dsimp only at hSw); go_simp; try with_reducible rfl)
  try simp only [Act.put, List.setIfInBounds_toArray, List.set_cons_zero, List.set_cons_succ]
  refine' wpAnyJ_takeW (i := 6) (oi := { dst := some 35, op := Op.fieldAddr 197 (Operand.tmp 34) 0, type := 0, pos := "table.go:56", after := #[{ on := 5, ground := Ground.data }], guard := none }) (v := _) rfl (by kernel_rfl) (by kernel_rfl) (by kernel_rfl) (fun _ _ _ h => h) (Or.inl ⟨by rfl, ?hyA7⟩) ?reA7
  case hyA7 => (intro W hSw; (try dsimp only at hSw); go_simp; try with_reducible rfl)
  try simp only [Act.put, List.setIfInBounds_toArray, List.set_cons_zero, List.set_cons_succ]
  refine' wpAnyJ_take (i := 7) (oi := { dst := some 36, op := Op.load 39 (Operand.tmp 35), type := 39, pos := "table.go:56", after := #[{ on := 6, ground := Ground.data }], guard := none }) (v := _) rfl (by kernel_rfl) (by kernel_rfl) (by kernel_rfl) (by kernel_rfl) (fun _ _ _ h => h) (Or.inl ⟨by rfl, ?hyA8⟩) (by assumption) ?reA8
  case hyA8 => (intro W hSw; (try dsimp only at hSw); go_simp; try with_reducible rfl)
  try simp only [Act.put, List.setIfInBounds_toArray, List.set_cons_zero, List.set_cons_succ]
  refine' wpAnyJ_takeW (i := 8) (oi := { dst := some 37, op := Op.move (Operand.tmp 1), type := 3, pos := "table.go:56", after := #[], guard := none }) (v := _) rfl (by kernel_rfl) (by kernel_rfl) (by kernel_rfl) (fun _ _ _ h => h) (Or.inl ⟨by rfl, ?hyA9⟩) ?reA9
  case hyA9 => (intro W hSw; (try dsimp only at hSw); go_simp; try with_reducible rfl)
  try simp only [Act.put, List.setIfInBounds_toArray, List.set_cons_zero, List.set_cons_succ]
  refine' wpAnyJ_takeW (i := 9) (oi := { dst := some 38, op := Op.indexAddr 39 (Operand.tmp 36) (Operand.tmp 37), type := 0, pos := "table.go:56", after := #[{ on := 7, ground := Ground.data }, { on := 8, ground := Ground.data }], guard := none }) (v := _) rfl (by kernel_rfl) (by kernel_rfl) (by kernel_rfl) (fun _ _ _ h => h) (Or.inl ⟨by rfl, ?hyA10⟩) ?reA10
  case hyA10 => (intro W hSw; (try dsimp only at hSw); go_simp; try with_reducible rfl)
  try simp only [Act.put, List.setIfInBounds_toArray, List.set_cons_zero, List.set_cons_succ]
  refine' wpAnyJ_take (i := 10) (oi := { dst := some 39, op := Op.load 29 (Operand.tmp 38), type := 29, pos := "table.go:56", after := #[{ on := 9, ground := Ground.data }], guard := none }) (v := _) rfl (by kernel_rfl) (by kernel_rfl) (by kernel_rfl) (by kernel_rfl) (fun _ _ _ h => h) (Or.inl ⟨by rfl, ?hyA11⟩) (by assumption) ?reA11
  case hyA11 => (intro W hSw; (try dsimp only at hSw); go_simp; try with_reducible rfl)
  try simp only [Act.put, List.setIfInBounds_toArray, List.set_cons_zero, List.set_cons_succ]
  refine wpAnyJ_ready (rs := [11]) (by kernel_rfl) (by simp) ?_
  refine AllReadyJ.cons (o := { dst := none, op := Op.call { callee := Callee.builtin Builtin.delete, args := #[Operand.tmp 32, Operand.tmp 39], argTypes := #[106, 29] }, type := 0, pos := "table.go:56", after := #[{ on := 3, ground := Ground.data }, { on := 10, ground := Ground.data }], guard := none }) rfl (fun K hK => ?_) AllReadyJ.nil
  go_simp
  refine hK.out _ _ (fun _ _ => ⟨yy1, yy2, yy3, yy4⟩) ?_
  clear hK K
  try simp only [Act.put, List.setIfInBounds_toArray, List.set_cons_zero, List.set_cons_succ]
  refine wpAnyJ_done (by kernel_rfl) ?_ _
  refine NoPanic.normal ?_
  clear hst y1 y2 y3 y4 yy1 yy2 yy3 yy4
  have hd4 := HT4.out.later (below_drew w4)
  have M4d : Hid (Mv w3 w4.drew (fun k => S k ∧ k < w.heap.size)) := HM4.out.later (below_drew w4)
  obtain ⟨y1, -, -⟩ := hd4.cell
  obtain ⟨-, y2, y3⟩ := BX.out w4.drew M4d.out
  have hrow4 := HT4.out.2.1
  obtain ⟨q1, q2⟩ := own_ent hrow4 row hr
  have fz1 := hrow4.frozenAt (row * 2)
  have hs1 := hrow4.stored (row * 2) (.int .i64 l1)
  have fz2 : ∀ v k, (w4.setCell ⟨gr, row * 2, none⟩ v).frozen? ⟨gr, k, none⟩ = false := fun v k => (hrow4.stored (row * 2) v).1.frozenAt k
  have cz2 : ∀ v, (w4.setCell ⟨gr, row * 2, none⟩ v).cell? ⟨gr, row * 2 + 1, none⟩ = some (.int .i64 rows[row].2) := fun v => (World.cell?_setCell_other (w := w4) (a := ⟨gr, row * 2, none⟩) (v := v) (b := ⟨gr, row * 2 + 1, none⟩) (by intro e; injection e with _ e; omega)).trans q2
  clear hd4 hrow4 hs1
  go_upto_region 6 with fail
  refine wp_region_noPanic ?_
  refine wp_region_late (J := fun i => i != 7) (S := fun W => W.cell? ⟨g, 0, none⟩ = some (.slice (some ⟨gr, 0, none⟩) rows.length cr) ∧ W.cell? ⟨k8, 0, none⟩ = some (.int .i64 l1) ∧ W.cell? ⟨k8, 1, none⟩ = some (.int .i64 l2)) (by kernel_rfl) ⟨y1, y2, y3⟩ (fun hHeld => ?_)
  refine' wpAnyJ_takeW (i := 0) (oi := { dst := some 40, op := Op.move (Operand.tmp 0), type := 133, pos := "table.go:57", after := #[], guard := none }) (v := _) rfl (by kernel_rfl) (by kernel_rfl) (by kernel_rfl) (fun _ _ _ h => h) (Or.inl ⟨by rfl, ?hyB1⟩) ?reB1
  case hyB1 => (intro W hSw; (try dsimp only at hSw); go_simp; try with_reducible rfl)
  try simp only [Act.put, List.setIfInBounds_toArray, List.set_cons_zero, List.set_cons_succ]
  refine' wpAnyJ_takeW (i := 1) (oi := { dst := some 41, op := Op.nilCheck (Operand.tmp 40), type := 0, pos := "table.go:57", after := #[{ on := 0, ground := Ground.data }], guard := none }) (v := _) rfl (by kernel_rfl) (by kernel_rfl) (by kernel_rfl) (fun _ _ _ h => h) (Or.inl ⟨by rfl, ?hyB2⟩) ?reB2
  case hyB2 => (intro W hSw; (try dsimp only at hSw); go_simp; try with_reducible rfl)
  try simp only [Act.put, List.setIfInBounds_toArray, List.set_cons_zero, List.set_cons_succ]
  refine' wpAnyJ_takeW (i := 2) (oi := { dst := some 42, op := Op.fieldAddr 197 (Operand.tmp 41) 0, type := 0, pos := "table.go:57", after := #[{ on := 1, ground := Ground.data }], guard := none }) (v := _) rfl (by kernel_rfl) (by kernel_rfl) (by kernel_rfl) (fun _ _ _ h => h) (Or.inl ⟨by rfl, ?hyB3⟩) ?reB3
  case hyB3 => (intro W hSw; (try dsimp only at hSw); go_simp; try with_reducible rfl)
  try simp only [Act.put, List.setIfInBounds_toArray, List.set_cons_zero, List.set_cons_succ]
  refine' wpAnyJ_take (i := 3) (oi := { dst := some 43, op := Op.load 39 (Operand.tmp 42), type := 39, pos := "table.go:57", after := #[{ on := 2, ground := Ground.data }], guard := none }) (v := _) rfl (by kernel_rfl) (by kernel_rfl) (by kernel_rfl) (by kernel_rfl) (fun _ _ _ h => h) (Or.inl ⟨by rfl, ?hyB4⟩) (by assumption) ?reB4
  case hyB4 => (intro W hSw; (try dsimp only at hSw); go_simp; try with_reducible rfl)
  try simp only [Act.put, List.setIfInBounds_toArray, List.set_cons_zero, List.set_cons_succ]
  refine' wpAnyJ_takeW (i := 4) (oi := { dst := some 44, op := Op.move (Operand.tmp 1), type := 3, pos := "table.go:57", after := #[], guard := none }) (v := _) rfl (by kernel_rfl) (by kernel_rfl) (by kernel_rfl) (fun _ _ _ h => h) (Or.inl ⟨by rfl, ?hyB5⟩) ?reB5
  case hyB5 => (intro W hSw; (try dsimp only at hSw); go_simp; try with_reducible rfl)
  try simp only [Act.put, List.setIfInBounds_toArray, List.set_cons_zero, List.set_cons_succ]
  refine' wpAnyJ_take (i := 5) (oi := { dst := some 45, op := Op.load 29 (Operand.tmp 8), type := 29, pos := "table.go:57", after := #[], guard := none }) (v := _) rfl (by kernel_rfl) (by kernel_rfl) (by kernel_rfl) (by kernel_rfl) (fun _ _ _ h => h) (Or.inl ⟨by rfl, ?hyB6⟩) (by assumption) ?reB6
  case hyB6 => (intro W hSw; (try dsimp only at hSw); go_simp; try with_reducible rfl)
  try simp only [Act.put, List.setIfInBounds_toArray, List.set_cons_zero, List.set_cons_succ]
  refine' wpAnyJ_takeW (i := 6) (oi := { dst := some 46, op := Op.indexAddr 39 (Operand.tmp 43) (Operand.tmp 44), type := 0, pos := "table.go:57", after := #[{ on := 3, ground := Ground.data }, { on := 4, ground := Ground.data }, { on := 0, ground := Ground.phase }, { on := 1, ground := Ground.phase }, { on := 2, ground := Ground.phase }, { on := 3, ground := Ground.phase }, { on := 4, ground := Ground.phase }, { on := 5, ground := Ground.phase }], guard := none }) (v := _) rfl (by kernel_rfl) (by kernel_rfl) (by kernel_rfl) (fun _ _ _ h => h) (Or.inl ⟨by rfl, ?hyB7⟩) ?reB7
  case hyB7 => (intro W hSw; (try dsimp only at hSw); go_simp; try with_reducible rfl)
  try simp only [Act.put, List.setIfInBounds_toArray, List.set_cons_zero, List.set_cons_succ]
  refine wpAnyJ_ready (rs := [7]) (by kernel_rfl) (by simp) ?_
  refine AllReadyJ.cons (o := { dst := none, op := Op.store 29 (Operand.tmp 46) (Operand.tmp 45), type := 0, pos := "table.go:57", after := #[{ on := 6, ground := Ground.data }, { on := 5, ground := Ground.data }, { on := 0, ground := Ground.phase }, { on := 1, ground := Ground.phase }, { on := 2, ground := Ground.phase }, { on := 3, ground := Ground.phase }, { on := 4, ground := Ground.phase }, { on := 5, ground := Ground.phase }], guard := none }) rfl (fun K hK => ?_) AllReadyJ.nil
  go_simp
  refine hK.out _ _ (fun h => absurd h (by decide)) ?_
  clear hK K
  try simp only [Act.put, List.setIfInBounds_toArray, List.set_cons_zero, List.set_cons_succ]
  refine wpAnyJ_done (by kernel_rfl) ?_ _
  refine NoPanic.normal ?_
  have hor := own_rem_ent HT4.out.2.1 hr
  rw [← HL12.out.1, ← HL12.out.2] at hor
  obtain ⟨w5, hw5⟩ : ∃ X, X = ((w4.setCell ⟨gr, row * 2, none⟩ (.int .i64 l1)).setCell ⟨gr, row * 2 + 1, none⟩ (.int .i64 l2)).drew := ⟨_, rfl⟩
  have hor5 : w5.ownsRow 0 29 2 (.slice (some ⟨gr, 0, none⟩) last cr) (rem rows row).length (ez (rem rows row)) := by
    rw [hw5, HLAST.out]
    exact own_later hor (below_drew _)
  have hg5 : w4.grownBy w5 (Value.slice (some ⟨gr, 0, none⟩) rows.length cr).ownBlock := by
    rw [hw5]
    exact grown_two (grown_two (grown_set _ _ _ _) (grown_set _ _ _ _)) (grown_drew _ _)
  obtain ⟨z1, z2, z3, z4⟩ := HT4.out.rows_put (Below.refl _ _) hor5 hg5 (.inl rfl)
  rw [← hw5]
  have HT6 := hide z1
  have HM6 : Hid (Mv w3 (w5.setCell ⟨g, 0, none⟩ (.slice (some ⟨gr, 0, none⟩) last cr)) (fun k => S k ∧ k < w.heap.size)) := HM4.out.trans z2 (fun k _ e => by
    rcases e with e | e
    · rw [e]; exact HSG.out.1
    · simp only [Value.ownBlock, Option.some.injEq] at e
      rw [← e]; exact HSG.out.2.1)
  have c5 := z3
  have f5 := z4
  have hc1 : (last : Int) ≤ (cr : Int) := by omega
  clear z1 z2 z3 z4 hor hor5 hg5 hw5 y1 y2 y3 q1 q2 fz1 fz2 cz2
  have d6 := HT6.out.cell.2.2
  go_upto_block 0 with fail
  obtain ⟨w6, hw6⟩ : ∃ X, X = w5.setCell ⟨g, 0, none⟩ (.slice (some ⟨gr, 0, none⟩) last cr) := ⟨_, rfl⟩
  rw [← hw6] at HT6 HM6 ⊢
  clear hw6 c5 f5 d6
  obtain ⟨lab6, hlab6⟩ : ∃ l, l = ext lab w4.heap.size 1 := ⟨_, rfl⟩
  have HT6' : Hid (Tm w6 lab6 g (.slice (some ⟨gr, 0, none⟩) last cr) gm n (.slice ac cs.length cc) cs (fun x => if x = (r1, r2) then none else f x) (rem rows row) (prem cols row 0)) := by
    rw [prem_zero, hlab6]
    exact HT6.out
  have HCS := hide hcs
  clear HT6 hlab6
  go_wp2_with fail
  go_loopw [61] (fun v61 W => ∃ (j : Nat) (labj : Nat → Nat) (csj : List Value), j ≤ cols.length ∧ v61 = .int .i64 (j : Int) ∧ Hid (csj.length = cols.length) ∧ Hid (Tm W labj g (.slice (some ⟨gr, 0, none⟩) last cr) gm n (.slice ac csj.length cc) csj (fun x => if x = (r1, r2) then none else f x) (rem rows row) (prem cols row j)) ∧ Hid (Mv w3 W (fun k => S k ∧ k < w.heap.size)) ∧ Hid (∀ u ∈ csj, ∀ k, u.ownBlock = some k → S k ∧ k < w.heap.size)) (fun v61 _ => cols.length - (intOf v61).toNat)
  case atStart => exact ⟨0, lab6, cs, Nat.zero_le _, rfl, HCS, HT6', HM6, fun u hu k e => ⟨HREST.out.2.1.2.2.2.2 u hu k e, by
    obtain ⟨i, hi, rfl⟩ := List.getElem_of_mem hu
    exact ((HM.out.2.2.2.2.2.1 i hi (by omega)).lt k e).2⟩⟩
  case round =>
    obtain ⟨j, labj, csj, hjl, rfl, HCJ, HT, HMV, HIN⟩ := hrel
    clear HT6' HM6
    by_cases hj : j < cols.length
    · have t5 : (j : Int) < (cols.length : Int) := by omega
      have hcj := HCJ.out
      have hjc : j < csj.length := by omega
      obtain ⟨gc, cc', ec, -, -⟩ := own_form HT.out.2.2.2.1 (by omega)
      simp only [Value.slice.injEq] at ec
      obtain ⟨rfl, -, rfl⟩ := ec
      have hpl : j < (prem cols row j).length := by rw [prem_len]; exact hj
      have hrow := HT.out.2.2.2.2.2.1 j hjc hpl
      have hpc : (prem cols row j)[j] = cols[j] := by rw [prem_at _ _ _ _ hj, if_neg (Nat.lt_irrefl _)]
      rw [hpc] at hrow
      have hln : cols[j].length = rows.length := HREST.out.1 _ (List.getElem_mem hj)
      obtain ⟨gj, cj, hvj, hcj1, hcj2⟩ := own_form hrow (by omega)
      have hrow2 := hrow
      rw [hvj] at hrow2
      have e1 := own_slices HT.out.2.2.2.1 j hjc
      rw [hvj, hln] at e1
      have e2 := own_num hrow2 (cols[j].length - 1) (by omega)
      obtain ⟨x3, e3⟩ : ∃ x3, wr.cell? ⟨gj, row, none⟩ = some x3 := ⟨_, own_num hrow2 row (by omega)⟩
      have ef := hrow2.frozenAt row
      obtain ⟨x, hx⟩ : ∃ x, x = cols[j][cols[j].length - 1]'(by omega) := ⟨_, rfl⟩
      rw [← hx] at e2
      have e2' : wr.cell? ⟨gj, last, none⟩ = some (.int .i64 x) := by rw [HLAST.out, ← hln]; exact e2
      have hon := own_rem_num hrow2 (row := row) (by omega)
      rw [← hx] at hon
      have hl5 : cols[j].length - 1 = last := by rw [hln, HLAST.out]
      rw [hl5] at hon
      have hcl3 : (last : Int) ≤ (cj : Int) := by omega
      have lgj : labj gj = 4 + j := HT.out.2.2.2.2.2.2.2.2.2.2 j hjc gj (by rw [hvj]; rfl)
      have lg : labj g = 0 := HT.out.2.2.2.2.2.2.1
      have d2 : ∀ u, (wr.setCell ⟨gj, row, none⟩ u).cell? ⟨g, 2, none⟩ = some (.slice (some ⟨gc, 0, none⟩) cols.length cc) := fun u => by
        rw [World.cell?_setCell_far _ _ _ _ (by show gj ≠ g; intro e; subst e; omega)]
        have := HT.out.cell.2.2
        rw [hcj] at this
        exact this
      have y2 : ((wr.setCell ⟨gj, row, none⟩ (.int .i64 x)).drew).cell? ⟨g, 2, none⟩ = some (.slice (some ⟨gc, 0, none⟩) cols.length cc) := d2 _
      have hgrw : wr.grownBy ((wr.setCell ⟨gj, row, none⟩ (.int .i64 x)).drew) (csj[j]).ownBlock := by
        rw [hvj]
        exact grown_two (grown_set _ _ _ _) (grown_drew _ _)
      have hinj := HIN.out _ (List.getElem_mem hjc)
      obtain ⟨z1, z2, z3, z4⟩ := HT.out.col_put (v' := .slice (some ⟨gj, 0, none⟩) last cj) (col := rem cols[j] row) hjc (Below.refl _ _) (own_later hon (below_drew _)) hgrw (.inl (by rw [hvj]; rfl))
      have hpp := prem_step cols row j hj
      rw [hpp] at z1
      have HZ1 : Hid (Tm (((wr.setCell ⟨gj, row, none⟩ (.int .i64 x)).drew).setCell ⟨gc, j, none⟩ (.slice (some ⟨gj, 0, none⟩) last cj)) (ext labj wr.heap.size (4 + j)) g (.slice (some ⟨gr, 0, none⟩) last cr) gm n (.slice (some ⟨gc, 0, none⟩) (csj.set j (.slice (some ⟨gj, 0, none⟩) last cj)).length cc) (csj.set j (.slice (some ⟨gj, 0, none⟩) last cj)) (fun x => if x = (r1, r2) then none else f x) (rem rows row) (prem cols row (j + 1))) := by
        rw [List.length_set]
        exact z1
      have hgcS : S gc ∧ gc < w.heap.size := ⟨HREST.out.2.1.2.2.2.1 gc rfl, (HM.out.2.2.2.1.lt gc rfl).2⟩
      have HZ2 : Hid (Mv w3 (((wr.setCell ⟨gj, row, none⟩ (.int .i64 x)).drew).setCell ⟨gc, j, none⟩ (.slice (some ⟨gj, 0, none⟩) last cj)) (fun k => S k ∧ k < w.heap.size)) := HMV.out.trans z2 (fun k _ e => by
        rcases e with e | e
        · rw [e]; exact hgcS
        · exact hinj k e)
      have HZ3 : Hid ((csj.set j (.slice (some ⟨gj, 0, none⟩) last cj)).length = cols.length) := by
        show (csj.set j _).length = cols.length
        rw [List.length_set]
        exact hcj
      have HZ4 : Hid (∀ u ∈ csj.set j (.slice (some ⟨gj, 0, none⟩) last cj), ∀ k, u.ownBlock = some k → S k ∧ k < w.heap.size) := fun u hu k e => by
        rcases List.mem_or_eq_of_mem_set hu with hu | rfl
        · exact HIN.out u hu k e
        · exact hinj k (by rw [hvj]; exact e)
      rw [hvj, hln] at z3
      clear z1 z2 hgrw hinj hgcS hpp hon hrow2 hrow hx e2 hl5 hpc hpl lgj lg hvj hln
      clear hjc hcj
      have z3' : (wr.setCell ⟨gj, row, none⟩ (.int .i64 x)).cell? ⟨gc, j, none⟩ = some (.slice (some ⟨gj, 0, none⟩) rows.length cj) := z3
      have z4' : (wr.setCell ⟨gj, row, none⟩ (.int .i64 x)).frozen? ⟨gc, j, none⟩ = false := z4
      go_upto_region 12 with fail
      refine wp_region_noPanic ?_
      refine wp_region_late (J := fun i => i != 9) (S := fun W => W.cell? ⟨g, 2, none⟩ = some (.slice (some ⟨gc, 0, none⟩) cols.length cc)) (by kernel_rfl) y2 (fun hHeld => ?_)
      refine' wpAnyJ_takeW (i := 0) (oi := { dst := some 73, op := Op.move (Operand.tmp 0), type := 133, pos := "table.go:61", after := #[], guard := none }) (v := _) rfl (by kernel_rfl) (by kernel_rfl) (by kernel_rfl) (fun _ _ _ h => h) (Or.inl ⟨by rfl, ?hyC1⟩) ?reC1
      case hyC1 => (intro W hSw; (try dsimp only at hSw); go_simp; try with_reducible rfl)
      try simp only [Act.put, List.setIfInBounds_toArray, List.set_cons_zero, List.set_cons_succ]
      refine' wpAnyJ_takeW (i := 1) (oi := { dst := some 74, op := Op.nilCheck (Operand.tmp 73), type := 0, pos := "table.go:61", after := #[{ on := 0, ground := Ground.data }], guard := none }) (v := _) rfl (by kernel_rfl) (by kernel_rfl) (by kernel_rfl) (fun _ _ _ h => h) (Or.inl ⟨by rfl, ?hyC2⟩) ?reC2
      case hyC2 => (intro W hSw; (try dsimp only at hSw); go_simp; try with_reducible rfl)
      try simp only [Act.put, List.setIfInBounds_toArray, List.set_cons_zero, List.set_cons_succ]
      refine' wpAnyJ_takeW (i := 2) (oi := { dst := some 75, op := Op.fieldAddr 197 (Operand.tmp 74) 2, type := 0, pos := "table.go:61", after := #[{ on := 1, ground := Ground.data }], guard := none }) (v := _) rfl (by kernel_rfl) (by kernel_rfl) (by kernel_rfl) (fun _ _ _ h => h) (Or.inl ⟨by rfl, ?hyC3⟩) ?reC3
      case hyC3 => (intro W hSw; (try dsimp only at hSw); go_simp; try with_reducible rfl)
      try simp only [Act.put, List.setIfInBounds_toArray, List.set_cons_zero, List.set_cons_succ]
      refine' wpAnyJ_take (i := 3) (oi := { dst := some 76, op := Op.load 42 (Operand.tmp 75), type := 42, pos := "table.go:61", after := #[{ on := 2, ground := Ground.data }], guard := none }) (v := _) rfl (by kernel_rfl) (by kernel_rfl) (by kernel_rfl) (by kernel_rfl) (fun _ _ _ h => h) (Or.inl ⟨by rfl, ?hyC4⟩) (by assumption) ?reC4
      case hyC4 => (intro W hSw; (try dsimp only at hSw); go_simp; try with_reducible rfl)
      try simp only [Act.put, List.setIfInBounds_toArray, List.set_cons_zero, List.set_cons_succ]
      refine' wpAnyJ_takeW (i := 4) (oi := { dst := some 77, op := Op.move (Operand.tmp 9), type := 3, pos := "table.go:61", after := #[], guard := none }) (v := _) rfl (by kernel_rfl) (by kernel_rfl) (by kernel_rfl) (fun _ _ _ h => h) (Or.inl ⟨by rfl, ?hyC5⟩) ?reC5
      case hyC5 => (intro W hSw; (try dsimp only at hSw); go_simp; try with_reducible rfl)
      try simp only [Act.put, List.setIfInBounds_toArray, List.set_cons_zero, List.set_cons_succ]
      refine' wpAnyJ_takeW (i := 5) (oi := { dst := some 78, op := Op.move (Operand.tmp 10), type := 30, pos := "table.go:61", after := #[], guard := none }) (v := _) rfl (by kernel_rfl) (by kernel_rfl) (by kernel_rfl) (fun _ _ _ h => h) (Or.inl ⟨by rfl, ?hyC6⟩) ?reC6
      case hyC6 => (intro W hSw; (try dsimp only at hSw); go_simp; try with_reducible rfl)
      try simp only [Act.put, List.setIfInBounds_toArray, List.set_cons_zero, List.set_cons_succ]
      refine' wpAnyJ_takeW (i := 6) (oi := { dst := some 79, op := Op.move (Operand.tmp 7), type := 3, pos := "table.go:61", after := #[], guard := none }) (v := _) rfl (by kernel_rfl) (by kernel_rfl) (by kernel_rfl) (fun _ _ _ h => h) (Or.inl ⟨by rfl, ?hyC7⟩) ?reC7
      case hyC7 => (intro W hSw; (try dsimp only at hSw); go_simp; try with_reducible rfl)
      try simp only [Act.put, List.setIfInBounds_toArray, List.set_cons_zero, List.set_cons_succ]
      refine' wpAnyJ_takeW (i := 7) (oi := { dst := some 80, op := Op.slice 30 (Operand.tmp 78) none (some (Operand.tmp 79)) none, type := 30, pos := "table.go:61", after := #[{ on := 5, ground := Ground.data }, { on := 6, ground := Ground.data }], guard := none }) (v := _) rfl (by kernel_rfl) (by kernel_rfl) (by kernel_rfl) (fun _ _ _ h => h) (Or.inl ⟨by rfl, ?hyC8⟩) ?reC8
      case hyC8 => (intro W hSw; (try dsimp only at hSw); go_simp; try with_reducible rfl)
      try simp only [Act.put, List.setIfInBounds_toArray, List.set_cons_zero, List.set_cons_succ]
      refine' wpAnyJ_takeW (i := 8) (oi := { dst := some 81, op := Op.indexAddr 42 (Operand.tmp 76) (Operand.tmp 77), type := 0, pos := "table.go:61", after := #[{ on := 3, ground := Ground.data }, { on := 4, ground := Ground.data }, { on := 0, ground := Ground.phase }, { on := 1, ground := Ground.phase }, { on := 2, ground := Ground.phase }, { on := 3, ground := Ground.phase }, { on := 4, ground := Ground.phase }, { on := 5, ground := Ground.phase }, { on := 6, ground := Ground.phase }, { on := 7, ground := Ground.phase }], guard := none }) (v := _) rfl (by kernel_rfl) (by kernel_rfl) (by kernel_rfl) (fun _ _ _ h => h) (Or.inl ⟨by rfl, ?hyC9⟩) ?reC9
      case hyC9 => (intro W hSw; (try dsimp only at hSw); go_simp; try with_reducible rfl)
      try simp only [Act.put, List.setIfInBounds_toArray, List.set_cons_zero, List.set_cons_succ]
      refine wpAnyJ_ready (rs := [9]) (by kernel_rfl) (by simp) ?_
      refine AllReadyJ.cons (o := { dst := none, op := Op.store 30 (Operand.tmp 81) (Operand.tmp 80), type := 0, pos := "table.go:61", after := #[{ on := 8, ground := Ground.data }, { on := 7, ground := Ground.data }, { on := 0, ground := Ground.phase }, { on := 1, ground := Ground.phase }, { on := 2, ground := Ground.phase }, { on := 3, ground := Ground.phase }, { on := 4, ground := Ground.phase }, { on := 5, ground := Ground.phase }, { on := 6, ground := Ground.phase }, { on := 7, ground := Ground.phase }], guard := none }) rfl (fun K hK => ?_) AllReadyJ.nil
      go_simp
      refine hK.out _ _ (fun h => absurd h (by decide)) ?_
      clear hK K
      try simp only [Act.put, List.setIfInBounds_toArray, List.set_cons_zero, List.set_cons_succ]
      refine wpAnyJ_done (by kernel_rfl) ?_ _
      refine NoPanic.normal ?_
      go_wp2_with fail
      go_roundw
      case rel => exact ⟨j + 1, _, _, by omega, by go_num, HZ3, HZ1, HZ2, HZ4⟩
      case measure => simp [intOf]; omega
    · obtain rfl : j = cols.length := by omega
      have t5 : ¬ (cols.length : Int) < (cols.length : Int) := by omega
      obtain ⟨⟨hb8, hbb⟩, y2, y3⟩ := BX.out wr HMV.out
      have u0 : wr.cell? ⟨kb, 0, none⟩ = some (.int .i64 0) := by rw [cell_of_row wr kb _ _ 29 (0, 0) hbb]; rfl
      have u1 : wr.cell? ⟨kb, 1, none⟩ = some (.int .i64 0) := by rw [cell_of_row wr kb _ _ 29 (0, 0) hbb]; rfl
      have v0 := frozen_of_row wr kb 0 _ 29 hbb
      have v1 := frozen_of_row wr kb 1 _ 29 hbb
      have hrl : (rem rows row).length = rows.length - 1 := rem_len rows row
      have hcl' : ∀ c ∈ prem cols row cols.length, c.length = (rem rows row).length := fun c hc => by
        obtain ⟨i, hi, rfl⟩ := List.getElem_of_mem hc
        have hi' : i < cols.length := by rw [prem_len] at hi; exact hi
        rw [prem_at _ _ _ _ hi', if_pos hi', rem_len, rem_len, HREST.out.1 _ (List.getElem_mem hi')]
      have hib' : ∀ e ∈ rem rows row, InB e := fun e he => by
        obtain ⟨i, hi, rfl⟩ := List.getElem_of_mem he
        rw [rem_at rows row i hr hi]
        split
        · exact HREST.out.2.2 _ (List.getElem_mem _)
        · exact HREST.out.2.2 _ (List.getElem_mem _)
      have hrr : rows[row] = (r1, r2) := by rw [HR12.out.1, HR12.out.2]
      have hll2 : rows[rows.length - 1]'hll = (l1, l2) := by rw [HL12.out.1, HL12.out.2]
      have hdel := HIX.out.del hr
      have FIN : Hid (∀ (W : World) (n' : Nat) (f' : Int × Int → Option Nat), Tm W labj g (.slice (some ⟨gr, 0, none⟩) last cr) gm n' (.slice ac csj.length cc) csj f' (rem rows row) (prem cols row cols.length) → n' ≤ n + 1 → Ix (rem rows row) f' → Mv w3 W (fun k => (S k ∧ k < w.heap.size) ∨ k = kb) → Tb W S g (n + 1) (rem rows row) (remCols cols row) ∧ Mv w W S) := fun W n' f' ht hn' hix hmv => by
        refine ⟨⟨labj, _, gm, _, csj, f', ⟨ht.1, ht.2.1, ht.2.2.1.mono hn', ht.2.2.2⟩, hix, hcl', ⟨HSG.out.1.1, fun k e => ?_, HSG.out.2.2.1, fun k e => HREST.out.2.1.2.2.2.1 k (by cases ac <;> exact e), fun v hv k e => (HIN.out v hv k e).1⟩, hib', by omega, by unfold remCols; rw [prem_len]; exact hc48⟩, (Mv.of_below C3.out S).trans hmv (fun k hk e => ?_)⟩
        · simp only [Value.ownBlock, Option.some.injEq] at e
          rw [← e]
          exact HSG.out.2.1.1
        · rcases e with e | e
          · exact e.1
          · have := HKK.out.1
            omega
      clear hcl' hib'
      by_cases hrl2 : row = last
      · have t6 : ((row : Int) == (last : Int)) = true := by rw [hrl2]; simp
        have hRL : row = rows.length - 1 := by rw [hrl2, HLAST.out]
        have hdel' : Ix (rem rows row) (fun x => if x = (r1, r2) then none else f x) := by
          have e : (fun e => if row = rows.length - 1 then (if e = rows[row] then none else f e) else if e = rows[rows.length - 1]'(by omega) then some row else if e = rows[row] then none else f e) = (fun x => if x = (r1, r2) then none else f x) := by
            funext x
            rw [if_pos hRL, hrr]
          rw [e] at hdel
          exact hdel
        have HDEL := hide hdel'
        have HRL := hide hRL
        have hx2 := hide hrl2
        clear hdel hdel' hrr hll2 hRL hrl hrl2
        go_wp2_with fail
        (try simp only [Exit.inBlock, Exit.then])
        have hm : Mv wr ((wr.setCell ⟨kb, 0, none⟩ (.int .i64 0)).setCell ⟨kb, 1, none⟩ (.int .i64 0)) (fun q => q = kb) := Mv.set (S := fun q => q = kb) (Mv.set (S := fun q => q = kb) (Mv.refl _ _) rfl _ _) rfl _ _
        have hkb := HKK.out
        have htf := HT.out.frame hm (fun e => by have := HSG.out.1.2; omega) (fun k e e' => by simp only [Value.ownBlock, Option.some.injEq] at e; have := HSG.out.2.1.2; omega) (fun e => by have := HSG.out.2.2.2; omega) (fun k e e' => by have := (HM.out.2.2.2.1.lt k (by cases ac <;> exact e)).2; omega) (fun v hv k e e' => by have := (HIN.out v hv k e).2; omega)
        obtain ⟨z1, z2⟩ := FIN.out _ n _ htf (by omega) HDEL.out ((HMV.out.mono (fun k _ e => .inl e)).trans hm (fun k _ e => .inr e))
        refine bodyPost_ret (v := .tuple #[.agg #[.int .i64 0, .int .i64 0], .bool false, .int .i64 0]) ?_ rfl ?_
        · rw [results_cell2 rfl]
          go_simp
        · rw [HRL.out] at z1
          exact ⟨rfl, z1, z2⟩
      · have t6 : ((row : Int) == (last : Int)) = false := by rw [beq_eq_false_iff_ne]; omega
        have hRL : ¬ row = rows.length - 1 := by have := HLAST.out; omega
        have hdel' : Ix (rem rows row) (fun x => if x = (l1, l2) then some row else if x = (r1, r2) then none else f x) := by
          have e : (fun e => if row = rows.length - 1 then (if e = rows[row] then none else f e) else if e = rows[rows.length - 1]'(by omega) then some row else if e = rows[row] then none else f e) = (fun x => if x = (l1, l2) then some row else if x = (r1, r2) then none else f x) := by
            funext x
            rw [if_neg hRL, hrr, hll2]
          rw [e] at hdel
          exact hdel
        have hinl : InB (l1, l2) := by rw [← hll2]; exact HREST.out.2.2 _ (List.getElem_mem hll)
        have HDEL := hide hdel'
        have HRL := hide hRL
        have hdw := HT.out.later (below_drew wr)
        obtain ⟨w8, hst, hmp8, htn8⟩ := hdw.2.2.1.store (l1, l2) hinl row (by omega) hn
        obtain ⟨ht8, hmv8⟩ := hdw.map_put (W' := w8) hmp8 htn8.grown
        have y1 := hdw.cell.2.1
        have M8 : Hid (Mv w3 w8 (fun k => S k ∧ k < w.heap.size)) := (HMV.out.later (below_drew wr)).trans hmv8 (fun k _ e => by rw [e]; exact HSG.out.2.2)
        have HT8 := hide ht8
        dsimp only at hst
        clear hdel hdel' hrr hll2 hRL hrl hrl2 hdw hmp8 htn8 ht8 hmv8 hb8 hbb
        go_upto_region 16 with fail
        refine wp_region_noPanic ?_
        refine wp_region_late (J := fun i => i != 6) (S := fun W => W.cell? ⟨g, 1, none⟩ = some (.map (some gm)) ∧ W.cell? ⟨k8, 0, none⟩ = some (.int .i64 l1) ∧ W.cell? ⟨k8, 1, none⟩ = some (.int .i64 l2)) (by kernel_rfl) ⟨y1, y2, y3⟩ (fun hHeld => ?_)
        refine' wpAnyJ_takeW (i := 0) (oi := { dst := some 87, op := Op.move (Operand.tmp 0), type := 133, pos := "table.go:66", after := #[], guard := none }) (v := _) rfl (by kernel_rfl) (by kernel_rfl) (by kernel_rfl) (fun _ _ _ h => h) (Or.inl ⟨by rfl, ?hyD1⟩) ?reD1
        case hyD1 => (intro W hSw; (try dsimp only at hSw); go_simp; try with_reducible rfl)
        try simp only [Act.put, List.setIfInBounds_toArray, List.set_cons_zero, List.set_cons_succ]
        refine' wpAnyJ_takeW (i := 1) (oi := { dst := some 88, op := Op.nilCheck (Operand.tmp 87), type := 0, pos := "table.go:66", after := #[{ on := 0, ground := Ground.data }], guard := none }) (v := _) rfl (by kernel_rfl) (by kernel_rfl) (by kernel_rfl) (fun _ _ _ h => h) (Or.inl ⟨by rfl, ?hyD2⟩) ?reD2
        case hyD2 => (intro W hSw; (try dsimp only at hSw); go_simp; try with_reducible rfl)
        try simp only [Act.put, List.setIfInBounds_toArray, List.set_cons_zero, List.set_cons_succ]
        refine' wpAnyJ_takeW (i := 2) (oi := { dst := some 89, op := Op.fieldAddr 197 (Operand.tmp 88) 1, type := 0, pos := "table.go:66", after := #[{ on := 1, ground := Ground.data }], guard := none }) (v := _) rfl (by kernel_rfl) (by kernel_rfl) (by kernel_rfl) (fun _ _ _ h => h) (Or.inl ⟨by rfl, ?hyD3⟩) ?reD3
        case hyD3 => (intro W hSw; (try dsimp only at hSw); go_simp; try with_reducible rfl)
        try simp only [Act.put, List.setIfInBounds_toArray, List.set_cons_zero, List.set_cons_succ]
        refine' wpAnyJ_take (i := 3) (oi := { dst := some 90, op := Op.load 106 (Operand.tmp 89), type := 106, pos := "table.go:66", after := #[{ on := 2, ground := Ground.data }], guard := none }) (v := _) rfl (by kernel_rfl) (by kernel_rfl) (by kernel_rfl) (by kernel_rfl) (fun _ _ _ h => h) (Or.inl ⟨by rfl, ?hyD4⟩) (by assumption) ?reD4
        case hyD4 => (intro W hSw; (try dsimp only at hSw); go_simp; try with_reducible rfl)
        try simp only [Act.put, List.setIfInBounds_toArray, List.set_cons_zero, List.set_cons_succ]
        refine' wpAnyJ_take (i := 4) (oi := { dst := some 91, op := Op.load 29 (Operand.tmp 8), type := 29, pos := "table.go:66", after := #[], guard := none }) (v := _) rfl (by kernel_rfl) (by kernel_rfl) (by kernel_rfl) (by kernel_rfl) (fun _ _ _ h => h) (Or.inl ⟨by rfl, ?hyD5⟩) (by assumption) ?reD5
        case hyD5 => (intro W hSw; (try dsimp only at hSw); go_simp; try with_reducible rfl)
        try simp only [Act.put, List.setIfInBounds_toArray, List.set_cons_zero, List.set_cons_succ]
        refine' wpAnyJ_takeW (i := 5) (oi := { dst := some 92, op := Op.move (Operand.tmp 1), type := 3, pos := "table.go:66", after := #[], guard := none }) (v := _) rfl (by kernel_rfl) (by kernel_rfl) (by kernel_rfl) (fun _ _ _ h => h) (Or.inl ⟨by rfl, ?hyD6⟩) ?reD6
        case hyD6 => (intro W hSw; (try dsimp only at hSw); go_simp; try with_reducible rfl)
        try simp only [Act.put, List.setIfInBounds_toArray, List.set_cons_zero, List.set_cons_succ]
        refine wpAnyJ_ready (rs := [6]) (by kernel_rfl) (by simp) ?_
        refine AllReadyJ.cons (o := { dst := none, op := Op.mapUpdate 106 (Operand.tmp 90) (Operand.tmp 91) (Operand.tmp 92), type := 0, pos := "table.go:66", after := #[{ on := 3, ground := Ground.data }, { on := 4, ground := Ground.data }, { on := 5, ground := Ground.data }, { on := 0, ground := Ground.phase }, { on := 1, ground := Ground.phase }, { on := 2, ground := Ground.phase }, { on := 3, ground := Ground.phase }, { on := 4, ground := Ground.phase }, { on := 5, ground := Ground.phase }], guard := none }) rfl (fun K hK => ?_) AllReadyJ.nil
        go_simp
        refine hK.out _ _ (fun h => absurd h (by decide)) ?_
        clear hK K
        try simp only [Act.put, List.setIfInBounds_toArray, List.set_cons_zero, List.set_cons_succ]
        refine wpAnyJ_done (by kernel_rfl) ?_ _
        refine NoPanic.normal ?_
        obtain ⟨⟨hb8, hbb⟩, x2, x3⟩ := BX.out w8 M8.out
        have u0' : w8.cell? ⟨kb, 0, none⟩ = some (.int .i64 0) := by rw [cell_of_row w8 kb _ _ 29 (0, 0) hbb]; rfl
        have u1' : w8.cell? ⟨kb, 1, none⟩ = some (.int .i64 0) := by rw [cell_of_row w8 kb _ _ 29 (0, 0) hbb]; rfl
        have v0' := frozen_of_row w8 kb 0 _ 29 hbb
        have v1' := frozen_of_row w8 kb 1 _ 29 hbb
        clear hst
        go_wp2_with fail
        (try simp only [Exit.inBlock, Exit.then])
        have hm : Mv w8 ((w8.setCell ⟨kb, 0, none⟩ (.int .i64 l1)).setCell ⟨kb, 1, none⟩ (.int .i64 l2)) (fun q => q = kb) := Mv.set (S := fun q => q = kb) (Mv.set (S := fun q => q = kb) (Mv.refl _ _) rfl _ _) rfl _ _
        have hkb := HKK.out
        have htf := HT8.out.frame hm (fun e => by have := HSG.out.1.2; omega) (fun k e e' => by simp only [Value.ownBlock, Option.some.injEq] at e; have := HSG.out.2.1.2; omega) (fun e => by have := HSG.out.2.2.2; omega) (fun k e e' => by have := (HM.out.2.2.2.1.lt k (by cases ac <;> exact e)).2; omega) (fun v hv k e e' => by have := (HIN.out v hv k e).2; omega)
        obtain ⟨z1, z2⟩ := FIN.out _ (n + 1) _ htf (by omega) HDEL.out ((M8.out.mono (fun k _ e => .inl e)).trans hm (fun k _ e => .inr e))
        refine bodyPost_ret (v := .tuple #[.agg #[.int .i64 l1, .int .i64 l2], .bool true, .int .i64 0]) ?_ rfl ⟨?_, z1, z2⟩
        · rw [results_cell2 rfl]
          go_simp
        · rw [HL12.out.1, HL12.out.2]
end
end Go.Proofs.YtafmiolehlagkaaGreat

/-
  pick, Get, and the document's example.
-/
namespace Go.Proofs.YtafmiolehlagkaaGreat
open Go.RowKit
set_option maxRecDepth 100000
def pk (c : Int) (n : Nat) : Nat := ((if c < 0 then -(c + 1) else c).tmod n).toNat
theorem pk_of {c : Int} {n : Nat} (hn : 0 < n) : pk c n < n ∧ (if c < 0 then -(c + 1) else c).tmod n = (pk c n : Int) := by
  have key : ∀ x : Int, 0 ≤ x → (x.tmod n).toNat < n ∧ x.tmod n = ((x.tmod n).toNat : Int) := fun x hx => by
    have e1 := Int.tmod_eq_emod_of_nonneg (a := x) (b := n) hx
    have e2 := Int.emod_nonneg x (show (n : Int) ≠ 0 by omega)
    have e3 := Int.emod_lt_of_pos x (show (0 : Int) < n by omega)
    exact ⟨by omega, by omega⟩
  unfold pk
  split
  · exact key _ (by omega)
  · exact key _ (by omega)
theorem pk_lt (c : Int) {n : Nat} (hn : 0 < n) : pk c n < n := (pk_of hn).1
set_option maxHeartbeats 1000000 in
theorem pick_any (c : Int) (n : Nat) (w : World) (h0 : -9223372036854775808 ≤ c) (h1 : c ≤ 9223372036854775807) (hn : 0 < n) (hm : n ≤ 9223372036854775807) :
    Calls Tryz.prog 16 #[.int .i64 c, .int .i64 n] w fun e w' => e = .returned (.int .i64 (pk c n)) ∧ w' = w := by
  have hz : ((n : Int) == 0) = false := by rw [beq_eq_false_iff_ne]; omega
  obtain ⟨_, e⟩ := pk_of (c := c) hn
  by_cases hc : c < 0
  · rw [if_pos hc] at e
    have E := hide e
    clear e
    go_enter Tryz.func16, Tryz.ntmps16
    go_wp2
    go_ret
    exact ⟨ret_int (by rw [← E.out, Int.neg_tmod]), rfl⟩
  · rw [if_neg hc] at e
    have E := hide e
    clear e
    go_enter Tryz.func16, Tryz.ntmps16
    go_wp2
    go_ret
    exact ⟨ret_int (by rw [← E.out, Int.tmod_eq_emod_of_nonneg (by omega)]), rfl⟩

section
variable {w : World} {S : Nat → Prop} {g n : Nat} {rows : List (Int × Int)} {cols : List (List Int)}
theorem has_ok (h : Tb w S g n rows cols) (row col : Nat) (hr : row < rows.length) (hc : col < cols.length) : Calls Tryz.prog 156 #[.pointer (some ⟨g, 0, none⟩), .int .i64 (row : Int), .int .i64 (col : Int)] w fun e w' => e = .returned (.int .i64 0) ∧ w' = w := by
  have J1 := hide (hasrow_any h (row : Int))
  rw [decide_eq_true ⟨by omega, by omega⟩] at J1
  have J2 := hide (hascol_any h (col : Int))
  rw [decide_eq_true ⟨by omega, by omega⟩] at J2
  go_enter Tryz.func156, Tryz.ntmps156
  go_wp2_with fail
  refine J1.out.mono ?_
  rintro e w1 ⟨rfl, rfl⟩
  go_wp2_with fail
  refine J2.out.mono ?_
  rintro e w2 ⟨rfl, rfl⟩
  go_wp2_with fail
  go_ret
  exact ⟨rfl, rfl⟩
set_option maxHeartbeats 1000000 in
theorem get_any (h : Tb w S g n rows cols) (row col : Nat) (hr : row < rows.length) (hc : col < cols.length) : Calls Tryz.prog 90 #[.pointer (some ⟨g, 0, none⟩), .int .i64 (row : Int), .int .i64 (col : Int)] w fun e w' => e = .returned (.tuple #[.int .i64 (cols[col].getD row 0), .int .i64 0]) ∧ w' = w := by
  have J := hide (has_ok h row col hr hc)
  obtain ⟨lab, vr, gm, vc, cs, f, hm, hix, hcl, -⟩ := h
  obtain ⟨-, -, c2⟩ := hm.cell
  have hcs := hm.2.2.2.2.1
  obtain ⟨gc, cc, rfl, -, -⟩ := own_form hm.2.2.2.1 (by omega)
  have e1 := own_slices hm.2.2.2.1 col (by omega)
  have hrow := hm.2.2.2.2.2.1 col (by omega) hc
  have hlen : cols[col].length = rows.length := hcl _ (List.getElem_mem hc)
  obtain ⟨gj, cj, hv, -, -⟩ := own_form hrow (by omega)
  rw [hv] at e1 hrow
  have e2 := own_num hrow row (by omega)
  have hg : cols[col].getD row 0 = cols[col][row]'(by omega) := by rw [List.getD_eq_getElem?_getD, List.getElem?_eq_getElem (by omega)]; rfl
  rw [hg]
  rw [hlen] at e1
  generalize cols[col][row]'(by omega) = x at *
  have t1 : (col : Int) < (cs.length : Int) := by omega
  have t2 : (row : Int) < (rows.length : Int) := by omega
  clear hm hix hcl hrow hv hg hlen
  generalize cs.length = nc at *
  clear hcs
  go_enter Tryz.func90, Tryz.ntmps90
  go_wp2_with fail
  refine J.out.mono ?_
  rintro e w1 ⟨rfl, rfl⟩
  go_wp2_with fail
  go_ret2
  exact ⟨rfl, rfl⟩
end
theorem iz_two (w : World) (x y : Int) {W : World} (hb : Below (w.alloc (.cells #[.int .i64 x, .int .i64 y] 2)).heap.size (w.alloc (.cells #[.int .i64 x, .int .i64 y] 2)) W) : Iz W (.slice (some ⟨w.heap.size, 0, none⟩) 2 2) [x, y] := by
  have hr : W.heap[w.heap.size]? = some (.cells #[.int .i64 x, .int .i64 y] 2 (0, 0)) := (hb.block _ (by simp)).trans (heap_alloc_new w _)
  refine ⟨_, 2, rfl, Nat.le_refl _, by unfold maxLen; omega, fun j hj => ⟨w.heap.size, 0, rfl, ?_⟩⟩
  rw [cell_of_row W w.heap.size _ _ 2 (0, 0) hr]
  match j, hj with
  | 0, _ => rfl
  | 1, _ => rfl
theorem Tb.tight {w : World} {S : Nat → Prop} {g n : Nat} {rows : List (Int × Int)} {cols : List (List Int)} (h : Tb w S g n rows cols) : Tb w (fun k => S k ∧ k < w.heap.size) g n rows cols := by
  obtain ⟨lab, vr, gm, vc, cs, f, h1, h2, h3, ⟨s1, s2, s3, s4, s5⟩, h5⟩ := h
  refine ⟨lab, vr, gm, vc, cs, f, h1, h2, h3, ⟨⟨s1, h1.lt⟩, fun k e => ⟨s2 k e, (h1.2.1.lt k e).2⟩, ⟨s3, h1.2.2.1.lt⟩, fun k e => ⟨s4 k e, (h1.2.2.2.1.lt k e).2⟩, fun v hv k e => ⟨s5 v hv k e, ?_⟩⟩, h5⟩
  obtain ⟨i, hi, rfl⟩ := List.getElem_of_mem hv
  exact ((h1.2.2.2.2.2.1 i hi (by have := h1.2.2.2.2.1; omega)).lt k e).2
/-- A table beside other things: it lies above B, and nothing of N is its own. -/
def Tf (B : Nat) (N : Nat → Prop) (W : World) (g n : Nat) (rows : List (Int × Int)) (cols : List (List Int)) : Prop :=
  ∃ S, Tb W S g n rows cols ∧ (∀ k, S k → B ≤ k ∧ k < W.heap.size ∧ ¬ N k) ∧ (∀ k, N k → k < W.heap.size) ∧ B ≤ W.heap.size
def KeptN (N : Nat → Prop) (w w' : World) : Prop := ∀ k, N k → w'.heap[k]? = w.heap[k]?
section
variable {B : Nat} {N N' : Nat → Prop} {W W' : World} {g n n' : Nat} {rows rows' : List (Int × Int)} {cols cols' : List (List Int)}
theorem Tf.tb (h : Tf B N W g n rows cols) : ∃ S, Tb W S g n rows cols := by
  obtain ⟨S, h, -⟩ := h
  exact ⟨S, h⟩
theorem Tf.fence (h : Tf B N W g n rows cols) (hb : Below W.heap.size W W') (hN : ∀ k, N' k → (N k ∨ W.heap.size ≤ k) ∧ k < W'.heap.size) : Tf B N' W' g n rows cols := by
  obtain ⟨S, h1, h2, h3, h4⟩ := h
  have := hb.size
  refine ⟨S, h1.later hb, fun k e => ⟨(h2 k e).1, by have := (h2 k e).2.1; omega, fun e' => ?_⟩, fun k e => (hN k e).2, by omega⟩
  rcases (hN k e').1 with h | h
  · exact (h2 k e).2.2 h
  · have := (h2 k e).2.1; omega
theorem Tf.later (h : Tf B N W g n rows cols) (hb : Below W.heap.size W W') : Tf B N W' g n rows cols :=
  h.fence hb (fun k e => by obtain ⟨S, h1, h2, h3, h4⟩ := h; exact ⟨.inl e, Nat.lt_of_lt_of_le (h3 k e) hb.size⟩)
theorem Tf.write (h : Tf B N W g n rows cols) {k0 : Nat} (hk : N k0) (hg : W.grownBy W' (some k0)) : Tf B N W' g n rows cols := by
  obtain ⟨S, h1, h2, h3, h4⟩ := h
  have hm : Mv W W' (fun k => k = k0) := (Mv.refl _ _).grown hg (fun k _ e => (Option.some.inj e).symm)
  have := hm.size
  exact ⟨S, h1.frame hm (fun k e e' => (h2 k e).2.2 (e' ▸ hk)), fun k e => ⟨(h2 k e).1, by have := (h2 k e).2.1; omega, (h2 k e).2.2⟩, fun k e => Nat.lt_of_lt_of_le (h3 k e) this, by omega⟩
theorem Tf.turned {S : Nat → Prop} (h2 : ∀ k, S k → B ≤ k ∧ k < W.heap.size ∧ ¬ N k) (h3 : ∀ k, N k → k < W.heap.size) (h4 : B ≤ W.heap.size) (ht : Tb W' (Nw W S) g n rows cols) (hm : Mv W W' S) : Tf B N W' g n rows cols ∧ KeptN N W W' ∧ Below B W W' := by
  have hsz := hm.size
  refine ⟨⟨_, ht.tight, fun k e => ?_, fun k e => Nat.lt_of_lt_of_le (h3 k e) hsz, by omega⟩, fun k e => hm.2.2.2.2 k (h3 k e) (fun e' => (h2 k e').2.2 e), hm.below h4 (fun k e => (h2 k e).1)⟩
  rcases e.1 with h | h
  · exact ⟨(h2 k h).1, e.2, (h2 k h).2.2⟩
  · exact ⟨by omega, e.2, fun e' => by have := h3 k e'; omega⟩
theorem tf_add (h : Tf B N W g n rows cols) (a b : Int) (v : Value) (vals : List Int) (hv : Iz W v vals) (hvN : ∀ k, v.ownBlock = some k → N k) (hl : vals.length = cols.length) (hb : InB (a, b)) (he : (a, b) ∉ rows) (hr : rows.length < 200) (hn : n ≤ 1000000) :
    Calls Tryz.prog 139 #[.pointer (some ⟨g, 0, none⟩), .agg #[.int .i64 a, .int .i64 b], v] W fun e w' => e = .returned (.tuple #[.int .i64 (rows.length : Int), .int .i64 0]) ∧ Tf B N w' g (n + 1) (rows ++ [(a, b)]) (addRow cols vals) ∧ KeptN N W w' ∧ Below B W w' := by
  obtain ⟨S, h1, h2, h3, h4⟩ := h
  refine (add_any h1 a b v vals hv (fun k e => ⟨fun e' => (h2 k e').2.2 (hvN k e), h3 k (hvN k e)⟩) hl hb he hr hn).mono ?_
  rintro e w' ⟨rfl, t1, t2⟩
  exact ⟨rfl, Tf.turned h2 h3 h4 t1 t2⟩
theorem tf_remove (h : Tf B N W g n rows cols) (row : Nat) (hr : row < rows.length) (hn : n ≤ 1000000) :
    Calls Tryz.prog 151 #[.pointer (some ⟨g, 0, none⟩), .int .i64 (row : Int)] W fun e w' => e = .returned (.tuple #[if row = rows.length - 1 then .agg #[.int .i64 0, .int .i64 0] else .agg #[.int .i64 (rows[rows.length - 1]'(by omega)).1, .int .i64 (rows[rows.length - 1]'(by omega)).2], .bool (decide (row ≠ rows.length - 1)), .int .i64 0]) ∧ Tf B N w' g (n + 1) (rem rows row) (remCols cols row) ∧ KeptN N W w' ∧ Below B W w' := by
  obtain ⟨S, h1, h2, h3, h4⟩ := h
  refine (remove_any h1 row hr hn).mono ?_
  rintro e w' ⟨rfl, t1, t2⟩
  exact ⟨rfl, Tf.turned h2 h3 h4 (t1.mono (fun k e => .inl e)) t2⟩
end
theorem tf_new (k : Nat) (w : World) (h : k ≤ 48) : Calls Tryz.prog 138 #[.int .i64 (k : Int)] w fun e w' => ∃ g, e = .returned (.tuple #[.pointer (some ⟨g, 0, none⟩), .int .i64 0]) ∧ Tf w.heap.size (fun _ => False) w' g 0 [] (List.replicate k []) ∧ Below w.heap.size w w' := (new_any k w h).mono (fun _e _w' ⟨g, h1, h2, h3⟩ => ⟨g, h1, ⟨_, h2.tight, fun _k e => ⟨e.1, e.2, fun e => e⟩, fun _k e => e.elim, h3.size⟩, h3⟩)
end Go.Proofs.YtafmiolehlagkaaGreat

/-
  Set.
-/
namespace Go.Proofs.YtafmiolehlagkaaGreat
open Go.RowKit
set_option maxRecDepth 100000
section
variable {w W1 W' : World} {lab : Nat → Nat} {gt gm n : Nat} {vr vc v' : Value} {cs : List Value} {f f' : Int × Int → Option Nat} {rows rows' : List (Int × Int)} {cols : List (List Int)}
theorem Tm.num_put {gj m c j row : Nat} {x : Int} (h : Tm w lab gt vr gm n vc cs f rows cols) (hj : j < cs.length) (hj2 : j < cols.length) (hv : cs[j] = .slice (some ⟨gj, 0, none⟩) m c) :
    Tm (w.setCell ⟨gj, row, none⟩ (.int .i64 x)) lab gt vr gm n vc cs f rows (cols.set j (cols[j].set row x)) ∧ Mv w (w.setCell ⟨gj, row, none⟩ (.int .i64 x)) (fun k => k = gj) := by
  have hm : Mv w (w.setCell ⟨gj, row, none⟩ (.int .i64 x)) (fun k => k = gj) := Mv.set (S := fun k => k = gj) (Mv.refl _ _) rfl _ _
  obtain ⟨b1, b2, b3, b4, b5, b6, b7, b8, b9, b10, b11⟩ := h
  have lj : lab gj = 4 + j := b11 j hj gj (by rw [hv]; rfl)
  refine ⟨⟨hm.at b1 (fun e => ?_), hm.own b2 (fun k e e' => ?_), b3.same (hm.2.2.2.2 gm b3.lt (fun e => ?_)), hm.own b4 (fun k e e' => ?_), by simp [b5], fun i hi hi2 => ?_, b7, b8, b9, b10, b11⟩, hm⟩
  · subst e; omega
  · subst e'; have := b8 _ e; omega
  · subst e; omega
  · subst e'; have := b10 _ e; omega
  · have hi2' : i < cols.length := by simpa using hi2
    by_cases e : j = i
    · subst e
      simp only [List.getElem_set_self, List.length_set]
      have h6 := b6 j hj hj2
      rw [hv] at h6 ⊢
      obtain ⟨_, _, hh⟩ := own_len h6
      simp only [Value.slice.injEq] at hh
      obtain ⟨-, rfl, -⟩ := hh
      have := (h6.stored row (.int .i64 x)).1
      rw [zc_set] at this
      exact this
    · simp only [List.getElem_set_ne e]
      refine hm.own (b6 i hi hi2') (fun k e1 e2 => ?_)
      have := b11 i hi k e1
      subst e2; omega
end
section
variable {w : World} {S : Nat → Prop} {g n : Nat} {rows : List (Int × Int)} {cols : List (List Int)}
set_option maxHeartbeats 1000000 in
theorem set_any (h : Tb w S g n rows cols) (row col : Nat) (x : Int) (hr : row < rows.length) (hc : col < cols.length) : Calls Tryz.prog 91 #[.pointer (some ⟨g, 0, none⟩), .int .i64 (row : Int), .int .i64 (col : Int), .int .i64 x] w fun e w' => e = .returned (.int .i64 0) ∧ Tb w' S g n rows (cols.set col (cols[col].set row x)) ∧ Mv w w' S := by
  have J := hide (has_ok h row col hr hc)
  obtain ⟨lab, vr, gm, vc, cs, f, hm, hix, hcl, ⟨s1, s2, s3, s4, s5⟩, hib, hr2, hc48⟩ := h
  obtain ⟨-, -, c2⟩ := hm.cell
  have hcs := hm.2.2.2.2.1
  obtain ⟨gc, cc, rfl, -, -⟩ := own_form hm.2.2.2.1 (by omega)
  have e1 := own_slices hm.2.2.2.1 col (by omega)
  have hrow := hm.2.2.2.2.2.1 col (by omega) hc
  have hlen : cols[col].length = rows.length := hcl _ (List.getElem_mem hc)
  obtain ⟨gj, cj, hv, -, -⟩ := own_form hrow (by omega)
  have hput := hm.num_put (row := row) (x := x) (by omega) hc hv
  have hsj : S gj := s5 _ (List.getElem_mem (by omega : col < cs.length)) gj (by rw [hv]; rfl)
  have hfin : Hid (Tb (w.setCell ⟨gj, row, none⟩ (.int .i64 x)) S g n rows (cols.set col (cols[col].set row x)) ∧ Mv w (w.setCell ⟨gj, row, none⟩ (.int .i64 x)) S) := by
    refine ⟨⟨lab, vr, gm, _, cs, f, hput.1, hix, fun c hcm => ?_, ⟨s1, s2, s3, s4, s5⟩, hib, hr2, by simpa using hc48⟩, hput.2.mono (fun k _ e => e ▸ hsj)⟩
    rcases List.mem_or_eq_of_mem_set hcm with h1 | h1
    · exact hcl c h1
    · rw [h1, List.length_set]; exact hlen
  rw [hv] at e1 hrow
  have e2 := own_num hrow row (by omega)
  have ef := hrow.frozenAt row
  rw [hlen] at e1
  generalize cols[col][row]'(by omega) = y at *
  have t1 : (col : Int) < (cs.length : Int) := by omega
  have t2 : (row : Int) < (rows.length : Int) := by omega
  clear hm hix hcl hrow hv hlen hput s1 s2 s3 s4 s5 hib hsj
  generalize cs.length = nc at *
  clear hcs
  go_enter Tryz.func91, Tryz.ntmps91
  go_wp2_with fail
  refine J.out.mono ?_
  rintro e w1 ⟨rfl, rfl⟩
  go_wp2_with fail
  go_ret
  exact ⟨rfl, hfin.out⟩
end
section
variable {B : Nat} {N N' : Nat → Prop} {W W' : World} {g n n' : Nat} {rows rows' : List (Int × Int)} {cols cols' : List (List Int)}
theorem tf_set (h : Tf B N W g n rows cols) (row col : Nat) (x : Int) (hr : row < rows.length) (hc : col < cols.length) :
    Calls Tryz.prog 91 #[.pointer (some ⟨g, 0, none⟩), .int .i64 (row : Int), .int .i64 (col : Int), .int .i64 x] W fun e w' => e = .returned (.int .i64 0) ∧ Tf B N w' g n rows (cols.set col (cols[col].set row x)) ∧ KeptN N W w' ∧ Below B W w' := by
  obtain ⟨S, h1, h2, h3, h4⟩ := h
  refine (set_any h1 row col x hr hc).mono ?_
  rintro e w' ⟨rfl, t1, t2⟩
  exact ⟨rfl, Tf.turned h2 h3 h4 (t1.mono (fun k e => .inl e)) t2⟩
end
end Go.Proofs.YtafmiolehlagkaaGreat

/-
  World: a map from sets to tables; a set's bits; kinds in memory.
-/
namespace Go.Proofs.YtafmiolehlagkaaGreat
open Go.RowKit
set_option maxRecDepth 100000
/-! ### A map from sets to tables -/
theorem keyed3 : Maps.Keyed Tryz.prog 3 := Maps.int_keyed Tryz.underlying3
def ptrElem (v : Value) : Option (DataW Nat × List MemPlace) :=
  match v with
  | .pointer none => some (.nil, [])
  | .pointer (some ⟨g, 0, none⟩) => some (.held g, [])
  | _ => none
theorem ptrElem_inv {v : Value} {g : Nat} {ps : List MemPlace} (h : ptrElem v = some (.held g, ps)) : v = .pointer (some ⟨g, 0, none⟩) := by
  unfold ptrElem at h
  split at h
  · simp at h
  · rename_i g'
    simp only [Option.some.injEq, Prod.mk.injEq, DataW.held.injEq] at h
    rw [h.1]
  · cases h
theorem key3 (s : Nat) (h : s < 9007199254740992) : keyOf Tryz.prog 3 (.int .i64 (s : Int)) = some (.int .i64 (s : Int)) := by
  have hw : (Lit.int .i64 (s : Int)).wf = true := by simp [Lit.wf, IntKind.min, IntKind.max, IntKind.signed, IntKind.bits]; omega
  simp [keyOf, mapKey, Tryz.underlying3, hw]
/-- A map from sets to tables: where each lies. -/
def Mq (w : World) (gm n : Nat) (q : Nat → Option Nat) : Prop :=
  ∃ D : DataW Nat, w.ownsMap Tryz.prog 3 ptrElem gm n D ∧ (∀ s : Nat, s < 9007199254740992 → Maps.has D (.int .i64 (s : Int)) = (q s).isSome ∧ ∀ g, q s = some g → D.atKey (.int .i64 (s : Int)) .nil = .held g) ∧ ∀ kl, Maps.has D kl = true → ∃ s : Nat, s < 9007199254740992 ∧ kl = .int .i64 (s : Int)
section
variable {w w' : World} {gm n : Nat} {q : Nat → Option Nat}
theorem Mq.made (w : World) : Mq (w.alloc (.map #[] 0)) w.heap.size 0 (fun _ => none) :=
  ⟨.map [], World.ownsMap_made w _ _ _, fun _ _ => ⟨rfl, fun _ h => by cases h⟩, fun kl h => by
    have e : Maps.has (H := Nat) (.map []) kl = false := rfl
    rw [e] at h
    cases h⟩
theorem Mq.lt (h : Mq w gm n q) : gm < w.heap.size := by
  obtain ⟨D, h1, -⟩ := h
  exact h1.lt
theorem Mq.same (h : Mq w gm n q) (hs : w'.heap[gm]? = w.heap[gm]?) : Mq w' gm n q := by
  obtain ⟨D, ⟨es, ck, h1, h2⟩, h3⟩ := h
  exact ⟨D, ⟨es, ck, hs.trans h1, h2⟩, h3⟩
theorem zero133 (w : World) : (zeroValue 133).run Tryz.prog w = .ok (.pointer none) w := by kernel_rfl
theorem Mq.look (h : Mq w gm n q) (s : Nat) (hs : s < 9007199254740992) : ∃ v, (Instr.lookup 107 (.map (some gm)) (.int .i64 (s : Int)) true).run Tryz.prog w = .ok (.tuple #[v, .bool (q s).isSome]) w ∧ ∀ g, q s = some g → v = .pointer (some ⟨g, 0, none⟩) := by
  obtain ⟨D, h1, h2, -⟩ := h
  obtain ⟨v, ps, hr, hv⟩ := h1.look_ok keyed3 Tryz.underlying107 (zero133 w) (zd := .nil) (zp := []) rfl (key3 s hs)
  obtain ⟨h3, h4⟩ := h2 s hs
  rw [h3] at hr
  refine ⟨v, hr, fun g hg => ?_⟩
  rw [h4 g hg] at hv
  exact ptrElem_inv hv
theorem Mq.store (h : Mq w gm n q) (s g : Nat) (hs : s < 9007199254740992) (hn : n ≤ 1000000) : ∃ w', (Instr.mapUpdate 107 (.map (some gm)) (.int .i64 (s : Int)) (.pointer (some ⟨g, 0, none⟩))).run Tryz.prog w = .ok () w' ∧ Mq w' gm (n + 1) (fun x => if x = s then some g else q x) ∧ w.mapTurned w' gm := by
  obtain ⟨D, h1, h2, hz⟩ := h
  obtain ⟨w', hr, h3, h4⟩ := h1.store keyed3 Tryz.underlying107 (by unfold maxLen; omega) (key3 s hs) (val := .pointer (some ⟨g, 0, none⟩)) (d := .held g) (ps := []) rfl
  refine ⟨w', hr, ⟨_, h3, fun x hx => ?_, fun kl hkl => ?_⟩, h4⟩
  rotate_left
  · by_cases c : kl = .int .i64 (s : Int)
    · exact ⟨s, hs, c⟩
    · rw [Maps.has_put_other c] at hkl
      exact hz kl hkl
  by_cases ex : x = s
  · subst ex
    refine ⟨by rw [Maps.has_put_same h1.isMap (keyed3.key (key3 x hs))]; simp, fun j hj => ?_⟩
    rw [Maps.atKey_put_same h1.isMap (keyed3.key (key3 x hs))]
    simp only [if_true, Option.some.injEq] at hj
    rw [hj]
  · have hne : (Lit.int .i64 (x : Int)) ≠ .int .i64 (s : Int) := fun e' => by
      simp only [Lit.int.injEq, true_and] at e'
      omega
    rw [Maps.has_put_other hne, Maps.atKey_put_other hne]
    simp only [if_neg ex]
    exact h2 x hx
theorem Mq.drop (h : Mq w gm n q) (s : Nat) (hs : s < 9007199254740992) (ty : TypeId) : ∃ w', (Builtin.delete_ #[107, 3] ty #[.map (some gm), .int .i64 (s : Int)]).run Tryz.prog w = .ok (.tuple #[]) w' ∧ Mq w' gm n (fun x => if x = s then none else q x) ∧ w.mapTurned w' gm := by
  obtain ⟨D, h1, h2, hz⟩ := h
  obtain ⟨w', hr, h3, h4⟩ := h1.drop keyed3 Tryz.underlying107 (key3 s hs) ty
  refine ⟨w', hr, ⟨_, h3, fun x hx => ?_, fun kl hkl => ?_⟩, h4⟩
  rotate_left
  · by_cases c : kl = .int .i64 (s : Int)
    · exact ⟨s, hs, c⟩
    · rw [Maps.has_del_other c] at hkl
      exact hz kl hkl
  by_cases ex : x = s
  · subst ex
    refine ⟨by rw [Maps.has_del_same]; simp, fun j hj => by simp at hj⟩
  · have hne : (Lit.int .i64 (x : Int)) ≠ .int .i64 (s : Int) := fun e' => by
      simp only [Lit.int.injEq, true_and] at e'
      omega
    rw [Maps.has_del_other hne, Maps.atKey_del_other hne]
    simp only [if_neg ex]
    exact h2 x hx
end
/-! ### Sets -/
theorem ofInt_i64 (a : Nat) (ha : a < 9223372036854775808) : (BitVec.ofInt 64 (a : Int)).toNat = a := by
  rw [BitVec.ofInt_natCast, BitVec.toNat_ofNat]; exact Nat.mod_eq_of_lt (by omega)
theorem i64_and_nat (a b : Nat) (ha : a < 9223372036854775808) (hb : b < 9223372036854775808) : bits .and .i64 (a : Int) (b : Int) = ((a &&& b : Nat) : Int) := by
  have hx : a &&& b < 2 ^ 63 := Nat.and_lt_two_pow _ (by omega)
  show IntKind.i64.wrap ((BitVec.ofInt 64 (a : Int) &&& BitVec.ofInt 64 (b : Int)).toNat : Int) = _
  rw [BitVec.toNat_and, ofInt_i64 a ha, ofInt_i64 b hb, IntKind.wrap_i64]
  omega
theorem i64_or_nat (a b : Nat) (ha : a < 9223372036854775808) (hb : b < 9223372036854775808) : bits .or .i64 (a : Int) (b : Int) = ((a ||| b : Nat) : Int) := by
  have hx : a ||| b < 2 ^ 63 := Nat.or_lt_two_pow (by omega) (by omega)
  show IntKind.i64.wrap ((BitVec.ofInt 64 (a : Int) ||| BitVec.ofInt 64 (b : Int)).toNat : Int) = _
  rw [BitVec.toNat_or, ofInt_i64 a ha, ofInt_i64 b hb, IntKind.wrap_i64]
  omega
theorem has_any (s k : Nat) (w : World) (hs : s < 8192) (hk : k ≤ 12) : Calls Tryz.prog 133 #[.int .i64 (s : Int), .int .i64 (k : Int)] w fun e w' => e = .returned (.bool (s.testBit k)) ∧ w' = w := by
  have t1 : ¬ (k : Int) < 0 := by omega
  have e1 : (bits BinOp.and IntKind.i64 ((s : Int) / 2 ^ k) 1 != 0) = s.testBit k := by
    have h1 : ((s : Int) / 2 ^ k) = ((s / 2 ^ k : Nat) : Int) := by
      rw [Int.natCast_ediv]
      congr 1
    have hlt : s / 2 ^ k < 9223372036854775808 := Nat.lt_of_le_of_lt (Nat.div_le_self _ _) (by omega)
    have h2 := i64_and_nat (s / 2 ^ k) 1 hlt (by omega)
    rw [h1]
    rw [show ((1 : Nat) : Int) = 1 from rfl] at h2
    rw [h2, Nat.testBit, Nat.shiftRight_eq_div_pow, Nat.and_comm]
    rcases Nat.mod_two_eq_zero_or_one (s / 2 ^ k) with h | h
    · simp [Nat.one_and_eq_mod_two, h]
    · simp [Nat.one_and_eq_mod_two, h]
  go_enter Tryz.func133, Tryz.ntmps133
  go_wp2_with fail
  go_ret
  exact ⟨rfl, rfl⟩
end Go.Proofs.YtafmiolehlagkaaGreat

/-
  World: its kinds, as they are read; what may come.
-/
namespace Go.Proofs.YtafmiolehlagkaaGreat
open Go.RowKit
set_option maxRecDepth 100000
abbrev Kind := ByteArray × List ByteArray
/-- Texts that are read. -/
def Sr (w : World) (v : Value) (l : List ByteArray) : Prop :=
  ∃ ao c, v = .slice ao l.length c ∧ l.length ≤ c ∧ c ≤ maxLen ∧ ∀ j (hj : j < l.length), ∃ g o, ao = some ⟨g, o, none⟩ ∧ w.cell? ⟨g, o + j, none⟩ = some (.string l[j])
/-- Kinds that are read. -/
def Kr (w : World) (v : Value) (ks : List Kind) : Prop :=
  ∃ ao c, v = .slice ao ks.length c ∧ ks.length ≤ c ∧ c ≤ maxLen ∧ ∀ i (hi : i < ks.length), ∃ g o vf, ao = some ⟨g, o, none⟩ ∧ w.cell? ⟨g, o + i * 2, none⟩ = some (.string ks[i].1) ∧ w.cell? ⟨g, o + i * 2 + 1, none⟩ = some vf ∧ Sr w vf ks[i].2
section
variable {w w' : World} {v : Value} {ks : List Kind} {l : List ByteArray}
theorem Sr.on (h : Sr w v l) (hc : ∀ (a : Addr) (x : Value), w.cell? a = some x → w'.cell? a = some x) : Sr w' v l := by
  obtain ⟨ao, c, rfl, h1, h2, h3⟩ := h
  refine ⟨ao, c, rfl, h1, h2, fun j hj => ?_⟩
  obtain ⟨g, o, rfl, h4⟩ := h3 j hj
  exact ⟨g, o, rfl, hc _ _ h4⟩
theorem Kr.later (h : Kr w v ks) (hb : Below w.heap.size w w') : Kr w' v ks := by
  have hc : ∀ (a : Addr) (x : Value), w.cell? a = some x → w'.cell? a = some x := fun a x e => (hb.cell (p := a) (World.block_lt_of_cell? w _ e)).trans e
  obtain ⟨ao, c, rfl, h1, h2, h3⟩ := h
  refine ⟨ao, c, rfl, h1, h2, fun i hi => ?_⟩
  obtain ⟨g, o, vf, rfl, h4, h5, h6⟩ := h3 i hi
  exact ⟨g, o, vf, rfl, hc _ _ h4, hc _ _ h5, h6.on hc⟩
end
/-- A world's block: its kinds lie at vk, its pool at gp, its two maps at gs and gt. -/
def Wc (w : World) (gw : Nat) (vk : Value) (gp gs gt : Nat) : Prop := w.heap[gw]? = some (.cells #[vk, .pointer (some ⟨gp, 0, none⟩), .map (some gs), .map (some gt)] 109 (0, 0))
section
variable {w w' : World} {gw gp gs gt : Nat} {vk : Value} {ks : List Kind}
theorem Wc.cell (h : Wc w gw vk gp gs gt) : w.cell? ⟨gw, 0, none⟩ = some vk ∧ w.cell? ⟨gw, 1, none⟩ = some (.pointer (some ⟨gp, 0, none⟩)) ∧ w.cell? ⟨gw, 2, none⟩ = some (.map (some gs)) ∧ w.cell? ⟨gw, 3, none⟩ = some (.map (some gt)) := by
  refine ⟨?_, ?_, ?_, ?_⟩ <;> rw [cell_of_row w gw _ _ 109 (0, 0) h] <;> rfl
theorem Wc.later (h : Wc w gw vk gp gs gt) (hb : Below w.heap.size w w') : Wc w' gw vk gp gs gt := (hb.block gw (lt_of_block h)).trans h
theorem iskind_any (h : Wc w gw vk gp gs gt) (hk : Kr w vk ks) (x : Int) : Calls Tryz.prog 146 #[.pointer (some ⟨gw, 0, none⟩), .int .i64 x] w fun e w' => e = .returned (.bool (decide (1 ≤ x ∧ x ≤ (ks.length : Int)))) ∧ w' = w := by
  obtain ⟨c0, c1, c2, c3⟩ := h.cell
  obtain ⟨ao, c, rfl, -⟩ := hk
  clear h
  generalize ks.length = n at *
  go_enter Tryz.func146, Tryz.ntmps146
  by_cases h1 : 1 ≤ x
  · have t1 : x ≥ 1 := h1
    by_cases h2 : x ≤ (n : Int)
    · rw [decide_eq_true ⟨h1, h2⟩]
      go_wp2_with fail
      go_ret
      exact ⟨rfl, rfl⟩
    · rw [decide_eq_false (fun e => h2 e.2)]
      go_wp2_with fail
      go_ret
      exact ⟨rfl, rfl⟩
  · rw [decide_eq_false (fun e => h1 e.1)]
    have t1 : ¬ x ≥ 1 := h1
    go_wp2_with fail
    go_ret
    exact ⟨rfl, rfl⟩
theorem fields_any (h : Wc w gw vk gp gs gt) (hk : Kr w vk ks) (k : Nat) (hk1 : 1 ≤ k) (hk2 : k ≤ ks.length) (hks : ks.length ≤ 12) : Calls Tryz.prog 89 #[.pointer (some ⟨gw, 0, none⟩), .int .i64 (k : Int)] w fun e w' => e = .returned (.int .i64 ((ks[k - 1]'(by omega)).2.length : Int)) ∧ w' = w := by
  obtain ⟨c0, c1, c2, c3⟩ := h.cell
  obtain ⟨ao, c, rfl, hc1, hc2, h3⟩ := hk
  obtain ⟨g, o, vf, rfl, e1, e2, e3⟩ := h3 (k - 1) (by omega)
  obtain ⟨af, cf, rfl, -⟩ := e3
  obtain ⟨j, rfl⟩ : ∃ j, k = j + 1 := ⟨k - 1, by omega⟩
  simp only [Nat.add_sub_cancel] at *
  have t1 : IntKind.i64.wrap (((j + 1 : Nat) : Int) - 1) = (j : Int) := by rw [IntKind.wrap_i64]; omega
  obtain ⟨K, hK⟩ : ∃ K : Int, K = ((j + 1 : Nat) : Int) := ⟨_, rfl⟩
  rw [← hK] at t1 ⊢
  have t2 : (j : Int) < (ks.length : Int) := by omega
  clear h h3 hK e1
  generalize (ks[j]'(by omega)).2.length = m at *
  generalize ks.length = n at *
  go_enter Tryz.func89, Tryz.ntmps89
  go_wp2_with fail
  go_ret
  exact ⟨rfl, rfl⟩
/-- What is wrong with a part that is to come to a set. -/
def comeS (ks : List Kind) (s : Nat) (k : Int) (m : Nat) : Int :=
  if 1 ≤ k ∧ k ≤ (ks.length : Int) then (if s.testBit k.toNat then 61 else if m = (ks.getD (k.toNat - 1) (ByteArray.empty, [])).2.length then 0 else 63) else 60
set_option maxHeartbeats 2000000 in
theorem maycome_any (h : Wc w gw vk gp gs gt) (hk : Kr w vk ks) (hks : ks.length ≤ 12) (s : Nat) (hs : s < 8192) (x : Int) (av : Option Addr) (nv cv : Nat) : Calls Tryz.prog 74 #[.pointer (some ⟨gw, 0, none⟩), .int .i64 (s : Int), .agg #[.int .i64 x, .slice av nv cv]] w fun e w' => e = .returned (.int .i64 (comeS ks s x nv)) ∧ Below w.heap.size w w' := by
  have J1 : Hid (∀ W, Below w.heap.size w W → Calls Tryz.prog 146 #[.pointer (some ⟨gw, 0, none⟩), .int .i64 x] W fun e w' => e = .returned (.bool (decide (1 ≤ x ∧ x ≤ (ks.length : Int)))) ∧ w' = W) := fun W hW => iskind_any (h.later hW) (hk.later hW) x
  have J3 : Hid (∀ (k : Nat) (hk1 : 1 ≤ k) (hk2 : k ≤ ks.length) W, Below w.heap.size w W → Calls Tryz.prog 89 #[.pointer (some ⟨gw, 0, none⟩), .int .i64 (k : Int)] W fun e w' => e = .returned (.int .i64 ((ks[k - 1]'(by omega)).2.length : Int)) ∧ w' = W) := fun k hk1 hk2 W hW => fields_any (h.later hW) (hk.later hW) k hk1 hk2 hks
  clear h hk
  go_enter Tryz.func74, Tryz.ntmps74
  go_upto_region 1 with fail
  obtain ⟨w1, hw1⟩ : ∃ X, X = w.alloc (.cells #[.int .i64 x, .slice av nv cv] 32) := ⟨_, rfl⟩
  have B1 : Below w.heap.size w w1 := hw1 ▸ below_alloc w _
  have hx1 : w1.heap[w.heap.size]? = some (.cells #[.int .i64 x, .slice av nv cv] 32 (0, 0)) := hw1 ▸ heap_alloc_new w _
  rw [← hw1]
  obtain ⟨kx, hkx⟩ : ∃ k, k = w.heap.size := ⟨_, rfl⟩
  rw [← hkx] at hx1 ⊢
  have p0 : w1.cell? ⟨kx, 0, none⟩ = some (.int .i64 x) := by rw [cell_of_row w1 kx _ _ 32 (0, 0) hx1]; rfl
  have p1 : w1.cell? ⟨kx, 1, none⟩ = some (.slice av nv cv) := by rw [cell_of_row w1 kx _ _ 32 (0, 0) hx1]; rfl
  have HB1 := hide B1
  have J1a := hide (J1.out w1 B1)
  clear hw1 hx1 hkx B1 J1
  by_cases h1 : 1 ≤ x ∧ x ≤ (ks.length : Int)
  · obtain ⟨k, rfl⟩ : ∃ k : Nat, x = (k : Int) := ⟨x.toNat, by omega⟩
    have hk1 : 1 ≤ k := by omega
    have hk2 : k ≤ ks.length := by omega
    rw [decide_eq_true h1] at J1a
    have H1 := hide h1
    clear h1
    have ec : ∀ (m : Nat), (ks[k - 1]'(by omega)).2.length = m → comeS ks s (k : Int) nv = if s.testBit k then 61 else if nv = m then 0 else 63 := fun m hm => by
      unfold comeS
      rw [if_pos H1.out]
      simp only [Int.toNat_natCast]
      have e2 : (ks.getD (k - 1) (ByteArray.empty, [])).2.length = m := by
        rw [List.getD_eq_getElem?_getD, List.getElem?_eq_getElem (by omega)]
        exact hm
      simp only [e2]
    have EC := hide (ec _ rfl)
    clear ec H1
    have J2 := hide (has_any s k w1 hs (by omega))
    have J3a := hide (J3.out k hk1 hk2 w1.drew (below_on HB1.out (below_drew w1)))
    generalize (ks[k - 1]'(by omega)).2.length = m at *
    clear J3
    cases hb : s.testBit k with
    | true =>
      rw [hb] at J2
      simp only [hb, if_true] at EC
      go_wp2_with fail
      refine J1a.out.mono ?_
      rintro e w2 ⟨rfl, rfl⟩
      go_wp2_with fail
      refine J2.out.mono ?_
      rintro e w2 ⟨rfl, rfl⟩
      go_wp2_with fail
      go_ret
      exact ⟨ret_int EC.out.symm, HB1.out⟩
    | false =>
      rw [hb] at J2
      simp only [hb, Bool.false_eq_true, if_false] at EC
      go_wp2_with fail
      refine J1a.out.mono ?_
      rintro e w2 ⟨rfl, rfl⟩
      go_wp2_with fail
      refine J2.out.mono ?_
      rintro e w2 ⟨rfl, rfl⟩
      obtain ⟨w1, rfl⟩ : ∃ X, X = w2 := ⟨_, rfl⟩
      by_cases hm : nv = m
      · subst hm
        simp only [if_true] at EC
        go_upto_region 5 with fail
        go_region_held3 (fun W => W.cell? ⟨kx, 0, none⟩ = some (.int .i64 (k : Int)) ∧ W.cell? ⟨kx, 1, none⟩ = some (.slice av nv cv)) (go_keep) (first | (go_at_call 89; refine J3a.out.mono ?_; rintro e w3 ⟨rfl, rfl⟩))
        go_wp2_with fail
        go_ret
        exact ⟨ret_int EC.out.symm, below_on HB1.out (below_drew _)⟩
      · simp only [if_neg hm] at EC
        have t1 : ((nv : Int) == (m : Int)) = false := by rw [beq_eq_false_iff_ne]; omega
        have t2 : ¬ (nv : Int) = (m : Int) := by omega
        go_upto_region 5 with fail
        go_region_held3 (fun W => W.cell? ⟨kx, 0, none⟩ = some (.int .i64 (k : Int)) ∧ W.cell? ⟨kx, 1, none⟩ = some (.slice av nv cv)) (go_keep) (first | (go_at_call 89; refine J3a.out.mono ?_; rintro e w3 ⟨rfl, rfl⟩))
        go_wp2_with fail
        go_ret
        exact ⟨ret_int EC.out.symm, below_on HB1.out (below_drew _)⟩
  · rw [decide_eq_false h1] at J1a
    have ec : comeS ks s x nv = 60 := by unfold comeS; rw [if_neg h1]
    have EC := hide ec
    clear ec h1 J3
    go_wp2_with fail
    refine J1a.out.mono ?_
    rintro e w2 ⟨rfl, rfl⟩
    go_wp2_with fail
    go_ret
    exact ⟨ret_int EC.out.symm, HB1.out⟩
end
end Go.Proofs.YtafmiolehlagkaaGreat

/-
  Rows of numbers and of entities in memory; sets of blocks: what all texts of this seat share.
-/
namespace Go.Proofs.YtafmiolehlagkaaGreat
open Go.RowKit
set_option maxRecDepth 100000
theorem info3 : (Tryz.prog.info? 3).map (fun i => (i.zero, i.size, i.bytes)) = some (some (.int .i64 0), 1, 8) := by kernel_rfl
theorem info41 : (Tryz.prog.info? 29).map (fun i => (i.zero, i.size, i.bytes)) = some (some (.agg #[.int .i64 0, .int .i64 0]), 2, 16) := by kernel_rfl

/-! ### What changes -/
section
variable {w w' w2 : World} {S S' : Nat → Prop}
end
/-! ### Rows of numbers, rows of entities -/
def ic (l : List Nat) : List Value := l.map fun n : Nat => .int .i64 (n : Int)
def ec : List (Nat × Nat) → List Value
  | [] => []
  | p :: t => .int .i64 (p.1 : Int) :: .int .i64 (p.2 : Int) :: ec t
theorem ic_len (l : List Nat) : (ic l).length = l.length := by simp [ic]
theorem ic_append (a b : List Nat) : ic (a ++ b) = ic a ++ ic b := by simp [ic]
theorem ic_set (l : List Nat) (i x : Nat) : (ic l).set i (.int .i64 (x : Int)) = ic (l.set i x) := by simp [ic, List.map_set]
theorem ic_at (l : List Nat) (i : Nat) (h : i < l.length) : (ic l)[i]? = some (.int .i64 (l[i] : Int)) := by simp [ic, h]
theorem ec_len : ∀ l : List (Nat × Nat), (ec l).length = l.length * 2
  | [] => rfl
  | p :: t => by simp [ec, ec_len t]; omega
theorem ec_append : ∀ a b : List (Nat × Nat), ec (a ++ b) = ec a ++ ec b
  | [], _ => rfl
  | h :: t, b => by simp [ec, ec_append t b]
theorem ec_at : ∀ (l : List (Nat × Nat)) (i : Nat) (h : i < l.length), (ec l)[i * 2]? = some (.int .i64 (l[i].1 : Int)) ∧ (ec l)[i * 2 + 1]? = some (.int .i64 (l[i].2 : Int))
  | p :: t, 0, _ => ⟨rfl, rfl⟩
  | p :: t, i + 1, h => by
    have := ec_at t i (by simpa using h)
    rw [show (i + 1) * 2 = i * 2 + 1 + 1 by omega]
    simpa [ec] using this
theorem ec_set : ∀ (l : List (Nat × Nat)) (i a b : Nat), i < l.length → ((ec l).set (i * 2) (.int .i64 (a : Int))).set (i * 2 + 1) (.int .i64 (b : Int)) = ec (l.set i (a, b))
  | p :: t, 0, a, b, _ => rfl
  | p :: t, i + 1, a, b, h => by
    have := ec_set t i a b (by simpa using h)
    rw [show (i + 1) * 2 = i * 2 + 1 + 1 by omega]
    simpa [ec] using this
theorem ic_one (l : List Nat) : ∀ u ∈ ic l, u.oneCell' = true := by
  intro u hu
  simp only [ic, List.mem_map] at hu
  obtain ⟨b, _, rfl⟩ := hu
  rfl
theorem ec_one : ∀ (l : List (Nat × Nat)), ∀ u ∈ ec l, u.oneCell' = true
  | p :: t, u, hu => by
    simp only [ec, List.mem_cons] at hu
    rcases hu with rfl | rfl | hu
    · rfl
    · rfl
    · exact ec_one t u hu
/-- Numbers that are owned, one of them. -/
theorem own_int {w : World} {B g n c : Nat} {l : List Nat} (h : w.ownsRow B 3 1 (.slice (some ⟨g, 0, none⟩) n c) n (ic l)) (i : Nat) (hi : i < l.length) : w.cell? ⟨g, i, none⟩ = some (.int .i64 (l[i] : Int)) := by
  have hl := h.1
  rw [ic_len] at hl
  rw [h.cellAt i (by omega), ic_at l i hi]
theorem i_own_ent {w : World} {B g n c : Nat} {l : List (Nat × Nat)} (h : w.ownsRow B 29 2 (.slice (some ⟨g, 0, none⟩) n c) n (ec l)) (i : Nat) (hi : i < l.length) :
    w.cell? ⟨g, i * 2, none⟩ = some (.int .i64 (l[i].1 : Int)) ∧ w.cell? ⟨g, i * 2 + 1, none⟩ = some (.int .i64 (l[i].2 : Int)) := by
  have hl := h.1
  rw [ec_len] at hl
  rw [h.cellAt (i * 2) (by omega), h.cellAt (i * 2 + 1) (by omega)]
  exact ec_at l i hi
theorem own_int_set {w : World} {B g n c : Nat} {l : List Nat} (h : w.ownsRow B 3 1 (.slice (some ⟨g, 0, none⟩) n c) n (ic l)) (i x : Nat) : (w.setCell ⟨g, i, none⟩ (.int .i64 (x : Int))).ownsRow B 3 1 (.slice (some ⟨g, 0, none⟩) n c) n (ic (l.set i x)) := by
  rw [← ic_set]
  exact (h.stored i _).1
theorem own_ent_set {w : World} {B g n c : Nat} {l : List (Nat × Nat)} (h : w.ownsRow B 29 2 (.slice (some ⟨g, 0, none⟩) n c) n (ec l)) (i a b : Nat) (hi : i < l.length) : ((w.setCell ⟨g, i * 2, none⟩ (.int .i64 (a : Int))).setCell ⟨g, i * 2 + 1, none⟩ (.int .i64 (b : Int))).ownsRow B 29 2 (.slice (some ⟨g, 0, none⟩) n c) n (ec (l.set i (a, b))) := by
  rw [← ec_set l i a b hi]
  exact ((h.stored (i * 2) _).1.stored (i * 2 + 1) _).1
end Go.Proofs.YtafmiolehlagkaaGreat
