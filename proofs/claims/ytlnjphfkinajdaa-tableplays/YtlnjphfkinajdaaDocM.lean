/-
  The document's Remove.
-/
import Derived.Test.YtlnjphfkinajdaaDocA
import Derived.Test.YtlnjphfkinajdaaRem
namespace Go.Proofs.Ytlnjphfkinajdaa
open Go.RowKit
theorem rowOf_rem (cols : List (List Int)) (row r : Nat) (hc : ∀ c ∈ cols, c.length = r) (hr : row < r) (j : Nat) (hj : j < r - 1) : rowOf (remCols cols row) j = if j = row then rowOf cols (r - 1) else rowOf cols j := by
  have hlen : (remCols cols row).length = cols.length := prem_len _ _ _
  apply List.ext_getElem
  · split <;> simp [rowOf, hlen]
  · intro i h1 h2
    have hi : i < cols.length := by rw [rowOf_len, hlen] at h1; exact h1
    have hci : cols[i].length = r := hc _ (List.getElem_mem hi)
    have e1 : (rowOf (remCols cols row) j)[i] = (rem cols[i] row).getD j 0 := by
      simp only [rowOf, List.getElem_map]
      have := prem_at cols row cols.length i hi
      rw [if_pos hi] at this
      exact congrArg (fun l => l.getD j 0) this
    have hjr : j < (rem cols[i] row).length := by rw [rem_len]; omega
    rw [e1, List.getD_eq_getElem?_getD, List.getElem?_eq_getElem hjr, rem_at _ _ _ (by omega) hjr]
    by_cases e : j = row
    · simp only [if_pos e, rowOf, List.getElem_map]
      simp [hci, show r - 1 < r by omega]
    · simp only [if_neg e, rowOf, List.getElem_map]
      simp [hci, show j < r by omega]
theorem rem_last {α : Type} [Inhabited α] (l : List α) (row : Nat) (h : row = l.length - 1) : rem l row = l.take (l.length - 1) := by
  subst h
  unfold rem
  rw [List.take_set_of_le (Nat.le_refl _)]
theorem rem_mid {α : Type} [Inhabited α] (l : List α) (row : Nat) (hr : row < l.length) : rem l row = (l.take (l.length - 1)).set row (l[l.length - 1]'(by omega)) := by
  unfold rem
  rw [List.take_set]
  congr 1
  rw [List.getD_eq_getElem?_getD, List.getElem?_eq_getElem (by omega)]
  rfl
section
variable {w W W' : World} {g k : Nat} {vl v' : Value} {vs : List Value} {rows : List (Int × Int)} {nums : Nat → List Int}
/-- The first m rows, in a row of their own. -/
theorem Dm.cut {m : Nat} (h : Dm w g k vl vs rows nums) (hm : m ≤ rows.length) (hb : Below w.heap.size w W) (ho : W.ownsRow w.heap.size 82 3 v' m ((rz rows vs).take (m * 3))) :
    Dm (W.setCell ⟨g, 1, none⟩ v') g k v' (vs.take m) (rows.take m) nums ∧ Mv w (W.setCell ⟨g, 1, none⟩ v') (fun q => q = g) ∧ ∀ j (hj : j < vs.length), (W.setCell ⟨g, 1, none⟩ v').ownsRow 0 2 1 vs[j] (nums j).length (zc (nums j)) ∧ vs[j].ownBlock ≠ some g ∧ Ap vs[j] v' := by
  have hlt := h.lt
  obtain ⟨a1, a2, a3, a4, a5, a6⟩ := h
  have hM : Mv w (W.setCell ⟨g, 1, none⟩ v') (fun q => q = g) := Mv.set (S := fun q => q = g) (Mv.of_below hb _) rfl 1 v'
  have hvg : v'.ownBlock ≠ some g := fun e => by have := (ho.lt g e).1; omega
  have key : ∀ j (hj : j < vs.length), (W.setCell ⟨g, 1, none⟩ v').ownsRow 0 2 1 vs[j] (nums j).length (zc (nums j)) ∧ vs[j].ownBlock ≠ some g ∧ Ap vs[j] v' := fun j hj => by
    obtain ⟨b1, b2, b3⟩ := a5 j hj
    exact ⟨hM.own b1 (fun q e1 e2 => by subst e2; exact b2 e1), b2, fun q e1 e2 => by have := (b1.lt q e1).2; have := (ho.lt q e2).1; omega⟩
  refine ⟨⟨heap_setCell_same W g 1 _ 69 v' ((hb.block g hlt).trans a1), ?_, by simp; omega, hvg, fun j hj => ?_, fun i j hi hj hij q e1 e2 => ?_⟩, hM, key⟩
  · have := own_lower (own_set (k := 1) (u := v') ho hvg) (Nat.zero_le _)
    rw [rz_take] at this
    rw [List.length_take, Nat.min_eq_left hm]
    exact this
  · rw [List.getElem_take]
    exact key j (by simp at hj; omega)
  · rw [List.getElem_take] at e1 e2
    exact a6 i j (by simp at hi; omega) (by simp at hj; omega) hij q e1 e2
/-- Another row at a place. -/
theorem Dm.swap {g9 m c row : Nat} {a b : Int} {vx : Value} {new : List Int} (h : Dm w g k (.slice (some ⟨g9, 0, none⟩) m c) vs rows nums) (hr : row < rows.length) (hx : w.ownsRow 0 2 1 vx new.length (zc new)) (h0 : vx.ownBlock ≠ some g) (h1 : vx.ownBlock ≠ some g9) (h2 : ∀ j (hj : j < vs.length), j ≠ row → Ap vs[j] vx) :
    Dm (((w.setCell ⟨g9, row * 3, none⟩ (.int .i64 a)).setCell ⟨g9, row * 3 + 1, none⟩ (.int .i64 b)).setCell ⟨g9, row * 3 + 2, none⟩ vx) g k (.slice (some ⟨g9, 0, none⟩) m c) (vs.set row vx) (rows.set row (a, b)) (fun j => if j = row then new else nums j) ∧
    Mv w (((w.setCell ⟨g9, row * 3, none⟩ (.int .i64 a)).setCell ⟨g9, row * 3 + 1, none⟩ (.int .i64 b)).setCell ⟨g9, row * 3 + 2, none⟩ vx) (fun q => q = g9) := by
  have hM : Mv w (((w.setCell ⟨g9, row * 3, none⟩ (.int .i64 a)).setCell ⟨g9, row * 3 + 1, none⟩ (.int .i64 b)).setCell ⟨g9, row * 3 + 2, none⟩ vx) (fun q => q = g9) := Mv.set (S := fun q => q = g9) (Mv.set (S := fun q => q = g9) (Mv.set (S := fun q => q = g9) (Mv.refl _ _) rfl _ _) rfl _ _) rfl _ _
  obtain ⟨a1, a2, a3, a4, a5, a6⟩ := h
  obtain ⟨_, _, hh⟩ := own_len a2
  simp only [Value.slice.injEq] at hh
  obtain ⟨-, rfl, -⟩ := hh
  have hg9 : g9 ≠ g := fun e => a4 (by rw [e]; rfl)
  refine ⟨⟨hM.at a1 (fun e => hg9 e.symm), ?_, by simp [a3], a4, fun j hj => ?_, fun i j hi hj hij q e1 e2 => ?_⟩, hM⟩
  · have := ((a2.stored (row * 3) (.int .i64 a)).1.stored (row * 3 + 1) (.int .i64 b)).1.stored (row * 3 + 2) vx |>.1
    rw [rz_set _ _ _ _ _ _ hr (by omega)] at this
    rw [List.length_set]
    exact this
  · have hj' : j < vs.length := by simpa using hj
    by_cases e : j = row
    · subst e
      rw [List.getElem_set_self]
      simp only [if_true]
      exact ⟨hM.own hx (fun q e1 e2 => by subst e2; exact h1 e1), h0, fun q e1 e2 => by
        simp only [Value.ownBlock, Option.some.injEq] at e2
        subst e2; exact h1 e1⟩
    · rw [List.getElem_set_ne (fun e' => e e'.symm)]
      simp only [if_neg e]
      obtain ⟨b1, b2, b3⟩ := a5 j hj'
      exact ⟨hM.own b1 (fun q e1 e2 => by subst e2; exact b3 _ e1 rfl), b2, b3⟩
  · have hi' : i < vs.length := by simpa using hi
    have hj' : j < vs.length := by simpa using hj
    rw [List.getElem_set] at e1 e2
    by_cases ei : row = i
    · rw [if_pos ei] at e1
      rw [if_neg (by omega)] at e2
      exact h2 j hj' (by omega) q e2 e1
    · rw [if_neg ei] at e1
      by_cases ej : row = j
      · rw [if_pos ej] at e2
        exact h2 i hi' (by omega) q e1 e2
      · rw [if_neg ej] at e2
        exact a6 i j hi' hj' hij q e1 e2
end
section
variable {w : World} {S : Nat → Prop} {g : Nat} {rows : List (Int × Int)} {cols : List (List Int)}
set_option maxHeartbeats 2000000 in
theorem drem_bad (h : Dt w S g rows cols) (x : Int) (hx : ¬ (0 ≤ x ∧ x < (rows.length : Int))) : Calls Try.prog 22 #[.pointer (some ⟨g, 0, none⟩), .int .i64 x] w fun e w' => e = .returned (.tuple #[.agg #[.int .i64 0, .int .i64 0], .bool false, .int .i64 50]) ∧ Below w.heap.size w w' := by
  obtain ⟨vl, vs, hm, -⟩ := h
  obtain ⟨ao, c, rfl⟩ := own_len hm.2.1
  have c1 : ∀ o, (w.alloc o).cell? ⟨g, 1, none⟩ = some (.slice ao rows.length c) := fun o => (hm.later (below_alloc w o)).cell.2
  clear hm
  go_enter Try.func22, Try.ntmps22
  by_cases h1 : x < 0
  · clear hx
    go_wp2_with fail
    (try simp only [Exit.inBlock, Exit.then])
    refine bodyPost_ret (v := .tuple #[.agg #[.int .i64 0, .int .i64 0], .bool false, .int .i64 50]) ?_ rfl ⟨rfl, below_alloc w _⟩
    rw [results_cell2 rfl]
    go_simp
  · have h2 : x ≥ (rows.length : Int) := by omega
    clear hx
    go_wp2_with fail
    (try simp only [Exit.inBlock, Exit.then])
    refine bodyPost_ret (v := .tuple #[.agg #[.int .i64 0, .int .i64 0], .bool false, .int .i64 50]) ?_ rfl ⟨rfl, below_alloc w _⟩
    rw [results_cell2 rfl]
    go_simp
set_option maxHeartbeats 4000000 in
set_option maxRecDepth 100000 in
theorem drem_walk (vs : List Value) (vl : Value) (k l row : Nat) (a b : Int) (vx : Value) (nums : Nat → List Int) (h : Dm w g k vl vs rows nums) (hl : rows.length = l + 1) (hlr : rows[l]? = some (a, b)) (hx : vs[l]? = some vx) (hr : row ≤ l) (h200 : rows.length ≤ 200) :
    Calls Try.prog 22 #[.pointer (some ⟨g, 0, none⟩), .int .i64 (row : Int)] w fun e w' => e = .returned (.tuple #[if row = l then .agg #[.int .i64 0, .int .i64 0] else .agg #[.int .i64 a, .int .i64 b], .bool (decide (row ≠ l)), .int .i64 0]) ∧
      ∃ v' vs', Dm w' g k v' vs' (rem rows row) (fun j => if j = row then nums l else nums j) ∧ Mv w w' (fun q => q = g) ∧ (∀ q, v'.ownBlock = some q → w.heap.size ≤ q) ∧ ∀ u ∈ vs', u ∈ vs := by
  obtain ⟨i8, hi8, hz0, hz1, hz2⟩ := info_parts info82
  have hvl := h.2.2.1
  obtain ⟨gl, c, rfl, hc1, hc2⟩ := own_form h.2.1 (by omega)
  have HM := hide h
  have hxo := (h.2.2.2.2.1 l (by omega)).1
  have hx' : vs[l]'(by omega) = vx := by rw [List.getElem?_eq_getElem (by omega)] at hx; exact Option.some.inj hx
  have hlr' : rows[l]'(by omega) = (a, b) := by rw [List.getElem?_eq_getElem (by omega)] at hlr; exact Option.some.inj hlr
  rw [hx'] at hxo
  obtain ⟨ax, cx, rfl⟩ := own_len hxo
  obtain ⟨n, hn⟩ : ∃ n, n = l + 1 := ⟨_, rfl⟩
  have CW : Hid (∀ W, Below w.heap.size w W → W.cell? ⟨g, 1, none⟩ = some (.slice (some ⟨gl, 0, none⟩) n c) ∧ W.cell? ⟨gl, l * 3, none⟩ = some (.int .i64 a) ∧ W.cell? ⟨gl, l * 3 + 1, none⟩ = some (.int .i64 b) ∧ W.cell? ⟨gl, l * 3 + 2, none⟩ = some (.slice ax (nums l).length cx)) := fun W hW => by
    have h1 := (HM.out.later hW).cell.2
    have h2 := own_rows (HM.out.later hW).2.1 hvl l (by omega)
    rw [hlr', hx'] at h2
    rw [hl, ← hn] at h1
    exact ⟨h1, h2⟩
  have c1 : ∀ o, (w.alloc o).cell? ⟨g, 1, none⟩ = some (.slice (some ⟨gl, 0, none⟩) n c) := fun o => (CW.out _ (below_alloc w o)).1
  have c2 : ∀ o, (w.alloc o).cell? ⟨gl, l * 3, none⟩ = some (.int .i64 a) := fun o => (CW.out _ (below_alloc w o)).2.1
  have c3 : ∀ o, (w.alloc o).cell? ⟨gl, l * 3 + 1, none⟩ = some (.int .i64 b) := fun o => (CW.out _ (below_alloc w o)).2.2.1
  have c4 : ∀ o, (w.alloc o).cell? ⟨gl, l * 3 + 2, none⟩ = some (.slice ax (nums l).length cx) := fun o => (CW.out _ (below_alloc w o)).2.2.2
  have t0 : ¬ (row : Int) < 0 := by omega
  have t1 : ¬ (row : Int) ≥ (n : Int) := by omega
  have t2 : IntKind.i64.wrap ((n : Int) - 1) = (l : Int) := by rw [IntKind.wrap_i64]; omega
  have t3 : (l : Int) < (n : Int) := by omega
  have t4 : (l : Int) ≤ (c : Int) := by omega
  have t5 : l ≤ 200 := by omega
  have HN := hide hn
  have HL := hide hl
  have HLR := hide hlr
  have HX := hide hx
  have HXO := hide hxo
  clear h hxo hlr' hx' hlr hx hl hvl hn
  go_enter Try.func22, Try.ntmps22
  go_upto_region 5 with fail
  obtain ⟨w2, hw2⟩ : ∃ X, X = (w.alloc (.cells #[.int .i64 0, .int .i64 0] 32)).alloc (.cells #[.int .i64 a, .int .i64 b, .slice ax (nums l).length cx] 82) := ⟨_, rfl⟩
  have B2 : Below w.heap.size w w2 := hw2 ▸ below_on (below_alloc w _) (below_alloc _ _)
  have hy2 : w2.heap[w.heap.size]? = some (.cells #[.int .i64 0, .int .i64 0] 32 (0, 0)) := by
    rw [hw2]
    exact (heap_alloc_old _ _ (by simp)).trans (heap_alloc_new w _)
  have hx2 : w2.heap[w.heap.size + 1]? = some (.cells #[.int .i64 a, .int .i64 b, .slice ax (nums l).length cx] 82 (0, 0)) := by
    have := heap_alloc_new (w.alloc (.cells #[.int .i64 0, .int .i64 0] 32)) (.cells #[.int .i64 a, .int .i64 b, .slice ax (nums l).length cx] 82)
    rw [hw2]
    simpa using this
  have hs2 : w2.heap.size = w.heap.size + 2 := by rw [hw2]; simp
  rw [← hw2]
  obtain ⟨kr, hkr⟩ : ∃ k, k = w.heap.size := ⟨_, rfl⟩
  obtain ⟨kx, hkx⟩ : ∃ k, k = w.heap.size + 1 := ⟨_, rfl⟩
  rw [← hkx] at hx2 ⊢
  rw [← hkr] at hy2 ⊢
  have HY2 := hide hy2
  have HX2 := hide hx2
  have HS2 := hide hs2
  have HKR := hide hkr
  have HKX := hide hkx
  have HB2 := hide B2
  have d1 : ∀ o, (w2.alloc o).cell? ⟨g, 1, none⟩ = some (.slice (some ⟨gl, 0, none⟩) n c) := fun o => (CW.out _ (below_on B2 (below_alloc _ o))).1
  have HOW : Hid (∀ j u, ((rz rows vs).take (l * 3))[j]? = some u → (w2.alloc (.cells #[] 82)).cell? ((⟨gl, 0, none⟩ : Addr).add j) = some u) := fun j u hj => by
    have ho := own_later HM.out.2.1 (below_on HB2.out (below_alloc w2 (.cells #[] 82)))
    rw [List.getElem?_take] at hj
    split at hj
    · exact ho.cells (g := gl) rfl j u hj
    · cases hj
  have HLN : Hid (((rz rows vs).take (l * 3)).length = l * 3) := by
    have := HL.out
    simp only [Hid, List.length_take, rz_len _ _ HM.out.2.2.1]
    omega
  have HON : Hid (∀ u ∈ (rz rows vs).take (l * 3), u.oneCell' = true) := fun u hu => by
    obtain ⟨j, hj, rfl⟩ := List.getElem_of_mem hu
    have hj2 : j < (rz rows vs).length := by rw [List.length_take] at hj; omega
    rw [List.getElem_take]
    have hj3 : j / 3 < rows.length := by rw [rz_len _ _ HM.out.2.2.1] at hj2; omega
    have hv3 : j / 3 < vs.length := by rw [HM.out.2.2.1]; exact hj3
    have r3 := rz_at rows vs (j / 3) hj3 hv3
    have hm3 : j % 3 = 0 ∨ j % 3 = 1 ∨ j % 3 = 2 := by omega
    have key : ∀ (x : Value), (rz rows vs)[j]? = some x → x.oneCell' = true → ((rz rows vs)[j]'hj2).oneCell' = true := fun x h1 h2 => by
      rw [List.getElem?_eq_getElem hj2] at h1
      rw [Option.some.inj h1]; exact h2
    rcases hm3 with h | h | h
    · exact key _ (by rw [← r3.1]; congr 1; omega) rfl
    · exact key _ (by rw [← r3.2.1]; congr 1; omega) rfl
    · obtain ⟨_, _, hv⟩ := own_len (HM.out.2.2.2.2.1 (j / 3) hv3).1
      exact key vs[j / 3] (by rw [← r3.2.2]; congr 1; omega) (by rw [hv]; rfl)
  clear hy2 hx2 hs2 hkr hkx hw2 c1 c2 c3 c4 B2
  go_wp2_with (at_builtin; refine wpList_append_own_at _ rfl _ _ 67 rfl w2.heap.size 82 i8 (.agg #[.int .i64 0, .int .i64 0, .slice none 0 0]) 3 40 Try.underlying67 hi8 hz0 hz1 hz2 rfl (by decide) _ 0 [] rfl (World.ownsRow_lit w2 #[] 0 (Nat.le_refl _) (Nat.zero_le _) rfl) ⟨gl, 0, none⟩ l c ((rz rows vs).take (l * 3)) rfl HLN.out HOW.out HON.out ?e1 ?e2 (by simp) ?_)
  case e1 => unfold maxLen; omega
  case e2 => omega
  intro v' w3 h1 h2 h3 _
  obtain ⟨g9, c9, rfl⟩ : ∃ g9 c9, v' = .slice (some ⟨g9, 0, none⟩) l c9 := by
    rcases h1.2 with ⟨e, _⟩ | ⟨g9, c9, _, e, _⟩
    · exact absurd e h3
    · exact ⟨g9, c9, e⟩
  have hb3 : Below w2.heap.size w2 w3 := (below_alloc w2 _).grown h2 (by simp) (by intro q hq; simp only [Value.ownBlock, Option.some.injEq] at hq; omega)
  have hbw := below_on HB2.out hb3
  have hcut := HM.out.cut (m := l) (by have := HL.out; omega) hbw (own_lower h1 HB2.out.size)
  have hg3 := (HM.out.later hbw).1
  have hk9 := (h1.lt g9 rfl)
  have d2 := (CW.out _ hbw).1
  have d3 := frozen_of_row w3 g 1 _ 69 hg3
  have hkr3 := (hb3.block kr (lt_of_block HY2.out)).trans HY2.out
  have hkx3 := (hb3.block kx (lt_of_block HX2.out)).trans HX2.out
  have HK3 := hide (And.intro hkr3 hkx3)
  have HC := hide hcut
  have HB3 := hide hbw
  have HK9 := hide hk9
  clear h1 h2 h3 hb3 hbw hcut hg3 hk9 hkr3 hkx3 HOW HON HLN d1
  go_upto_region 6 with fail
  obtain ⟨w4, hw4⟩ : ∃ X, X = w3.setCell ⟨g, 1, none⟩ (.slice (some ⟨g9, 0, none⟩) l c9) := ⟨_, rfl⟩
  rw [← hw4] at HC ⊢
  have hm4 : Mv w3 w4 (fun q => q = g) := hw4 ▸ Mv.set (S := fun q => q = g) (Mv.refl _ _) rfl _ _
  have hgk := HM.out.lt
  have hkr4 : w4.heap[kr]? = some (.cells #[.int .i64 0, .int .i64 0] 32 (0, 0)) := hm4.at HK3.out.1 (by have := HKR.out; omega)
  have hkx4 : w4.heap[kx]? = some (.cells #[.int .i64 a, .int .i64 b, .slice ax (nums l).length cx] 82 (0, 0)) := hm4.at HK3.out.2 (by have := HKX.out; omega)
  have x1 : w4.cell? ⟨kr, 0, none⟩ = some (.int .i64 0) := by rw [cell_of_row w4 kr _ _ 32 (0, 0) hkr4]; rfl
  have x2 : w4.cell? ⟨kr, 1, none⟩ = some (.int .i64 0) := by rw [cell_of_row w4 kr _ _ 32 (0, 0) hkr4]; rfl
  have x3 : w4.frozen? ⟨kr, 0, none⟩ = false := frozen_of_row w4 kr _ _ 32 hkr4
  have x4 : w4.frozen? ⟨kr, 1, none⟩ = false := frozen_of_row w4 kr _ _ 32 hkr4
  have hkrw : w.heap.size ≤ kr := by have := HKR.out; omega
  clear hw4 hm4 d2 d3 hgk
  by_cases hrl : row = l
  · subst hrl
    have HFIN : Hid (∃ v' vs', Dm ((w4.setCell ⟨kr, 0, none⟩ (.int .i64 0)).setCell ⟨kr, 1, none⟩ (.int .i64 0)) g k v' vs' (rem rows row) (fun j => if j = row then nums row else nums j) ∧ Mv w ((w4.setCell ⟨kr, 0, none⟩ (.int .i64 0)).setCell ⟨kr, 1, none⟩ (.int .i64 0)) (fun q => q = g) ∧ (∀ q, v'.ownBlock = some q → w.heap.size ≤ q) ∧ ∀ u ∈ vs', u ∈ vs) := by
      have hmk : Mv w4 ((w4.setCell ⟨kr, 0, none⟩ (.int .i64 0)).setCell ⟨kr, 1, none⟩ (.int .i64 0)) (fun q => q = kr) := Mv.set (S := fun q => q = kr) (Mv.set (S := fun q => q = kr) (Mv.refl _ _) rfl _ _) rfl _ _
      have hgk := HM.out.lt
      have e9 := HK9.out.1
      have hs2 := HS2.out
      have hkr' := HKR.out
      refine ⟨.slice (some ⟨g9, 0, none⟩) row c9, vs.take row, ?_, HC.out.2.1.trans hmk (fun q hq e => by omega), fun q e => ?_, fun u hu => List.mem_of_mem_take hu⟩
      · rw [rem_last rows row (by have := HL.out; omega), show rows.length - 1 = row by have := HL.out; omega]
        refine (HC.out.1.frame hmk (by omega) (fun q e e' => ?_) (fun u hu q e e' => ?_)).to (fun j _ => ?_)
        · simp only [Value.ownBlock, Option.some.injEq] at e
          omega
        · obtain ⟨j, hj, rfl⟩ := List.getElem_of_mem (List.mem_of_mem_take hu)
          have := ((HM.out.2.2.2.2.1 j hj).1.lt q e).2
          omega
        · split
          · subst_vars; rfl
          · rfl
      · simp only [Value.ownBlock, Option.some.injEq] at e
        omega
    clear HC HM
    have tb : ((row : Int) == (row : Int)) = true := by simp
    go_wp2_with fail
    (try simp only [Exit.inBlock, Exit.then])
    refine bodyPost_ret (v := .tuple #[.agg #[.int .i64 0, .int .i64 0], .bool false, .int .i64 0]) ?_ rfl ⟨by simp, HFIN.out⟩
    rw [results_cell2 rfl]
    go_simp
  · have tb : ((row : Int) == (l : Int)) = false := by rw [beq_eq_false_iff_ne]; omega
    have hrl' : row < l := by omega
    have u1 : (row : Int) < (l : Int) := by omega
    have hrt : row < (rows.take l).length := by have := HL.out; rw [List.length_take]; omega
    have hlt : (rows.take l).length = l := by have := HL.out; rw [List.length_take]; omega
    have ho4 := HC.out.1.2.1
    rw [hlt] at ho4
    obtain ⟨y0, y1, y2⟩ := own_rows ho4 HC.out.1.2.2.1 row hrt
    have y3 := HC.out.1.cell.2
    have z0 : w4.cell? ⟨kx, 0, none⟩ = some (.int .i64 a) := by rw [cell_of_row w4 kx _ _ 82 (0, 0) hkx4]; rfl
    have z1 : w4.cell? ⟨kx, 1, none⟩ = some (.int .i64 b) := by rw [cell_of_row w4 kx _ _ 82 (0, 0) hkx4]; rfl
    have z2 : w4.cell? ⟨kx, 2, none⟩ = some (.slice ax (nums l).length cx) := by rw [cell_of_row w4 kx _ _ 82 (0, 0) hkx4]; rfl
    have f0 := ho4.frozenAt (row * 3)
    have f1 := ho4.frozenAt (row * 3 + 1)
    have f2 := ho4.frozenAt (row * 3 + 2)
    have hgk := HM.out.lt
    have e9 := HK9.out.1
    have hs2 := HS2.out
    have hkr' := HKR.out
    have hkx' := HKX.out
    have n1 : ¬ g = g9 := by omega
    have n2 : ¬ kx = g9 := by omega
    have n3 : ¬ kr = g9 := by omega
    have n4 : ¬ g9 = g := by omega
    have n5 : ¬ g9 = kx := by omega
    have n6 : ¬ g9 = kr := by omega
    have n7 : ¬ kr = kx := by omega
    have n8 : ¬ kx = kr := by omega
    obtain ⟨hx3, hx4, hx5⟩ := HC.out.2.2 l (by have := HM.out.2.2.1; have := HL.out; omega)
    have hxv : vs[l]'(by have := HM.out.2.2.1; have := HL.out; omega) = .slice ax (nums l).length cx := by
      have := HX.out
      rw [List.getElem?_eq_getElem (by have := HM.out.2.2.1; have := HL.out; omega)] at this
      exact Option.some.inj this
    rw [hxv] at hx3 hx4 hx5
    obtain ⟨w5, hw5⟩ : ∃ X, X = ((w4.setCell ⟨g9, row * 3, none⟩ (.int .i64 a)).setCell ⟨g9, row * 3 + 1, none⟩ (.int .i64 b)).setCell ⟨g9, row * 3 + 2, none⟩ (.slice ax (nums l).length cx) := ⟨_, rfl⟩
    have hsw := HC.out.1.swap (row := row) (a := a) (b := b) hrt hx3 hx4 (fun e => hx5 g9 e rfl) (fun j hj hne q e1 e2 => by
      rw [List.getElem_take] at e1
      have hjl : j < l := by simp at hj; omega
      exact HM.out.2.2.2.2.2 j l (by simp at hj; omega) (by have := HM.out.2.2.1; have := HL.out; omega) (by omega) q e1 (by rw [hxv]; exact e2))
    rw [← hw5] at hsw
    have HFIN : Hid (∀ W5 : World, W5.heap = w5.heap → W5.os = w5.os → W5.tape = w5.tape → W5.output = w5.output → ∃ v' vs', Dm ((W5.setCell ⟨kr, 0, none⟩ (.int .i64 a)).setCell ⟨kr, 1, none⟩ (.int .i64 b)) g k v' vs' (rem rows row) (fun j => if j = row then nums l else nums j) ∧ Mv w ((W5.setCell ⟨kr, 0, none⟩ (.int .i64 a)).setCell ⟨kr, 1, none⟩ (.int .i64 b)) (fun q => q = g) ∧ (∀ q, v'.ownBlock = some q → w.heap.size ≤ q) ∧ ∀ u ∈ vs', u ∈ vs) := fun W5 e1 e2 e3 e4 => by
      have hmk : Mv w5 ((W5.setCell ⟨kr, 0, none⟩ (.int .i64 a)).setCell ⟨kr, 1, none⟩ (.int .i64 b)) (fun q => q = kr) := Mv.set (S := fun q => q = kr) (Mv.set (S := fun q => q = kr) ⟨e2, e3, e4, by rw [e1]; exact Nat.le_refl _, fun q _ _ => by rw [e1]⟩ rfl _ _) rfl _ _
      refine ⟨.slice (some ⟨g9, 0, none⟩) l c9, (vs.take l).set row (.slice ax (nums l).length cx), ?_, (HC.out.2.1.trans hsw.2 (fun q hq e => by omega)).trans hmk (fun q hq e => by omega), fun q e => ?_, fun u hu => ?_⟩
      · rw [rem_mid rows row (by have := HL.out; omega)]
        have e5 : rows[rows.length - 1]'(by have := HL.out; omega) = (a, b) := by
          have := HLR.out
          rw [List.getElem?_eq_getElem (by have := HL.out; omega)] at this
          have h2 := Option.some.inj this
          rw [← h2]
          congr 1
          have := HL.out; omega
        have e6 : rows.length - 1 = l := by have := HL.out; omega
        rw [e5, e6]
        refine (hsw.1.frame hmk (by omega) (fun q e e' => ?_) (fun u hu q e e' => ?_))
        · simp only [Value.ownBlock, Option.some.injEq] at e
          omega
        · have hmem : u ∈ vs := by
            rcases List.mem_or_eq_of_mem_set hu with h | h
            · exact List.mem_of_mem_take h
            · rw [h, ← hxv]; exact List.getElem_mem _
          obtain ⟨j, hj, rfl⟩ := List.getElem_of_mem hmem
          have := ((HM.out.2.2.2.2.1 j hj).1.lt q e).2
          omega
      · simp only [Value.ownBlock, Option.some.injEq] at e
        omega
      · rcases List.mem_or_eq_of_mem_set hu with h | h
        · exact List.mem_of_mem_take h
        · rw [h, ← hxv]; exact List.getElem_mem _
    rw [hw5] at HFIN
    generalize (rows.take l)[row]'hrt = pp at *
    generalize (vs.take l)[row]'(by rw [HC.out.1.2.2.1]; exact hrt) = vv at *
    clear HC HM hsw hw5 ho4 hx3 hx4 hx5 hxv hkr4 hkx4 hgk e9 hs2 hkr' hkx' hlt hrt HKR HKX HS2 HB2 HB3 HK3 HY2 HX2 HK9 HL HLR HX HXO HN CW
    go_upto_region 8 with fail
    go_region_held3 (fun W => W.cell? ⟨g, 1, none⟩ = some (.slice (some ⟨g9, 0, none⟩) l c9) ∧ W.cell? ⟨kx, 0, none⟩ = some (.int .i64 a) ∧ W.cell? ⟨kx, 1, none⟩ = some (.int .i64 b) ∧ W.cell? ⟨kx, 2, none⟩ = some (.slice ax (nums l).length cx)) (go_keep) (fail)
    go_wp2_with fail
    (try simp only [Exit.inBlock, Exit.then])
    refine bodyPost_ret (v := .tuple #[.agg #[.int .i64 a, .int .i64 b], .bool true, .int .i64 0]) ?_ rfl ⟨by simp, ?_⟩
    · rw [results_cell2 rfl]
      go_simp
    · exact HFIN.out _ rfl rfl rfl rfl
theorem drem_any (h : Dt w S g rows cols) (row : Nat) (hr : row < rows.length) :
    Calls Try.prog 22 #[.pointer (some ⟨g, 0, none⟩), .int .i64 (row : Int)] w fun e w' => e = .returned (.tuple #[if row = rows.length - 1 then .agg #[.int .i64 0, .int .i64 0] else .agg #[.int .i64 (rows[rows.length - 1]'(by omega)).1, .int .i64 (rows[rows.length - 1]'(by omega)).2], .bool (decide (row ≠ rows.length - 1)), .int .i64 0]) ∧ Dt w' (Nw w S) g (rem rows row) (remCols cols row) ∧ Mv w w' S := by
  obtain ⟨vl, vs, hm, hcl, ⟨s1, s2, s3⟩, hr2, hc2⟩ := h
  have hvl := hm.2.2.1
  have hlen : (remCols cols row).length = cols.length := prem_len _ _ _
  refine (drem_walk vs vl cols.length (rows.length - 1) row _ _ (vs[rows.length - 1]'(by omega)) (rowOf cols) hm (by omega) (List.getElem?_eq_getElem (by omega)) (List.getElem?_eq_getElem (by omega)) (by omega) hr2).mono ?_
  rintro e w' ⟨rfl, v', vs', h1, h2, h3, h4⟩
  refine ⟨rfl, ⟨v', vs', ?_, fun c hc => ?_, ⟨.inl s1, fun q e => .inr (h3 q e), fun v hv q e => .inl (s3 v (h4 v hv) q e)⟩, by rw [rem_len]; omega, by omega⟩, h2.mono (fun q _ e => e ▸ s1)⟩
  · rw [hlen]
    refine h1.to (fun j hj => ?_)
    rw [rem_len] at hj
    exact (rowOf_rem cols row rows.length hcl hr j hj).symm
  · obtain ⟨j, hj, rfl⟩ := List.getElem_of_mem hc
    have hj' : j < cols.length := by omega
    have e := prem_at cols row cols.length j hj'
    rw [if_pos hj'] at e
    refine Eq.trans (congrArg List.length e) ?_
    rw [rem_len, rem_len, hcl _ (List.getElem_mem hj')]
end
end Go.Proofs.Ytlnjphfkinajdaa
