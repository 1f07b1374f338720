/-
  The document's Add.
-/
import Derived.Test.YtlnjphfkinajdaaDocR
namespace Go.Proofs.Ytlnjphfkinajdaa
open Go.RowKit
theorem rowOf_add (cols : List (List Int)) (vals : List Int) (r : Nat) (hc : ∀ c ∈ cols, c.length = r) (hv : vals.length = cols.length) (j : Nat) (hj : j < r + 1) : rowOf (addRow cols vals) j = if j < r then rowOf cols j else vals := by
  have hlen : (addRow cols vals).length = cols.length := pcol_len _ _ _
  apply List.ext_getElem
  · split <;> simp [rowOf, hlen, hv]
  · intro i h1 h2
    have hi : i < cols.length := by rw [rowOf_len, hlen] at h1; exact h1
    have hci : cols[i].length = r := hc _ (List.getElem_mem hi)
    have e1 : (rowOf (addRow cols vals) j)[i] = (cols[i] ++ [vals.getD i 0]).getD j 0 := by
      simp only [rowOf, List.getElem_map]
      have := pcol_at cols vals cols.length i hi
      unfold addRow
      rw [this, if_pos hi]
    rw [e1]
    by_cases e : j < r
    · simp only [if_pos e]
      simp only [rowOf, List.getElem_map]
      rw [List.getD_eq_getElem?_getD, List.getElem?_append_left (by omega), List.getD_eq_getElem?_getD]
    · simp only [if_neg e]
      obtain rfl : j = r := by omega
      rw [List.getD_eq_getElem?_getD, List.getElem?_append_right (by omega), hci, Nat.sub_self]
      simp [hv ▸ hi]
section
variable {w W W1 W' : World} {g k : Nat} {vl v' vn : Value} {vs : List Value} {rows : List (Int × Int)} {nums : Nat → List Int}
theorem Dm.push {a b : Int} {new : List Int} (h : Dm w g k vl vs rows nums) (hb : Below w.heap.size w W) (hn : W.ownsRow w.heap.size 2 1 vn new.length (zc new)) (hb1 : Below W.heap.size W W1)
    (ho : W'.ownsRow 0 82 3 v' (rows.length + 1) (rz rows vs ++ [.int .i64 a, .int .i64 b, vn])) (hg : W1.grownBy W' vl.ownBlock) (ha : v'.ownBlock = vl.ownBlock ∨ v'.ownBlock = some W1.heap.size) :
    Dm (W'.setCell ⟨g, 1, none⟩ v') g k v' (vs ++ [vn]) (rows ++ [(a, b)]) (fun j => if j < rows.length then nums j else new) ∧ Mv w (W'.setCell ⟨g, 1, none⟩ v') (fun q => q = g ∨ vl.ownBlock = some q) := by
  have hlt := h.lt
  obtain ⟨a1, a2, a3, a4, a5, a6⟩ := h
  have s0 := hb.size
  have s1 := hb1.size
  have hbb := below_on hb hb1
  have hm : Mv w (W'.setCell ⟨g, 1, none⟩ v') (fun q => q = g ∨ vl.ownBlock = some q) := ((Mv.of_below hbb _).grown hg (fun q _ e => .inr e)).set (g := g) (.inl rfl) 1 v'
  have hvl : ∀ q, vl.ownBlock = some q → q < w.heap.size := fun q e => (a2.lt q e).2
  have hvg : v'.ownBlock ≠ some g := fun e => by
    rcases ha with h | h
    · exact a4 (h ▸ e)
    · rw [e] at h; have := Option.some.inj h; omega
  have hvn : ∀ q, vn.ownBlock = some q → w.heap.size ≤ q ∧ q < W.heap.size := fun q e => hn.lt q e
  have hvb : ∀ q, v'.ownBlock = some q → (vl.ownBlock = some q) ∨ W.heap.size ≤ q := fun q e => by
    rcases ha with h | h
    · exact .inl (h ▸ e)
    · rw [e] at h; have := Option.some.inj h; exact .inr (by omega)
  have hW' : W'.heap[g]? = some (.cells #[.int .i64 (k : Int), vl] 69 (0, 0)) := (hg.block g (by omega) (fun e => a4 e.symm)).trans ((hbb.block g hlt).trans a1)
  refine ⟨⟨heap_setCell_same W' g 1 _ 69 v' hW', ?_, by simp [a3], hvg, fun j hj => ?_, fun i j hi hj hij q e1 e2 => ?_⟩, hm⟩
  · have := own_set (k := 1) (u := v') ho hvg
    rw [List.length_append, rz_append _ _ _ _ a3]
    simpa [rz] using this
  · by_cases e : j < vs.length
    · rw [List.getElem_append_left e]
      have hj2 : j < rows.length := by omega
      simp only [if_pos hj2]
      obtain ⟨b1, b2, b3⟩ := a5 j e
      refine ⟨hm.own b1 (fun q e1 e2 => ?_), b2, fun q e1 e2 => ?_⟩
      · rcases e2 with rfl | e2
        · exact b2 e1
        · exact b3 q e1 e2
      · rcases hvb q e2 with h | h
        · exact b3 q e1 h
        · have := (b1.lt q e1).2; omega
    · have : j = vs.length := by simp at hj; omega
      subst this
      simp only [List.getElem_concat_length]
      rw [if_neg (by omega)]
      refine ⟨?_, fun e => by have := hvn g e; omega, fun q e1 e2 => ?_⟩
      · have h1 := own_lower (own_later hn hb1) (Nat.zero_le _)
        have h2 := own_kept h1 hg (fun q e e' => by have := hvn q e; have := hvl q e'; omega)
        exact own_set h2 (fun e => by have := hvn g e; omega)
      · have := hvn q e1
        rcases hvb q e2 with h | h
        · have := hvl q h; omega
        · omega
  · by_cases hi' : i < vs.length
    · rw [List.getElem_append_left hi'] at e1
      by_cases hj' : j < vs.length
      · rw [List.getElem_append_left hj'] at e2
        exact a6 i j hi' hj' hij q e1 e2
      · have : j = vs.length := by simp at hj; omega
        subst this
        simp only [List.getElem_concat_length] at e2
        have := hvn q e2
        have := ((a5 i hi').1.lt q e1).2
        omega
    · have : i = vs.length := by simp at hi; omega
      subst this
      simp only [List.getElem_concat_length] at e1
      have := hvn q e1
      have hj' : j < vs.length := by simp at hj; omega
      rw [List.getElem_append_left hj'] at e2
      have := ((a5 j hj').1.lt q e2).2
      omega
end
section
variable {w : World} {S : Nat → Prop} {g : Nat} {rows : List (Int × Int)} {cols : List (List Int)}
set_option maxHeartbeats 1000000 in
theorem dadd_field (h : Dt w S g rows cols) (a b : Int) (v : Value) (vals : List Int) (hv : Iz w v vals) (hl : vals.length ≠ cols.length) : Calls Try.prog 31 #[.pointer (some ⟨g, 0, none⟩), .agg #[.int .i64 a, .int .i64 b], v] w fun e w' => e = .returned (.tuple #[.int .i64 0, .int .i64 63]) ∧ Below w.heap.size w w' := by
  obtain ⟨vl, vs, hm, -⟩ := h
  have c0 : ∀ o, (w.alloc o).cell? ⟨g, 0, none⟩ = some (.int .i64 (cols.length : Int)) := fun o => (hm.later (below_alloc w o)).cell.1
  obtain ⟨ao, c, rfl, -⟩ := hv
  have t1 : ((vals.length : Int) == (cols.length : Int)) = false := by rw [beq_eq_false_iff_ne]; omega
  have t2 : ¬ (vals.length : Int) = (cols.length : Int) := by omega
  clear hm
  go_enter Try.func31, Try.ntmps31
  go_wp2_with fail
  go_ret2
  exact ⟨rfl, below_alloc w _⟩
set_option maxHeartbeats 1000000 in
theorem dadd_has (h : Dt w S g rows cols) (a b : Int) (v : Value) (vals : List Int) (hv : Iz w v vals) (hl : vals.length = cols.length) (he : (a, b) ∈ rows) : Calls Try.prog 31 #[.pointer (some ⟨g, 0, none⟩), .agg #[.int .i64 a, .int .i64 b], v] w fun e w' => e = .returned (.tuple #[.int .i64 0, .int .i64 61]) ∧ Below w.heap.size w w' := by
  have J : Hid (∀ W, Below w.heap.size w W → Calls Try.prog 37 #[.pointer (some ⟨g, 0, none⟩), .agg #[.int .i64 a, .int .i64 b]] W fun e w' => ∃ r : Nat, e = .returned (.int .i64 (r : Int)) ∧ Below W.heap.size W w') := fun W hbw => (dfind_any (h.later hbw) a b).mono (fun e w' ⟨r, h1, h2, h3⟩ => by
    rcases h2 with ⟨-, h2⟩ | ⟨i, hi, rfl, -⟩
    · exact absurd he h2
    · exact ⟨i, h1, h3⟩)
  obtain ⟨vl, vs, hm, -⟩ := h
  have c0 : ∀ o, (w.alloc o).cell? ⟨g, 0, none⟩ = some (.int .i64 (cols.length : Int)) := fun o => (hm.later (below_alloc w o)).cell.1
  obtain ⟨ao, c, rfl, -⟩ := hv
  rw [hl]
  clear hm
  go_enter Try.func31, Try.ntmps31
  go_wp2_with fail
  refine (J.out _ (below_alloc w _)).mono ?_
  rintro e w1 ⟨r, rfl, hb1⟩
  have t3 : (r : Int) ≥ 0 := by omega
  go_wp2_with fail
  go_ret2
  exact ⟨rfl, below_on (below_alloc w _) hb1⟩
set_option maxHeartbeats 1000000 in
theorem dadd_full (h : Dt w S g rows cols) (a b : Int) (v : Value) (vals : List Int) (hv : Iz w v vals) (hl : vals.length = cols.length) (he : (a, b) ∉ rows) (hr : rows.length = 200) : Calls Try.prog 31 #[.pointer (some ⟨g, 0, none⟩), .agg #[.int .i64 a, .int .i64 b], v] w fun e w' => e = .returned (.tuple #[.int .i64 0, .int .i64 40]) ∧ Below w.heap.size w w' := by
  have J : Hid (∀ W, Below w.heap.size w W → Calls Try.prog 37 #[.pointer (some ⟨g, 0, none⟩), .agg #[.int .i64 a, .int .i64 b]] W fun e w' => e = .returned (.int .i64 (-1)) ∧ Below W.heap.size W w') := fun W hbw => (dfind_any (h.later hbw) a b).mono (fun e w' ⟨r, h1, h2, h3⟩ => by
    rcases h2 with ⟨rfl, -⟩ | ⟨i, hi, rfl, h2⟩
    · exact ⟨h1, h3⟩
    · exact absurd (h2 ▸ List.getElem_mem hi) he)
  obtain ⟨vl, vs, hm, -⟩ := h
  obtain ⟨al, cl, rfl⟩ := own_len hm.2.1
  have HM := hide hm
  have c0 : ∀ o, (w.alloc o).cell? ⟨g, 0, none⟩ = some (.int .i64 (cols.length : Int)) := fun o => (hm.later (below_alloc w o)).cell.1
  obtain ⟨ao, c, rfl, -⟩ := hv
  rw [hl]
  have hm' := HM.out
  rw [hr] at hm'
  have HM' := hide hm'
  clear hm hm' HM
  go_enter Try.func31, Try.ntmps31
  go_wp2_with fail
  refine (J.out _ (below_alloc w _)).mono ?_
  rintro e w1 ⟨rfl, hb1⟩
  have c1 := (HM'.out.later (below_on (below_alloc w _) hb1)).cell.2
  go_wp2_with fail
  go_ret2
  exact ⟨rfl, below_on (below_alloc w _) hb1⟩
set_option maxHeartbeats 40000000 in
set_option maxRecDepth 1000000 in
theorem dadd_any (h : Dt w S g rows cols) (a b : Int) (v : Value) (vals : List Int) (hv : Fz w v vals) (hl : vals.length = cols.length) (he : (a, b) ∉ rows) (hr : rows.length < 200) :
    Calls Try.prog 31 #[.pointer (some ⟨g, 0, none⟩), .agg #[.int .i64 a, .int .i64 b], v] w fun e w' => e = .returned (.tuple #[.int .i64 (rows.length : Int), .int .i64 0]) ∧ Dt w' (Nw w S) g (rows ++ [(a, b)]) (addRow cols vals) ∧ Mv w w' S := by
  have J : Hid (∀ W, Below w.heap.size w W → Calls Try.prog 37 #[.pointer (some ⟨g, 0, none⟩), .agg #[.int .i64 a, .int .i64 b]] W fun e w' => e = .returned (.int .i64 (-1)) ∧ Below W.heap.size W w') := fun W hbw => (dfind_any (h.later hbw) a b).mono (fun e w' ⟨r, h1, h2, h3⟩ => by
    rcases h2 with ⟨rfl, -⟩ | ⟨i, hi, rfl, h2⟩
    · exact ⟨h1, h3⟩
    · exact absurd (h2 ▸ List.getElem_mem hi) he)
  obtain ⟨i8, hi8, hz0, hz1, hz2⟩ := info_parts info82
  obtain ⟨vl, vs, hm, hcl, ⟨s1, s2, s3⟩, hr2, hc2⟩ := h
  obtain ⟨al, cl, rfl⟩ := own_len hm.2.1
  have HM := hide hm
  have HV := hide hv
  have c0 : ∀ o, (w.alloc o).cell? ⟨g, 0, none⟩ = some (.int .i64 (cols.length : Int)) := fun o => (hm.later (below_alloc w o)).cell.1
  have FIN : Hid (∀ (vn v' : Value) (W W1 W' : World), Below w.heap.size w W → W.ownsRow w.heap.size 2 1 vn vals.length (zc vals) → Below W.heap.size W W1 → W'.ownsRow 0 82 3 v' (rows.length + 1) (rz rows vs ++ [.int .i64 a, .int .i64 b, vn]) → W1.grownBy W' (Value.slice al rows.length cl).ownBlock → (v'.ownBlock = (Value.slice al rows.length cl).ownBlock ∨ v'.ownBlock = some W1.heap.size) →
      Dt (W'.setCell ⟨g, 1, none⟩ v') (Nw w S) g (rows ++ [(a, b)]) (addRow cols vals) ∧ Mv w (W'.setCell ⟨g, 1, none⟩ v') S) := fun vn v' W W1 W' hb hn hb1 ho hg ha => by
    obtain ⟨q1, q2⟩ := HM.out.push hb hn hb1 ho hg ha
    have sz := hb.size
    have sz1 := hb1.size
    refine ⟨⟨v', vs ++ [vn], ?_, fun c hc => ?_, ⟨.inl s1, fun q e => ?_, fun u hu q e => ?_⟩, by simp; omega, by unfold addRow; rw [pcol_len]; exact hc2⟩, q2.mono (fun q _ e => ?_)⟩
    · have := q1.to (nums' := rowOf (addRow cols vals)) (fun j hj => by
        rw [rowOf_add cols vals rows.length hcl hl j (by simpa using hj)])
      have e : (addRow cols vals).length = cols.length := pcol_len _ _ _
      rw [e]
      exact this
    · obtain ⟨j, hj, rfl⟩ := List.getElem_of_mem hc
      have hj' : j < cols.length := by unfold addRow at hj; rw [pcol_len] at hj; exact hj
      have e := pcol_at cols vals cols.length j hj'
      rw [if_pos hj'] at e
      have e2 := congrArg List.length e
      refine Eq.trans e2 ?_
      simp [hcl _ (List.getElem_mem hj')]
    · rcases ha with h | h
      · exact .inl (s2 q (h ▸ e))
      · rw [e] at h; have := Option.some.inj h; exact .inr (by omega)
    · rcases List.mem_append.1 hu with h | h
      · exact .inl (s3 u h q e)
      · simp only [List.mem_singleton] at h
        subst h
        exact .inr (hn.lt q e).1
    · rcases e with rfl | e
      · exact s1
      · exact s2 q e
  have hvf : ∃ av cv, v = .slice av vals.length cv := by
    obtain ⟨ao, c, rfl, -⟩ := hv.iz
    exact ⟨ao, c, rfl⟩
  obtain ⟨av, cv, rfl⟩ := hvf
  clear hm hv hcl s1 s2 s3 he
  have t0 : (cols.length : Int) = (vals.length : Int) := by omega
  rw [t0] at c0
  have hvl100 : vals.length ≤ 48 := by omega
  have t5 : IntKind.i64.wrap ((rows.length : Int) + 1 - 1) = (rows.length : Int) := by rw [IntKind.wrap_i64]; omega
  clear t0 hl
  go_enter Try.func31, Try.ntmps31
  go_wp2_with fail
  refine (J.out _ (below_alloc w _)).mono ?_
  rintro e w1 ⟨rfl, hb1⟩
  have B1 : Below w.heap.size w w1 := below_on (below_alloc w _) hb1
  have hx1 : w1.heap[w.heap.size]? = some (.cells #[.int .i64 a, .int .i64 b] 32 (0, 0)) := (hb1.block _ (by simp)).trans (heap_alloc_new w _)
  obtain ⟨kx, hkx⟩ : ∃ k, k = w.heap.size := ⟨_, rfl⟩
  rw [← hkx] at hx1 ⊢
  have c1 := (HM.out.later B1).cell.2
  have t1 : ¬ (rows.length : Int) ≥ 200 := by omega
  have HX1 := hide hx1
  have HKX := hide hkx
  have HB1 := hide B1
  clear hx1 hkx B1 hb1 c0 J
  go_upto_region 7 with fail
  have CS : Hid (∀ W, Below w1.heap.size w1 W → W.cell? ⟨g, 1, none⟩ = some (.slice al rows.length cl) ∧ W.cell? ⟨kx, 0, none⟩ = some (.int .i64 a) ∧ W.cell? ⟨kx, 1, none⟩ = some (.int .i64 b)) := fun W hW => by
    have hk := (hW.block kx (lt_of_block HX1.out)).trans HX1.out
    exact ⟨(HM.out.later (below_on HB1.out hW)).cell.2, by rw [cell_of_row W kx _ _ 32 (0, 0) hk]; rfl, by rw [cell_of_row W kx _ _ 32 (0, 0) hk]; rfl⟩
  obtain ⟨-, x0, x1⟩ := CS.out w1 (Below.refl _ _)
  have d1 := fun o => (CS.out _ (below_on (below_drew w1) (below_alloc w1.drew o))).1
  have d2 := fun o => (CS.out _ (below_on (below_drew w1) (below_alloc w1.drew o))).2.1
  have d3 := fun o => (CS.out _ (below_on (below_drew w1) (below_alloc w1.drew o))).2.2
  have FZ : Hid (∀ o, Fz (w1.drew.alloc o) (.slice av vals.length cv) vals) := fun o => HV.out.later (below_on HB1.out (below_on (below_drew w1) (below_alloc _ _)))
  have L1 : Hid (∀ (o : Obj) (v' : Value) (w' : World), w'.ownsRow w1.heap.size 2 1 v' vals.length (zc vals) → (w1.drew.alloc o).grownBy w' (some w1.heap.size) → Hid (w'.ownsRow w.heap.size 2 1 v' vals.length (zc vals) ∧ Below w.heap.size w w' ∧ Below w1.heap.size w1 w') ∧ (w'.cell? ⟨g, 1, none⟩ = some (.slice al rows.length cl) ∧ w'.cell? ⟨kx, 0, none⟩ = some (.int .i64 a) ∧ w'.cell? ⟨kx, 1, none⟩ = some (.int .i64 b)) ∧ ∀ o, (w'.alloc o).cell? ⟨g, 1, none⟩ = some (.slice al rows.length cl) ∧ (w'.alloc o).cell? ⟨kx, 0, none⟩ = some (.int .i64 a) ∧ (w'.alloc o).cell? ⟨kx, 1, none⟩ = some (.int .i64 b)) := fun o v' w' h1 h2 => by
    have hb := ((below_on (below_drew w1) (below_alloc w1.drew o)).grown h2 (by simp) (by intro k hk; cases hk; simp))
    exact ⟨⟨own_lower h1 HB1.out.size, below_on HB1.out hb, hb⟩, CS.out w' hb, fun o => CS.out _ (below_on hb (below_alloc _ _))⟩
  have L2 : Hid (∀ (vn : Value) (W2 : World), Hid (W2.ownsRow w.heap.size 2 1 vn vals.length (zc vals) ∧ Below w.heap.size w W2 ∧ Below w1.heap.size w1 W2) → ∀ (o : Obj) (g9 c9 : Nat) (w' : World), w'.ownsRow 0 82 3 (.slice (some ⟨g9, 0, none⟩) (rows.length + 1) c9) (rows.length + 1) (rz rows vs ++ [.int .i64 a, .int .i64 b, vn]) → (W2.alloc o).grownBy w' (Value.slice al rows.length cl).ownBlock → ((Value.slice al rows.length cl).ownBlock = some g9 ∨ g9 = (W2.alloc o).heap.size) →
      Hid (Dt (w'.setCell ⟨g, 1, none⟩ (.slice (some ⟨g9, 0, none⟩) (rows.length + 1) c9)) (Nw w S) g (rows ++ [(a, b)]) (addRow cols vals) ∧ Mv w (w'.setCell ⟨g, 1, none⟩ (.slice (some ⟨g9, 0, none⟩) (rows.length + 1) c9)) S) ∧ (w'.cell? ⟨g, 1, none⟩ = some (.slice al rows.length cl) ∧ w'.cell? ⟨kx, 0, none⟩ = some (.int .i64 a) ∧ w'.cell? ⟨kx, 1, none⟩ = some (.int .i64 b)) ∧ w'.frozen? ⟨g, 1, none⟩ = false ∧ (w'.setCell ⟨g, 1, none⟩ (.slice (some ⟨g9, 0, none⟩) (rows.length + 1) c9)).cell? ⟨g, 1, none⟩ = some (.slice (some ⟨g9, 0, none⟩) (rows.length + 1) c9)) := fun vn W2 H o g9 c9 w' h1 h2 h3 => by
    have hsz := H.out.2.1.size
    have hsz1 := H.out.2.2.size
    have hb3 := below_alloc W2 o
    have hgl := HM.out.lt
    have hne : (Value.slice al rows.length cl).ownBlock ≠ some g := HM.out.2.2.2.1
    have hkl := lt_of_block HX1.out
    have hg' : w'.heap[g]? = some (.cells #[.int .i64 (cols.length : Int), .slice al rows.length cl] 69 (0, 0)) := (h2.block g (by simp; omega) (fun e => hne e.symm)).trans ((below_on H.out.2.1 hb3).block g hgl |>.trans HM.out.1)
    have hk' : w'.heap[kx]? = some (.cells #[.int .i64 a, .int .i64 b] 32 (0, 0)) := (h2.block kx (by simp; omega) (fun e => by have := (HM.out.2.1.lt kx e.symm).2; have := HKX.out; omega)).trans (((below_on H.out.2.2 hb3).block kx hkl).trans HX1.out)
    refine ⟨FIN.out vn _ W2 _ w' H.out.2.1 H.out.1 hb3 h1 h2 ?_, ⟨by rw [cell_of_row w' g _ _ 69 (0, 0) hg']; rfl, by rw [cell_of_row w' kx _ _ 32 (0, 0) hk']; rfl, by rw [cell_of_row w' kx _ _ 32 (0, 0) hk']; rfl⟩, frozen_of_row w' g _ _ 69 hg', by rw [cell_of_row _ g _ _ 69 (0, 0) (heap_setCell_same w' g 1 _ 69 _ hg')]; rfl⟩
    rcases h3 with h | h
    · exact .inl (h.symm ▸ rfl)
    · exact .inr (by rw [h]; rfl)
  have HO1 : Hid (∀ W, Below w.heap.size w W → W.ownsRow 0 82 3 (.slice al rows.length cl) rows.length (rz rows vs)) := fun W hW => own_later HM.out.2.1 hW
  have HSM : rows.length + 1 ≤ 200 := by omega
  clear FIN HM HV HX1 HB1 HKX
  refine wp_region_noPanic ?_
  refine wp_region_late (J := fun i => i != 14) (S := fun W => W.cell? ⟨g, 1, none⟩ = some (.slice al rows.length cl) ∧ W.cell? ⟨kx, 0, none⟩ = some (.int .i64 a) ∧ W.cell? ⟨kx, 1, none⟩ = some (.int .i64 b)) (by kernel_rfl) (CS.out _ (below_drew w1)) (fun hHeld => ?_)
  refine' wpAnyJ_takeW (i := 0) (oi := { dst := some 25, op := Op.move (Operand.tmp 0), type := 60, pos := "table.go:37", after := #[], guard := none }) (v := _) rfl (by kernel_rfl) (by kernel_rfl) (by kernel_rfl) (fun _ _ _ h => h) (Or.inl ⟨by rfl, ?hyA1⟩) ?reA1
  case hyA1 => (intro W hSw; (try dsimp only at hSw); go_simp; try with_reducible rfl)
  try simp only [Act.put, List.setIfInBounds_toArray, List.set_cons_zero, List.set_cons_succ]
  refine' wpAnyJ_takeW (i := 1) (oi := { dst := some 26, op := Op.move (Operand.tmp 0), type := 60, pos := "table.go:37", after := #[], guard := none }) (v := _) rfl (by kernel_rfl) (by kernel_rfl) (by kernel_rfl) (fun _ _ _ h => h) (Or.inl ⟨by rfl, ?hyA2⟩) ?reA2
  case hyA2 => (intro W hSw; (try dsimp only at hSw); go_simp; try with_reducible rfl)
  try simp only [Act.put, List.setIfInBounds_toArray, List.set_cons_zero, List.set_cons_succ]
  refine' wpAnyJ_takeW (i := 2) (oi := { dst := some 27, op := Op.nilCheck (Operand.tmp 26), type := 0, pos := "table.go:37", after := #[{ on := 1, ground := Ground.data }], guard := none }) (v := _) rfl (by kernel_rfl) (by kernel_rfl) (by kernel_rfl) (fun _ _ _ h => h) (Or.inl ⟨by rfl, ?hyA3⟩) ?reA3
  case hyA3 => (intro W hSw; (try dsimp only at hSw); go_simp; try with_reducible rfl)
  try simp only [Act.put, List.setIfInBounds_toArray, List.set_cons_zero, List.set_cons_succ]
  refine' wpAnyJ_takeW (i := 3) (oi := { dst := some 28, op := Op.fieldAddr 69 (Operand.tmp 27) 1, type := 0, pos := "table.go:37", after := #[{ on := 2, ground := Ground.data }], guard := none }) (v := _) rfl (by kernel_rfl) (by kernel_rfl) (by kernel_rfl) (fun _ _ _ h => h) (Or.inl ⟨by rfl, ?hyA4⟩) ?reA4
  case hyA4 => (intro W hSw; (try dsimp only at hSw); go_simp; try with_reducible rfl)
  try simp only [Act.put, List.setIfInBounds_toArray, List.set_cons_zero, List.set_cons_succ]
  refine' wpAnyJ_take (i := 4) (oi := { dst := some 29, op := Op.load 67 (Operand.tmp 28), type := 67, pos := "table.go:37", after := #[{ on := 3, ground := Ground.data }], guard := none }) (v := _) rfl (by kernel_rfl) (by kernel_rfl) (by kernel_rfl) (by kernel_rfl) (fun _ _ _ h => h) (Or.inl ⟨by rfl, ?hyA5⟩) (by assumption) ?reA5
  case hyA5 => (intro W hSw; (try dsimp only at hSw); go_simp; try with_reducible rfl)
  try simp only [Act.put, List.setIfInBounds_toArray, List.set_cons_zero, List.set_cons_succ]
  refine' wpAnyJ_take (i := 5) (oi := { dst := some 30, op := Op.load 32 (Operand.tmp 4), type := 32, pos := "table.go:37", after := #[], guard := none }) (v := _) rfl (by kernel_rfl) (by kernel_rfl) (by kernel_rfl) (by kernel_rfl) (fun _ _ _ h => h) (Or.inl ⟨by rfl, ?hyA6⟩) (by assumption) ?reA6
  case hyA6 => (intro W hSw; (try dsimp only at hSw); go_simp; try with_reducible rfl)
  try simp only [Act.put, List.setIfInBounds_toArray, List.set_cons_zero, List.set_cons_succ]
  refine' wpAnyJ_takeW (i := 7) (oi := { dst := some 32, op := Op.move (Operand.tmp 2), type := 27, pos := "table.go:37", after := #[], guard := none }) (v := _) rfl (by kernel_rfl) (by kernel_rfl) (by kernel_rfl) (fun _ _ _ h => h) (Or.inl ⟨by rfl, ?hyA7⟩) ?reA7
  case hyA7 => (intro W hSw; (try dsimp only at hSw); go_simp; try with_reducible rfl)
  try simp only [Act.put, List.setIfInBounds_toArray, List.set_cons_zero, List.set_cons_succ]
  refine wpAnyJ_ready (rs := [6]) (by kernel_rfl) (by simp) ?_
  refine AllReadyJ.cons (o := { dst := some 31, op := Op.buildSlice 27 0 #[], type := 27, pos := "table.go:37", after := #[], guard := none }) rfl (fun K hK => ?_) AllReadyJ.nil
  go_simp
  refine hK.out _ _ (fun _ _ => CS.out _ (below_on (below_drew w1) (below_alloc _ _))) ?_
  clear hK K
  try simp only [Act.put, List.setIfInBounds_toArray, List.set_cons_zero, List.set_cons_succ]
  refine wpAnyJ_ready (rs := [8]) (by kernel_rfl) (by simp) ?_
  refine AllReadyJ.cons (o := { dst := some 33, op := Op.call { callee := Callee.builtin Builtin.append, args := #[Operand.tmp 31, Operand.tmp 32], argTypes := #[27, 27] }, type := 27, pos := "table.go:37", after := #[{ on := 6, ground := Ground.data }, { on := 7, ground := Ground.data }], guard := none }) rfl (fun K hK => ?_) AllReadyJ.nil
  refine step_append_fz _ rfl (.tmp 31) (.tmp 32) rfl w1.heap.size (.slice (some ⟨w1.heap.size, 0, none⟩) 0 0) (.slice av vals.length cv) [] vals (by simp [Act.eval]) (World.ownsRow_lit w1.drew #[] 0 (Nat.le_refl _) (Nat.zero_le _) rfl) (by simp [Act.eval]) (FZ.out _) (by simp; omega) (by simp) ?_
  intro vn w2 h1 h2 h3
  obtain ⟨HF, ZZ, HY⟩ := L1.out _ vn w2 h1 h2
  obtain ⟨an, cn, rfl⟩ := own_len HF.out.1
  clear h1 h2 h3
  refine hK.out _ _ (fun _ _ => ZZ) ?_
  clear hK K
  try simp only [Act.put, List.setIfInBounds_toArray, List.set_cons_zero, List.set_cons_succ]
  refine' wpAnyJ_takeW (i := 9) (oi := { dst := some 34, op := Op.build 82 #[(0, Operand.tmp 30), (1, Operand.tmp 33)], type := 82, pos := "table.go:37", after := #[{ on := 5, ground := Ground.data }, { on := 8, ground := Ground.data }], guard := none }) (v := _) rfl (by kernel_rfl) (by kernel_rfl) (by kernel_rfl) (fun _ _ _ h => h) (Or.inl ⟨by rfl, ?hyA8⟩) ?reA8
  case hyA8 => (intro W hSw; (try dsimp only at hSw); go_simp; try with_reducible rfl)
  try simp only [Act.put, List.setIfInBounds_toArray, List.set_cons_zero, List.set_cons_succ]
  refine wpAnyJ_ready (rs := [10]) (by kernel_rfl) (by simp) ?_
  refine AllReadyJ.cons (o := { dst := some 35, op := Op.buildSlice 67 1 #[(0, Operand.tmp 34)], type := 67, pos := "table.go:37", after := #[{ on := 9, ground := Ground.data }], guard := none }) rfl (fun K hK => ?_) AllReadyJ.nil
  go_simp
  refine hK.out _ _ (fun _ _ => HY _) ?_
  clear hK K
  try simp only [Act.put, List.setIfInBounds_toArray, List.set_cons_zero, List.set_cons_succ]
  refine wpAnyJ_ready (rs := [11]) (by kernel_rfl) (by simp) ?_
  refine AllReadyJ.cons (o := { dst := some 36, op := Op.call { callee := Callee.builtin Builtin.append, args := #[Operand.tmp 29, Operand.tmp 35], argTypes := #[67, 67] }, type := 67, pos := "table.go:37", after := #[{ on := 4, ground := Ground.data }, { on := 10, ground := Ground.data }, { on := 8, ground := Ground.chain }], guard := none }) rfl (fun K hK => ?_) AllReadyJ.nil
  refine step_append_lies _ rfl (.tmp 29) (.tmp 35) 67 rfl 0 82 i8 (.agg #[.int .i64 0, .int .i64 0, .slice none 0 0]) 3 40 Try.underlying67 hi8 hz0 hz1 hz2 rfl (by decide) (.slice al rows.length cl) rows.length (rz rows vs) (by simp [Act.eval]) (HO1.out _ (below_on HF.out.2.1 (below_alloc _ _))) ⟨w2.heap.size, 0, none⟩ 1 1 [.int .i64 a, .int .i64 b, .slice an vals.length cn] (by simp [Act.eval]) rfl (by intro j u hj; match j, hj with | 0, hj => simp at hj; subst hj; simp [Addr.add] | 1, hj => simp at hj; subst hj; simp [Addr.add] | 2, hj => simp at hj; subst hj; simp [Addr.add]) (by intro u hu; simp at hu; rcases hu with rfl | rfl | rfl <;> rfl) (by omega) (by unfold maxLen; omega) (by omega) (Nat.zero_le _) _ rfl ?_
  intro g9 c9 w3 h1 h2 h3 _
  obtain ⟨HG, VV, v4, q1⟩ := L2.out _ w2 HF _ g9 c9 w3 h1 h2 h3
  clear h1 h2 h3
  refine hK.out _ _ (fun _ _ => VV) ?_
  clear hK K
  try simp only [Act.put, List.setIfInBounds_toArray, List.set_cons_zero, List.set_cons_succ]
  refine' wpAnyJ_takeW (i := 12) (oi := { dst := some 37, op := Op.nilCheck (Operand.tmp 25), type := 0, pos := "table.go:37", after := #[{ on := 0, ground := Ground.data }, { on := 0, ground := Ground.phase }, { on := 1, ground := Ground.phase }, { on := 2, ground := Ground.phase }, { on := 3, ground := Ground.phase }, { on := 4, ground := Ground.phase }, { on := 5, ground := Ground.phase }, { on := 6, ground := Ground.phase }, { on := 7, ground := Ground.phase }, { on := 8, ground := Ground.phase }, { on := 9, ground := Ground.phase }, { on := 10, ground := Ground.phase }, { on := 11, ground := Ground.phase }], guard := none }) (v := _) rfl (by kernel_rfl) (by kernel_rfl) (by kernel_rfl) (fun _ _ _ h => h) (Or.inl ⟨by rfl, ?hyA9⟩) ?reA9
  case hyA9 => (intro W hSw; (try dsimp only at hSw); go_simp; try with_reducible rfl)
  try simp only [Act.put, List.setIfInBounds_toArray, List.set_cons_zero, List.set_cons_succ]
  refine' wpAnyJ_takeW (i := 13) (oi := { dst := some 38, op := Op.fieldAddr 69 (Operand.tmp 37) 1, type := 0, pos := "table.go:37", after := #[{ on := 12, ground := Ground.data }, { on := 0, ground := Ground.phase }, { on := 1, ground := Ground.phase }, { on := 2, ground := Ground.phase }, { on := 3, ground := Ground.phase }, { on := 4, ground := Ground.phase }, { on := 5, ground := Ground.phase }, { on := 6, ground := Ground.phase }, { on := 7, ground := Ground.phase }, { on := 8, ground := Ground.phase }, { on := 9, ground := Ground.phase }, { on := 10, ground := Ground.phase }, { on := 11, ground := Ground.phase }], guard := none }) (v := _) rfl (by kernel_rfl) (by kernel_rfl) (by kernel_rfl) (fun _ _ _ h => h) (Or.inl ⟨by rfl, ?hyA10⟩) ?reA10
  case hyA10 => (intro W hSw; (try dsimp only at hSw); go_simp; try with_reducible rfl)
  try simp only [Act.put, List.setIfInBounds_toArray, List.set_cons_zero, List.set_cons_succ]
  refine wpAnyJ_ready (rs := [14]) (by kernel_rfl) (by simp) ?_
  refine AllReadyJ.cons (o := { dst := none, op := Op.store 67 (Operand.tmp 38) (Operand.tmp 36), type := 0, pos := "table.go:37", after := #[{ on := 13, ground := Ground.data }, { on := 11, ground := Ground.data }, { on := 11, ground := Ground.chain }, { on := 0, ground := Ground.phase }, { on := 1, ground := Ground.phase }, { on := 2, ground := Ground.phase }, { on := 3, ground := Ground.phase }, { on := 4, ground := Ground.phase }, { on := 5, ground := Ground.phase }, { on := 6, ground := Ground.phase }, { on := 7, ground := Ground.phase }, { on := 8, ground := Ground.phase }, { on := 9, ground := Ground.phase }, { on := 10, ground := Ground.phase }, { on := 11, ground := Ground.phase }], guard := none }) rfl (fun K hK => ?_) AllReadyJ.nil
  obtain ⟨v1, v2, v3⟩ := VV
  go_simp
  refine hK.out _ _ (fun h => absurd h (by decide)) ?_
  clear hK K
  try simp only [Act.put, List.setIfInBounds_toArray, List.set_cons_zero, List.set_cons_succ]
  refine wpAnyJ_done (by kernel_rfl) ?_ _
  refine NoPanic.normal ?_
  obtain ⟨w4, hw4⟩ : ∃ X, X = w3.setCell ⟨g, 1, none⟩ (.slice (some ⟨g9, 0, none⟩) (rows.length + 1) c9) := ⟨_, rfl⟩
  rw [← hw4] at HG q1 ⊢
  clear hw4 v1 v2 v3 v4 L1 L2 HF HY ZZ
  go_wp2_with fail
  go_ret2
  exact ⟨by go_num, HG.out⟩
end
end Go.Proofs.Ytlnjphfkinajdaa
