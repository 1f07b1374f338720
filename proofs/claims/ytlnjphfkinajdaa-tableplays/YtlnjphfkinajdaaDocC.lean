/-
  The document's Clone.
-/
import Derived.Test.YtlnjphfkinajdaaDocA
namespace Go.Proofs.Ytlnjphfkinajdaa
open Go.RowKit
section
variable {w : World} {S : Nat → Prop} {g : Nat} {rows : List (Int × Int)} {cols : List (List Int)}
set_option maxHeartbeats 40000000 in
set_option maxRecDepth 1000000 in
theorem dclone_any (h : Dt w S g rows cols) : Calls Try.prog 23 #[.pointer (some ⟨g, 0, none⟩)] w fun e w' => ∃ g', e = .returned (.pointer (some ⟨g', 0, none⟩)) ∧ Dt w' (fun k => w.heap.size ≤ k) g' rows cols ∧ Below w.heap.size w w' := by
  obtain ⟨i8, hi8, hz0, hz1, hz2⟩ := info_parts info82
  obtain ⟨vl, vs, hm, hcl, -, hr2, hc2⟩ := h
  obtain ⟨ao, c, rfl⟩ := own_len hm.2.1
  have hvl := hm.2.2.1
  have HM := hide hm
  obtain ⟨c0, -⟩ := hm.cell
  clear hm
  go_enter Try.func23, Try.ntmps23
  go_upto_block 0 with fail
  obtain ⟨w1, hw1⟩ : ∃ X, X = w.alloc (.cells #[.int .i64 (cols.length : Int), .slice none 0 0] 69) := ⟨_, rfl⟩
  have B1 : Below w.heap.size w w1 := hw1 ▸ below_alloc w _
  have hx1 : w1.heap[w.heap.size]? = some (.cells #[.int .i64 (cols.length : Int), .slice none 0 0] 69 (0, 0)) := hw1 ▸ heap_alloc_new w _
  have hs1 : w1.heap.size = w.heap.size + 1 := by rw [hw1]; simp
  rw [← hw1]
  obtain ⟨kc, hkc⟩ : ∃ k, k = w.heap.size := ⟨_, rfl⟩
  rw [← hkc] at hx1 ⊢
  have h0 : Dm w1 kc cols.length (.slice none 0 0) [] (rows.take 0) (rowOf cols) := ⟨hx1, ⟨rfl, .inl ⟨rfl, by simp⟩⟩, by simp, by simp [Value.ownBlock], fun j hj => by simp at hj, fun i j hi => by simp at hi⟩
  have HKC := hide hkc
  have HS1 := hide hs1
  have HB1 := hide B1
  have H0 := hide h0
  clear hw1 hx1 hkc hs1 B1 h0 c0
  go_wp2_with fail
  go_loopw [4] (fun v4 wr => ∃ (i : Nat) (v2 : Value) (vs2 : List Value), i ≤ rows.length ∧ v4 = .int .i64 (i : Int) ∧ Hid (Dm wr kc cols.length v2 vs2 (rows.take i) (rowOf cols)) ∧ Hid (Below w.heap.size w wr) ∧ Hid (w1.heap.size ≤ wr.heap.size ∧ (∀ q, v2.ownBlock = some q → w1.heap.size ≤ q) ∧ ∀ u ∈ vs2, ∀ q, u.ownBlock = some q → w1.heap.size ≤ q)) (fun v4 _ => rows.length - (intOf v4).toNat)
  case atStart => exact ⟨0, .slice none 0 0, [], Nat.zero_le _, rfl, H0, HB1, ⟨Nat.le_refl _, fun q e => by simp [Value.ownBlock] at e, fun u hu => by cases hu⟩⟩
  case round =>
    obtain ⟨i, v2, vs2, hil, rfl, HD, HB, HN⟩ := hrel
    clear H0
    have c1 := (HM.out.later HB.out).cell.2
    have hti : (rows.take i).length = i := by rw [List.length_take]; omega
    by_cases hlt : i < rows.length
    · have t1 : (i : Int) < (rows.length : Int) := by omega
      have hP := HM.out.later HB.out
      obtain ⟨gl, c', ee, -, -⟩ := own_form hP.2.1 (by omega)
      simp only [Value.slice.injEq] at ee
      obtain ⟨rfl, -, rfl⟩ := ee
      have ho2 := HD.out.2.1
      rw [hti] at ho2
      obtain ⟨al2, c2, rfl⟩ := own_len ho2
      have hrow := (HM.out.2.2.2.2.1 i (by omega)).1
      obtain ⟨p1, p2, hp⟩ : ∃ p q, rows[i] = (p, q) := ⟨_, _, rfl⟩
      obtain ⟨vi, hvi⟩ : ∃ v, v = vs[i]'(by omega) := ⟨_, rfl⟩
      rw [← hvi] at hrow
      obtain ⟨R, hR⟩ : ∃ R, R = rowOf cols i := ⟨_, rfl⟩
      rw [← hR] at hrow
      have hRl : R.length = cols.length := by rw [hR, rowOf_len]
      obtain ⟨nR, hnR⟩ : ∃ n, n = R.length := ⟨_, rfl⟩
      have HNR := hide hnR
      have HRL := hide hRl
      have CR : Hid (∀ W, Below wr.heap.size wr W → W.cell? ⟨kc, 1, none⟩ = some (.slice al2 i c2)) := fun W hW => (HD.out.later hW).cell.2
      have CS : Hid (∀ W, Below wr.heap.size wr W → W.cell? ⟨kc, 1, none⟩ = some (.slice al2 i c2) ∧ W.cell? ⟨g, 1, none⟩ = some (.slice (some ⟨gl, 0, none⟩) rows.length c) ∧ W.cell? ⟨gl, i * 3, none⟩ = some (.int .i64 p1) ∧ W.cell? ⟨gl, i * 3 + 1, none⟩ = some (.int .i64 p2) ∧ W.cell? ⟨gl, i * 3 + 2, none⟩ = some vi) := fun W hW => by
        have hQ := HM.out.later (below_on HB.out hW)
        have := own_rows hQ.2.1 hvl i hlt
        rw [hp, ← hvi] at this
        exact ⟨CR.out W hW, hQ.cell.2, this⟩
      have FZ : Hid (∀ o, Fz (wr.drew.alloc o) vi R) := fun o => (own_fz hrow).later (below_on HB.out (below_on (below_drew wr) (below_alloc _ _)))
      have L1 : Hid (∀ (o : Obj) (v' : Value) (w' : World), w'.ownsRow wr.heap.size 2 1 v' R.length (zc R) → (wr.drew.alloc o).grownBy w' (some wr.heap.size) → Hid (w'.ownsRow wr.heap.size 2 1 v' nR (zc R) ∧ Below w.heap.size w w' ∧ Below wr.heap.size wr w') ∧ (w'.cell? ⟨kc, 1, none⟩ = some (.slice al2 i c2) ∧ w'.cell? ⟨g, 1, none⟩ = some (.slice (some ⟨gl, 0, none⟩) rows.length c) ∧ w'.cell? ⟨gl, i * 3, none⟩ = some (.int .i64 p1) ∧ w'.cell? ⟨gl, i * 3 + 1, none⟩ = some (.int .i64 p2) ∧ w'.cell? ⟨gl, i * 3 + 2, none⟩ = some vi) ∧ ∀ o, (w'.alloc o).cell? ⟨kc, 1, none⟩ = some (.slice al2 i c2) ∧ (w'.alloc o).cell? ⟨g, 1, none⟩ = some (.slice (some ⟨gl, 0, none⟩) rows.length c) ∧ (w'.alloc o).cell? ⟨gl, i * 3, none⟩ = some (.int .i64 p1) ∧ (w'.alloc o).cell? ⟨gl, i * 3 + 1, none⟩ = some (.int .i64 p2) ∧ (w'.alloc o).cell? ⟨gl, i * 3 + 2, none⟩ = some vi) := fun o v' w' h1 h2 => by
        have hb := ((below_on (below_drew wr) (below_alloc wr.drew o)).grown h2 (by simp) (by intro k hk; cases hk; simp))
        exact ⟨⟨by rw [HNR.out]; exact h1, below_on HB.out hb, hb⟩, CS.out w' hb, fun o => CS.out _ (below_on hb (below_alloc _ _))⟩
      have HO1 : Hid (∀ W, Below w.heap.size w W → Below wr.heap.size wr W → W.ownsRow 0 82 3 (.slice al2 i c2) i (rz (rows.take i) vs2)) := fun W _ hW => own_later ho2 hW
      have HO2 := HO1
      clear HO1
      have HO1 : Hid (∀ W, Below wr.heap.size wr W → W.ownsRow 0 82 3 (.slice al2 i c2) i (rz (rows.take i) vs2)) := fun W hW => own_later ho2 hW
      have L2 : Hid (∀ (vn : Value) (W2 : World), Hid (W2.ownsRow wr.heap.size 2 1 vn nR (zc R) ∧ Below w.heap.size w W2 ∧ Below wr.heap.size wr W2) → ∀ (o : Obj) (g9 c9 : Nat) (w' : World), w'.ownsRow 0 82 3 (.slice (some ⟨g9, 0, none⟩) (i + 1) c9) (i + 1) (rz (rows.take i) vs2 ++ [.int .i64 p1, .int .i64 p2, vn]) → (W2.alloc o).grownBy w' (Value.slice al2 i c2).ownBlock → ((Value.slice al2 i c2).ownBlock = some g9 ∨ g9 = (W2.alloc o).heap.size) →
          Hid (Dm (w'.setCell ⟨kc, 1, none⟩ (.slice (some ⟨g9, 0, none⟩) (i + 1) c9)) kc cols.length (.slice (some ⟨g9, 0, none⟩) (i + 1) c9) (vs2 ++ [vn]) (rows.take (i + 1)) (rowOf cols) ∧ Below w.heap.size w (w'.setCell ⟨kc, 1, none⟩ (.slice (some ⟨g9, 0, none⟩) (i + 1) c9)) ∧ w1.heap.size ≤ (w'.setCell ⟨kc, 1, none⟩ (.slice (some ⟨g9, 0, none⟩) (i + 1) c9)).heap.size ∧ w1.heap.size ≤ g9 ∧ ∀ u ∈ vs2 ++ [vn], ∀ q, u.ownBlock = some q → w1.heap.size ≤ q) ∧ (w'.cell? ⟨kc, 1, none⟩ = some (.slice al2 i c2) ∧ w'.cell? ⟨g, 1, none⟩ = some (.slice (some ⟨gl, 0, none⟩) rows.length c) ∧ w'.cell? ⟨gl, i * 3, none⟩ = some (.int .i64 p1) ∧ w'.cell? ⟨gl, i * 3 + 1, none⟩ = some (.int .i64 p2) ∧ w'.cell? ⟨gl, i * 3 + 2, none⟩ = some vi) ∧ w'.frozen? ⟨kc, 1, none⟩ = false) := fun vn W2 H o g9 c9 w' h1 h2 h3 => by
        have hsz := H.out.2.1.size
        have hsz1 := H.out.2.2.size
        have hb3 := below_alloc W2 o
        have hs0 := HS1.out
        have hk0 := HKC.out
        have ha : (Value.slice (some ⟨g9, 0, none⟩) (i + 1) c9).ownBlock = (Value.slice al2 i c2).ownBlock ∨ (Value.slice (some ⟨g9, 0, none⟩) (i + 1) c9).ownBlock = some (W2.alloc o).heap.size := by
          rcases h3 with h | h
          · exact .inl (h.symm ▸ rfl)
          · exact .inr (by rw [h]; rfl)
        have hn : W2.ownsRow wr.heap.size 2 1 vn R.length (zc R) := by have := H.out.1; rw [HNR.out] at this; exact this
        obtain ⟨q1, q2⟩ := HD.out.push (v' := .slice (some ⟨g9, 0, none⟩) (i + 1) c9) (W' := w') H.out.2.2 hn hb3 (by rw [hti]; exact h1) h2 ha
        have hbl : ∀ q, (q = kc ∨ (Value.slice al2 i c2).ownBlock = some q) → w.heap.size ≤ q := fun q e => by
          rcases e with rfl | e
          · omega
          · have := HN.out.2.1 q e; omega
        have hbw : Below w.heap.size w w' := (below_on H.out.2.1 hb3).grown h2 (by simp; omega) (fun q e => hbl q (.inr e))
        have hkc' : w'.heap[kc]? = some (.cells #[.int .i64 (cols.length : Int), .slice al2 i c2] 69 (0, 0)) := (h2.block kc (by have := HD.out.lt; simp; omega) (fun e => HD.out.2.2.2.1 e.symm)).trans (((below_on H.out.2.2 hb3).block kc HD.out.lt).trans HD.out.1)
        have hQ := HM.out.later hbw
        have hor := own_rows hQ.2.1 hvl i hlt
        rw [hp, ← hvi] at hor
        refine ⟨⟨?_, HB.out.trans (q2.below HB.out.size hbl), ?_, ?_, fun u hu q e => ?_⟩, ⟨by rw [cell_of_row w' kc _ _ 69 (0, 0) hkc']; rfl, hQ.cell.2, hor⟩, frozen_of_row w' kc _ _ 69 hkc'⟩
        · have e1 : rows.take (i + 1) = rows.take i ++ [(p1, p2)] := by rw [List.take_add_one, List.getElem?_eq_getElem hlt, hp]; rfl
          rw [e1]
          refine q1.to (fun j hj => ?_)
          rw [hti]
          by_cases e2 : j < i
          · rw [if_pos e2]
          · rw [if_neg e2, hR]
            congr 1
            simp at hj
            omega
        · have h2s := h2.size
          have := HN.out.1
          have := hb3.size
          simp
          omega
        · rcases h3 with h | h
          · exact HN.out.2.1 g9 h
          · have := HN.out.1; rw [h]; simp; omega
        · rcases List.mem_append.1 hu with h | h
          · exact HN.out.2.2 u h q e
          · simp only [List.mem_singleton] at h
            subst h
            have := (hn.lt q e).1
            have := HN.out.1
            omega
      have hn200 : nR ≤ 48 := by have := HNR.out; have := HRL.out; omega
      have hR48 : R.length ≤ 48 := by have := HNR.out; omega
      clear hrow hP ho2 hR hvi hp hRl hnR HO2 CR
      go_upto_region 5 with fail
      refine wp_region_noPanic ?_
      refine wp_region_late (J := fun i => i != 28) (S := fun W => W.cell? ⟨kc, 1, none⟩ = some (.slice al2 i c2) ∧ W.cell? ⟨g, 1, none⟩ = some (.slice (some ⟨gl, 0, none⟩) rows.length c) ∧ W.cell? ⟨gl, i * 3, none⟩ = some (.int .i64 p1) ∧ W.cell? ⟨gl, i * 3 + 1, none⟩ = some (.int .i64 p2) ∧ W.cell? ⟨gl, i * 3 + 2, none⟩ = some vi) (by kernel_rfl) (CS.out _ (below_drew wr)) (fun hHeld => ?_)
      refine' wpAnyJ_takeW (i := 0) (oi := { dst := some 20, op := Op.move (Operand.tmp 3), type := 60, pos := "table.go:117", after := #[], guard := none }) (v := _) rfl (by kernel_rfl) (by kernel_rfl) (by kernel_rfl) (fun _ _ _ h => h) (Or.inl ⟨by rfl, ?hyA1⟩) ?reA1
      case hyA1 => (intro W hSw; (try dsimp only at hSw); go_simp; try with_reducible rfl)
      try simp only [Act.put, List.setIfInBounds_toArray, List.set_cons_zero, List.set_cons_succ]
      refine' wpAnyJ_takeW (i := 1) (oi := { dst := some 21, op := Op.move (Operand.tmp 3), type := 60, pos := "table.go:117", after := #[], guard := none }) (v := _) rfl (by kernel_rfl) (by kernel_rfl) (by kernel_rfl) (fun _ _ _ h => h) (Or.inl ⟨by rfl, ?hyA2⟩) ?reA2
      case hyA2 => (intro W hSw; (try dsimp only at hSw); go_simp; try with_reducible rfl)
      try simp only [Act.put, List.setIfInBounds_toArray, List.set_cons_zero, List.set_cons_succ]
      refine' wpAnyJ_takeW (i := 2) (oi := { dst := some 22, op := Op.nilCheck (Operand.tmp 21), type := 0, pos := "table.go:117", after := #[{ on := 1, ground := Ground.data }], guard := none }) (v := _) rfl (by kernel_rfl) (by kernel_rfl) (by kernel_rfl) (fun _ _ _ h => h) (Or.inl ⟨by rfl, ?hyA3⟩) ?reA3
      case hyA3 => (intro W hSw; (try dsimp only at hSw); go_simp; try with_reducible rfl)
      try simp only [Act.put, List.setIfInBounds_toArray, List.set_cons_zero, List.set_cons_succ]
      refine' wpAnyJ_takeW (i := 3) (oi := { dst := some 23, op := Op.fieldAddr 69 (Operand.tmp 22) 1, type := 0, pos := "table.go:117", after := #[{ on := 2, ground := Ground.data }], guard := none }) (v := _) rfl (by kernel_rfl) (by kernel_rfl) (by kernel_rfl) (fun _ _ _ h => h) (Or.inl ⟨by rfl, ?hyA4⟩) ?reA4
      case hyA4 => (intro W hSw; (try dsimp only at hSw); go_simp; try with_reducible rfl)
      try simp only [Act.put, List.setIfInBounds_toArray, List.set_cons_zero, List.set_cons_succ]
      refine' wpAnyJ_take (i := 4) (oi := { dst := some 24, op := Op.load 67 (Operand.tmp 23), type := 67, pos := "table.go:117", after := #[{ on := 3, ground := Ground.data }], guard := none }) (v := _) rfl (by kernel_rfl) (by kernel_rfl) (by kernel_rfl) (by kernel_rfl) (fun _ _ _ h => h) (Or.inl ⟨by rfl, ?hyA5⟩) (by assumption) ?reA5
      case hyA5 => (intro W hSw; (try dsimp only at hSw); go_simp; try with_reducible rfl)
      try simp only [Act.put, List.setIfInBounds_toArray, List.set_cons_zero, List.set_cons_succ]
      refine' wpAnyJ_takeW (i := 5) (oi := { dst := some 25, op := Op.move (Operand.tmp 0), type := 60, pos := "table.go:117", after := #[], guard := none }) (v := _) rfl (by kernel_rfl) (by kernel_rfl) (by kernel_rfl) (fun _ _ _ h => h) (Or.inl ⟨by rfl, ?hyA6⟩) ?reA6
      case hyA6 => (intro W hSw; (try dsimp only at hSw); go_simp; try with_reducible rfl)
      try simp only [Act.put, List.setIfInBounds_toArray, List.set_cons_zero, List.set_cons_succ]
      refine' wpAnyJ_takeW (i := 6) (oi := { dst := some 26, op := Op.nilCheck (Operand.tmp 25), type := 0, pos := "table.go:117", after := #[{ on := 5, ground := Ground.data }], guard := none }) (v := _) rfl (by kernel_rfl) (by kernel_rfl) (by kernel_rfl) (fun _ _ _ h => h) (Or.inl ⟨by rfl, ?hyA7⟩) ?reA7
      case hyA7 => (intro W hSw; (try dsimp only at hSw); go_simp; try with_reducible rfl)
      try simp only [Act.put, List.setIfInBounds_toArray, List.set_cons_zero, List.set_cons_succ]
      refine' wpAnyJ_takeW (i := 7) (oi := { dst := some 27, op := Op.fieldAddr 69 (Operand.tmp 26) 1, type := 0, pos := "table.go:117", after := #[{ on := 6, ground := Ground.data }], guard := none }) (v := _) rfl (by kernel_rfl) (by kernel_rfl) (by kernel_rfl) (fun _ _ _ h => h) (Or.inl ⟨by rfl, ?hyA8⟩) ?reA8
      case hyA8 => (intro W hSw; (try dsimp only at hSw); go_simp; try with_reducible rfl)
      try simp only [Act.put, List.setIfInBounds_toArray, List.set_cons_zero, List.set_cons_succ]
      refine' wpAnyJ_take (i := 8) (oi := { dst := some 28, op := Op.load 67 (Operand.tmp 27), type := 67, pos := "table.go:117", after := #[{ on := 7, ground := Ground.data }], guard := none }) (v := _) rfl (by kernel_rfl) (by kernel_rfl) (by kernel_rfl) (by kernel_rfl) (fun _ _ _ h => h) (Or.inl ⟨by rfl, ?hyA9⟩) (by assumption) ?reA9
      case hyA9 => (intro W hSw; (try dsimp only at hSw); go_simp; try with_reducible rfl)
      try simp only [Act.put, List.setIfInBounds_toArray, List.set_cons_zero, List.set_cons_succ]
      refine' wpAnyJ_takeW (i := 9) (oi := { dst := some 29, op := Op.move (Operand.tmp 4), type := 3, pos := "table.go:117", after := #[], guard := none }) (v := _) rfl (by kernel_rfl) (by kernel_rfl) (by kernel_rfl) (fun _ _ _ h => h) (Or.inl ⟨by rfl, ?hyA10⟩) ?reA10
      case hyA10 => (intro W hSw; (try dsimp only at hSw); go_simp; try with_reducible rfl)
      try simp only [Act.put, List.setIfInBounds_toArray, List.set_cons_zero, List.set_cons_succ]
      refine' wpAnyJ_takeW (i := 10) (oi := { dst := some 30, op := Op.indexAddr 67 (Operand.tmp 28) (Operand.tmp 29), type := 0, pos := "table.go:117", after := #[{ on := 8, ground := Ground.data }, { on := 9, ground := Ground.data }], guard := none }) (v := _) rfl (by kernel_rfl) (by kernel_rfl) (by kernel_rfl) (fun _ _ _ h => h) (Or.inl ⟨by rfl, ?hyA11⟩) ?reA11
      case hyA11 => (intro W hSw; (try dsimp only at hSw); go_simp; try with_reducible rfl)
      try simp only [Act.put, List.setIfInBounds_toArray, List.set_cons_zero, List.set_cons_succ]
      refine' wpAnyJ_takeW (i := 11) (oi := { dst := some 31, op := Op.fieldAddr 82 (Operand.tmp 30) 0, type := 0, pos := "table.go:117", after := #[{ on := 10, ground := Ground.data }], guard := none }) (v := _) rfl (by kernel_rfl) (by kernel_rfl) (by kernel_rfl) (fun _ _ _ h => h) (Or.inl ⟨by rfl, ?hyA12⟩) ?reA12
      case hyA12 => (intro W hSw; (try dsimp only at hSw); go_simp; try with_reducible rfl)
      try simp only [Act.put, List.setIfInBounds_toArray, List.set_cons_zero, List.set_cons_succ]
      refine' wpAnyJ_take (i := 12) (oi := { dst := some 32, op := Op.load 32 (Operand.tmp 31), type := 32, pos := "table.go:117", after := #[{ on := 11, ground := Ground.data }], guard := none }) (v := _) rfl (by kernel_rfl) (by kernel_rfl) (by kernel_rfl) (by kernel_rfl) (fun _ _ _ h => h) (Or.inl ⟨by rfl, ?hyA13⟩) (by assumption) ?reA13
      case hyA13 => (intro W hSw; (try dsimp only at hSw); go_simp; try with_reducible rfl)
      try simp only [Act.put, List.setIfInBounds_toArray, List.set_cons_zero, List.set_cons_succ]
      refine' wpAnyJ_takeW (i := 14) (oi := { dst := some 34, op := Op.move (Operand.tmp 0), type := 60, pos := "table.go:117", after := #[], guard := none }) (v := _) rfl (by kernel_rfl) (by kernel_rfl) (by kernel_rfl) (fun _ _ _ h => h) (Or.inl ⟨by rfl, ?hyA14⟩) ?reA14
      case hyA14 => (intro W hSw; (try dsimp only at hSw); go_simp; try with_reducible rfl)
      try simp only [Act.put, List.setIfInBounds_toArray, List.set_cons_zero, List.set_cons_succ]
      refine' wpAnyJ_takeW (i := 15) (oi := { dst := some 35, op := Op.nilCheck (Operand.tmp 34), type := 0, pos := "table.go:117", after := #[{ on := 14, ground := Ground.data }], guard := none }) (v := _) rfl (by kernel_rfl) (by kernel_rfl) (by kernel_rfl) (fun _ _ _ h => h) (Or.inl ⟨by rfl, ?hyA15⟩) ?reA15
      case hyA15 => (intro W hSw; (try dsimp only at hSw); go_simp; try with_reducible rfl)
      try simp only [Act.put, List.setIfInBounds_toArray, List.set_cons_zero, List.set_cons_succ]
      refine' wpAnyJ_takeW (i := 16) (oi := { dst := some 36, op := Op.fieldAddr 69 (Operand.tmp 35) 1, type := 0, pos := "table.go:117", after := #[{ on := 15, ground := Ground.data }], guard := none }) (v := _) rfl (by kernel_rfl) (by kernel_rfl) (by kernel_rfl) (fun _ _ _ h => h) (Or.inl ⟨by rfl, ?hyA16⟩) ?reA16
      case hyA16 => (intro W hSw; (try dsimp only at hSw); go_simp; try with_reducible rfl)
      try simp only [Act.put, List.setIfInBounds_toArray, List.set_cons_zero, List.set_cons_succ]
      refine' wpAnyJ_take (i := 17) (oi := { dst := some 37, op := Op.load 67 (Operand.tmp 36), type := 67, pos := "table.go:117", after := #[{ on := 16, ground := Ground.data }], guard := none }) (v := _) rfl (by kernel_rfl) (by kernel_rfl) (by kernel_rfl) (by kernel_rfl) (fun _ _ _ h => h) (Or.inl ⟨by rfl, ?hyA17⟩) (by assumption) ?reA17
      case hyA17 => (intro W hSw; (try dsimp only at hSw); go_simp; try with_reducible rfl)
      try simp only [Act.put, List.setIfInBounds_toArray, List.set_cons_zero, List.set_cons_succ]
      refine' wpAnyJ_takeW (i := 18) (oi := { dst := some 38, op := Op.move (Operand.tmp 4), type := 3, pos := "table.go:117", after := #[], guard := none }) (v := _) rfl (by kernel_rfl) (by kernel_rfl) (by kernel_rfl) (fun _ _ _ h => h) (Or.inl ⟨by rfl, ?hyA18⟩) ?reA18
      case hyA18 => (intro W hSw; (try dsimp only at hSw); go_simp; try with_reducible rfl)
      try simp only [Act.put, List.setIfInBounds_toArray, List.set_cons_zero, List.set_cons_succ]
      refine' wpAnyJ_takeW (i := 19) (oi := { dst := some 39, op := Op.indexAddr 67 (Operand.tmp 37) (Operand.tmp 38), type := 0, pos := "table.go:117", after := #[{ on := 17, ground := Ground.data }, { on := 18, ground := Ground.data }], guard := none }) (v := _) rfl (by kernel_rfl) (by kernel_rfl) (by kernel_rfl) (fun _ _ _ h => h) (Or.inl ⟨by rfl, ?hyA19⟩) ?reA19
      case hyA19 => (intro W hSw; (try dsimp only at hSw); go_simp; try with_reducible rfl)
      try simp only [Act.put, List.setIfInBounds_toArray, List.set_cons_zero, List.set_cons_succ]
      refine' wpAnyJ_takeW (i := 20) (oi := { dst := some 40, op := Op.fieldAddr 82 (Operand.tmp 39) 1, type := 0, pos := "table.go:117", after := #[{ on := 19, ground := Ground.data }], guard := none }) (v := _) rfl (by kernel_rfl) (by kernel_rfl) (by kernel_rfl) (fun _ _ _ h => h) (Or.inl ⟨by rfl, ?hyA20⟩) ?reA20
      case hyA20 => (intro W hSw; (try dsimp only at hSw); go_simp; try with_reducible rfl)
      try simp only [Act.put, List.setIfInBounds_toArray, List.set_cons_zero, List.set_cons_succ]
      refine' wpAnyJ_take (i := 21) (oi := { dst := some 41, op := Op.load 27 (Operand.tmp 40), type := 27, pos := "table.go:117", after := #[{ on := 20, ground := Ground.data }], guard := none }) (v := _) rfl (by kernel_rfl) (by kernel_rfl) (by kernel_rfl) (by kernel_rfl) (fun _ _ _ h => h) (Or.inl ⟨by rfl, ?hyA21⟩) (by assumption) ?reA21
      case hyA21 => (intro W hSw; (try dsimp only at hSw); go_simp; try with_reducible rfl)
      try simp only [Act.put, List.setIfInBounds_toArray, List.set_cons_zero, List.set_cons_succ]
      refine wpAnyJ_ready (rs := [13]) (by kernel_rfl) (by simp) ?_
      refine AllReadyJ.cons (o := { dst := some 33, op := Op.buildSlice 27 0 #[], type := 27, pos := "table.go:117", after := #[], guard := none }) rfl (fun K hK => ?_) AllReadyJ.nil
      go_simp
      refine hK.out _ _ (fun _ _ => CS.out _ (below_on (below_drew wr) (below_alloc _ _))) ?_
      clear hK K
      try simp only [Act.put, List.setIfInBounds_toArray, List.set_cons_zero, List.set_cons_succ]
      refine wpAnyJ_ready (rs := [22]) (by kernel_rfl) (by simp) ?_
      refine AllReadyJ.cons (o := { dst := some 42, op := Op.call { callee := Callee.builtin Builtin.append, args := #[Operand.tmp 33, Operand.tmp 41], argTypes := #[27, 27] }, type := 27, pos := "table.go:117", after := #[{ on := 13, ground := Ground.data }, { on := 21, ground := Ground.data }], guard := none }) rfl (fun K hK => ?_) AllReadyJ.nil
      refine step_append_fz _ rfl (.tmp 33) (.tmp 41) rfl wr.heap.size (.slice (some ⟨wr.heap.size, 0, none⟩) 0 0) vi [] R (by simp [Act.eval]) (World.ownsRow_lit wr.drew #[] 0 (Nat.le_refl _) (Nat.zero_le _) rfl) (by simp [Act.eval]) (FZ.out _) (by simp; omega) (by simp) ?_
      intro vn w2 h1 h2 h3
      obtain ⟨HF, ZZ, HY⟩ := L1.out _ vn w2 h1 h2
      obtain ⟨an, cn, rfl⟩ := own_len HF.out.1
      clear h1 h2 h3
      refine hK.out _ _ (fun _ _ => ZZ) ?_
      clear hK K
      try simp only [Act.put, List.setIfInBounds_toArray, List.set_cons_zero, List.set_cons_succ]
      refine' wpAnyJ_takeW (i := 23) (oi := { dst := some 43, op := Op.build 82 #[(0, Operand.tmp 32), (1, Operand.tmp 42)], type := 82, pos := "table.go:117", after := #[{ on := 12, ground := Ground.data }, { on := 22, ground := Ground.data }], guard := none }) (v := _) rfl (by kernel_rfl) (by kernel_rfl) (by kernel_rfl) (fun _ _ _ h => h) (Or.inl ⟨by rfl, ?hyA22⟩) ?reA22
      case hyA22 => (intro W hSw; (try dsimp only at hSw); go_simp; try with_reducible rfl)
      try simp only [Act.put, List.setIfInBounds_toArray, List.set_cons_zero, List.set_cons_succ]
      refine wpAnyJ_ready (rs := [24]) (by kernel_rfl) (by simp) ?_
      refine AllReadyJ.cons (o := { dst := some 44, op := Op.buildSlice 67 1 #[(0, Operand.tmp 43)], type := 67, pos := "table.go:117", after := #[{ on := 23, ground := Ground.data }], guard := none }) rfl (fun K hK => ?_) AllReadyJ.nil
      go_simp
      refine hK.out _ _ (fun _ _ => HY _) ?_
      clear hK K
      try simp only [Act.put, List.setIfInBounds_toArray, List.set_cons_zero, List.set_cons_succ]
      refine wpAnyJ_ready (rs := [25]) (by kernel_rfl) (by simp) ?_
      refine AllReadyJ.cons (o := { dst := some 45, op := Op.call { callee := Callee.builtin Builtin.append, args := #[Operand.tmp 24, Operand.tmp 44], argTypes := #[67, 67] }, type := 67, pos := "table.go:117", after := #[{ on := 4, ground := Ground.data }, { on := 24, ground := Ground.data }, { on := 22, ground := Ground.chain }], guard := none }) rfl (fun K hK => ?_) AllReadyJ.nil
      refine step_append_lies _ rfl (.tmp 24) (.tmp 44) 67 rfl 0 82 i8 (.agg #[.int .i64 0, .int .i64 0, .slice none 0 0]) 3 40 Try.underlying67 hi8 hz0 hz1 hz2 rfl (by decide) (.slice al2 i c2) i (rz (rows.take i) vs2) (by simp [Act.eval]) (HO1.out _ (below_on HF.out.2.2 (below_alloc _ _))) ⟨w2.heap.size, 0, none⟩ 1 1 [.int .i64 p1, .int .i64 p2, .slice an nR cn] (by simp [Act.eval]) rfl (by intro j u hj; match j, hj with | 0, hj => simp at hj; subst hj; simp [Addr.add] | 1, hj => simp at hj; subst hj; simp [Addr.add] | 2, hj => simp at hj; subst hj; simp [Addr.add]) (by intro u hu; simp at hu; rcases hu with rfl | rfl | rfl <;> rfl) (by omega) (by unfold maxLen; omega) (by omega) (Nat.zero_le _) _ rfl ?_
      intro g9 c9 w3 h1 h2 h3 _
      obtain ⟨HG, VV, v4⟩ := L2.out _ w2 HF _ g9 c9 w3 h1 h2 h3
      clear h1 h2 h3
      refine hK.out _ _ (fun _ _ => VV) ?_
      clear hK K
      try simp only [Act.put, List.setIfInBounds_toArray, List.set_cons_zero, List.set_cons_succ]
      refine' wpAnyJ_takeW (i := 26) (oi := { dst := some 46, op := Op.nilCheck (Operand.tmp 20), type := 0, pos := "table.go:117", after := #[{ on := 0, ground := Ground.data }, { on := 0, ground := Ground.phase }, { on := 1, ground := Ground.phase }, { on := 2, ground := Ground.phase }, { on := 3, ground := Ground.phase }, { on := 4, ground := Ground.phase }, { on := 5, ground := Ground.phase }, { on := 6, ground := Ground.phase }, { on := 7, ground := Ground.phase }, { on := 8, ground := Ground.phase }, { on := 9, ground := Ground.phase }, { on := 10, ground := Ground.phase }, { on := 11, ground := Ground.phase }, { on := 12, ground := Ground.phase }, { on := 13, ground := Ground.phase }, { on := 14, ground := Ground.phase }, { on := 15, ground := Ground.phase }, { on := 16, ground := Ground.phase }, { on := 17, ground := Ground.phase }, { on := 18, ground := Ground.phase }, { on := 19, ground := Ground.phase }, { on := 20, ground := Ground.phase }, { on := 21, ground := Ground.phase }, { on := 22, ground := Ground.phase }, { on := 23, ground := Ground.phase }, { on := 24, ground := Ground.phase }, { on := 25, ground := Ground.phase }], guard := none }) (v := _) rfl (by kernel_rfl) (by kernel_rfl) (by kernel_rfl) (fun _ _ _ h => h) (Or.inl ⟨by rfl, ?hyA23⟩) ?reA23
      case hyA23 => (intro W hSw; (try dsimp only at hSw); go_simp; try with_reducible rfl)
      try simp only [Act.put, List.setIfInBounds_toArray, List.set_cons_zero, List.set_cons_succ]
      refine' wpAnyJ_takeW (i := 27) (oi := { dst := some 47, op := Op.fieldAddr 69 (Operand.tmp 46) 1, type := 0, pos := "table.go:117", after := #[{ on := 26, ground := Ground.data }, { on := 0, ground := Ground.phase }, { on := 1, ground := Ground.phase }, { on := 2, ground := Ground.phase }, { on := 3, ground := Ground.phase }, { on := 4, ground := Ground.phase }, { on := 5, ground := Ground.phase }, { on := 6, ground := Ground.phase }, { on := 7, ground := Ground.phase }, { on := 8, ground := Ground.phase }, { on := 9, ground := Ground.phase }, { on := 10, ground := Ground.phase }, { on := 11, ground := Ground.phase }, { on := 12, ground := Ground.phase }, { on := 13, ground := Ground.phase }, { on := 14, ground := Ground.phase }, { on := 15, ground := Ground.phase }, { on := 16, ground := Ground.phase }, { on := 17, ground := Ground.phase }, { on := 18, ground := Ground.phase }, { on := 19, ground := Ground.phase }, { on := 20, ground := Ground.phase }, { on := 21, ground := Ground.phase }, { on := 22, ground := Ground.phase }, { on := 23, ground := Ground.phase }, { on := 24, ground := Ground.phase }, { on := 25, ground := Ground.phase }], guard := none }) (v := _) rfl (by kernel_rfl) (by kernel_rfl) (by kernel_rfl) (fun _ _ _ h => h) (Or.inl ⟨by rfl, ?hyA24⟩) ?reA24
      case hyA24 => (intro W hSw; (try dsimp only at hSw); go_simp; try with_reducible rfl)
      try simp only [Act.put, List.setIfInBounds_toArray, List.set_cons_zero, List.set_cons_succ]
      refine wpAnyJ_ready (rs := [28]) (by kernel_rfl) (by simp) ?_
      refine AllReadyJ.cons (o := { dst := none, op := Op.store 67 (Operand.tmp 47) (Operand.tmp 45), type := 0, pos := "table.go:117", after := #[{ on := 27, ground := Ground.data }, { on := 25, ground := Ground.data }, { on := 25, ground := Ground.chain }, { on := 0, ground := Ground.phase }, { on := 1, ground := Ground.phase }, { on := 2, ground := Ground.phase }, { on := 3, ground := Ground.phase }, { on := 4, ground := Ground.phase }, { on := 5, ground := Ground.phase }, { on := 6, ground := Ground.phase }, { on := 7, ground := Ground.phase }, { on := 8, ground := Ground.phase }, { on := 9, ground := Ground.phase }, { on := 10, ground := Ground.phase }, { on := 11, ground := Ground.phase }, { on := 12, ground := Ground.phase }, { on := 13, ground := Ground.phase }, { on := 14, ground := Ground.phase }, { on := 15, ground := Ground.phase }, { on := 16, ground := Ground.phase }, { on := 17, ground := Ground.phase }, { on := 18, ground := Ground.phase }, { on := 19, ground := Ground.phase }, { on := 20, ground := Ground.phase }, { on := 21, ground := Ground.phase }, { on := 22, ground := Ground.phase }, { on := 23, ground := Ground.phase }, { on := 24, ground := Ground.phase }, { on := 25, ground := Ground.phase }], guard := none }) rfl (fun K hK => ?_) AllReadyJ.nil
      obtain ⟨v1, v2, v3, v5, v6⟩ := VV
      go_simp
      refine hK.out _ _ (fun h => absurd h (by decide)) ?_
      clear hK K
      try simp only [Act.put, List.setIfInBounds_toArray, List.set_cons_zero, List.set_cons_succ]
      refine wpAnyJ_done (by kernel_rfl) ?_ _
      refine NoPanic.normal ?_
      go_wp2_with fail
      go_roundw
      case rel => exact ⟨i + 1, _, _, by omega, by go_num, HG.out.1, HG.out.2.1, ⟨HG.out.2.2.1, fun q e => by simp only [Value.ownBlock, Option.some.injEq] at e; have := HG.out.2.2.2.1; omega, HG.out.2.2.2.2⟩⟩
      case measure => simp [intOf]; omega
    · obtain rfl : i = rows.length := by omega
      have t1 : ¬ (rows.length : Int) < (rows.length : Int) := by omega
      have hD := HD.out
      rw [List.take_of_length_le (Nat.le_refl _)] at hD
      have HD1 := hide hD
      clear hD
      go_wp2_with fail
      go_ret
      have hs0 := HS1.out
      have hk0 := HKC.out
      exact ⟨kc, rfl, ⟨v2, vs2, HD1.out, hcl, ⟨by omega, fun q e => by have := HN.out.2.1 q e; omega, fun u hu q e => by have := HN.out.2.2 u hu q e; omega⟩, hr2, hc2⟩, HB.out⟩
end
end Go.Proofs.Ytlnjphfkinajdaa
