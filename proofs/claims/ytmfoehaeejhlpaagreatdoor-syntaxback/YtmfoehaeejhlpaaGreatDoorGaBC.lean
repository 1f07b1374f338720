import Derived.Test.YtmfoehaeejhlpaaGreatDoorGaBB
/-
  What writes: calls, fields, all expressions.
-/
namespace Go.Proofs.YtmfoehaeejhlpaaGreatDoor
open Go.RowKit Yn
set_option maxRecDepth 100000
set_option maxHeartbeats 4000000 in
theorem exprs_w {B g c : Nat} {ao : Option Addr} {l : List UInt8} (ts : List Tree) {gl : Nat} {gs : List Nat} {w : World} (he : ∀ i (h : i < ts.length), EW ts[i]) (h : Bt B g l w) (hc : Ch B w ao ts gl gs) (hpf : Pf B w) (hn : ts.length ≤ 1048576) (hz : Sz l (comJ (ts.map prE))) : Calls Tryz.prog 150 #[.pointer (some ⟨g, 0, none⟩), .slice ao ts.length c] w (Wrt B g l (comJ (ts.map prE)) w) := by
  obtain ⟨xs, hxs⟩ : ∃ xs, xs = ts.map prE := ⟨_, rfl⟩
  rw [← hxs] at hz ⊢
  obtain ⟨n, hnn⟩ : ∃ n, n = ts.length := ⟨_, rfl⟩
  have HXN : Hid (xs.length = n) := by unfold Hid; rw [hxs, hnn]; simp
  have HX : Hid (∀ i (h : i < ts.length) (h' : i < xs.length), xs[i] = prE ts[i]) := fun i h h' => by simp [hxs]
  have H0 : Hid (Wo B g (l ++ comJ (xs.take 0)) w w) := by
    have e : l ++ comJ (xs.take 0) = l := by simp [comJ]
    unfold Hid
    rw [e]
    exact Wo.refl h
  have HZ := hide hz
  have HC := hide hc
  have HE := hide he
  have HP := hide hpf
  have HNN := hide hnn
  rw [← hnn] at hn ⊢
  clear h hc hz hnn hxs he hpf
  go_enter Tryz.func150, Tryz.ntmps150
  go_wp2_with fail
  go_loopw [8] (fun v8 wr => ∃ i : Nat, v8 = .int .i64 (i : Int) ∧ i ≤ n ∧ Hid (Wo B g (l ++ comJ (xs.take i)) w wr)) (fun v8 _ => n - (intOf v8).toNat)
  case atStart => exact ⟨0, rfl, by omega, H0.out⟩
  case round =>
    obtain ⟨i, rfl, hi1, hw⟩ := hrel
    by_cases hi2 : i < n
    · have hit : i < ts.length := by rw [← HNN.out]; exact hi2
      have hix : i < xs.length := by rw [HXN.out]; exact hi2
      have hig : i < gs.length := by rw [HC.out.1]; exact hit
      obtain ⟨rfl, -⟩ := HC.out.2.1 (by omega)
      obtain ⟨c0, -⟩ := (HC.out.below hw.out.2.1).2.2 i hit hig
      have zz := sz_take HZ.out hix
      have J1 := hide (comma_w i hw.out.1 zz.1)
      have i9 : (i : Int) < (n : Int) := by omega
      have E1 : Hid (l ++ comJ (xs.take i) ++ comB i ++ prE ts[i] = l ++ comJ (xs.take (i + 1))) := by
        unfold Hid
        rw [comJ_take hix, HX.out i hit hix, ← List.append_assoc, ← List.append_assoc]
      have NX : Hid (∀ w2, Wo B g (l ++ comJ (xs.take i) ++ comB i) wr w2 → Calls Tryz.prog 149 #[.pointer (some ⟨g, 0, none⟩), .pointer (some ⟨gs[i], 0, none⟩)] w2 fun e w3 => e = .returned (.tuple #[]) ∧ Wo B g (l ++ comJ (xs.take (i + 1))) w w3) := fun w2 h2 => by
        have hb2 := hw.out.2.1.trans h2.2.1
        obtain ⟨-, hnd⟩ := (HC.out.below hb2).2.2 i hit hig
        have e1 := HX.out i hit hix
        refine (HE.out i hit B g _ w2 _ h2.1 hnd (HP.out.below hb2) (e1 ▸ zz.2)).mono ?_
        rintro e w3 ⟨rfl, h3⟩
        rw [E1.out] at h3
        exact ⟨rfl, hw.out.trans (h2.trans h3)⟩
      generalize gs[i] = gi at *
      clear E1 zz hix hit hig
      go_wp2_with fail
      refine J1.out.mono ?_
      rintro e w2 ⟨rfl, h2⟩
      have J2 := hide (NX.out w2 h2)
      clear h2 J1 NX c0
      go_wp2_with fail
      refine J2.out.mono ?_
      rintro e w3 ⟨rfl, h3⟩
      have H3 := hide h3
      clear h3 J2
      go_wp2_with fail
      exact ⟨⟨i + 1, by go_num, by omega, H3.out⟩, by simp [intOf]; omega⟩
    · obtain rfl : n = i := by omega
      have H9 : Hid (Wrt B g l (comJ xs) w (.returned (.tuple #[])) wr) := ⟨rfl, by
        have h := hw.out
        rw [← HXN.out, List.take_length] at h
        exact h⟩
      go_wp2_with fail
      go_end0
      exact H9.out
set_option maxHeartbeats 4000000 in
theorem ex36 {t : ByteArray} {n : Int} {l : List Tree} {a : Nat} (he : ∀ i (h : i < l.length), EW l[i]) (hn : l.length ≤ 1048576) : EW (.mk 36 t n l a) := by
  intro B g lw w v hb hnd hpf hz
  obtain ⟨gn, ao, c, gl, gs, rfl, hce, hcap, hch⟩ := nd_open hnd
  have ET : prE (.mk 36 t n l a) = (t.data.toList ++ ([40] : List UInt8)) ++ comJ (l.map prE) ++ ([41] : List UInt8) := by
    rw [prE, prEs_eq]
    rfl
  rw [ET] at hz ⊢
  have CE : Hid (∀ w', Below B w w' → Ce B w' gn 36 t n ao l.length c) := fun w' h => hce.below h
  have J0 : Hid (∀ w', Wo B g (lw) w w' → Calls Tryz.prog 57 #[.pointer (some ⟨g, 0, none⟩), .slice (some ⟨w'.heap.size, 0, none⟩) 2 2] (w'.alloc (.cells #[.string t, .string ⟨#[40]⟩] 9)) (Wrt B g (lw) (t.data.toList ++ ([40] : List UInt8)) w')) := fun w' h => put2 t ⟨#[40]⟩ h.1 (show Sz (lw) (t.data.toList ++ ([40] : List UInt8)) from (by
      have := hz
      unfold Sz at this ⊢
      (try simp only [List.length_append] at this ⊢)
      omega))
  have J1 : Hid (∀ w', Wo B g (lw ++ (t.data.toList ++ ([40] : List UInt8))) w w' → Calls Tryz.prog 150 #[.pointer (some ⟨g, 0, none⟩), .slice ao l.length c] w' (Wrt B g (lw ++ (t.data.toList ++ ([40] : List UInt8))) (comJ (l.map prE)) w')) := fun w' h => exprs_w l he h.1 (hch.below h.2.1) (hpf.below h.2.1) hn (show Sz (lw ++ (t.data.toList ++ ([40] : List UInt8))) (comJ (l.map prE)) from (by
      have := hz
      unfold Sz at this ⊢
      (try simp only [List.length_append] at this ⊢)
      omega))
  have J2 : Hid (∀ w', Wo B g (lw ++ (t.data.toList ++ ([40] : List UInt8)) ++ comJ (l.map prE)) w w' → Calls Tryz.prog 57 #[.pointer (some ⟨g, 0, none⟩), .slice (some ⟨w'.heap.size, 0, none⟩) 1 1] (w'.alloc (.cells #[.string ⟨#[41]⟩] 9)) (Wrt B g (lw ++ (t.data.toList ++ ([40] : List UInt8)) ++ comJ (l.map prE)) ([41] : List UInt8) w')) := fun w' h => put1 ⟨#[41]⟩ h.1 (show Sz (lw ++ (t.data.toList ++ ([40] : List UInt8)) ++ comJ (l.map prE)) ([41] : List UInt8) from (by
      have := hz
      unfold Sz at this ⊢
      (try simp only [List.length_append] at this ⊢)
      omega))
  have H0 : Hid (Wo B g lw w w) := Wo.refl hb
  clear hnd hce hch hpf hz hb ET
  go_enter Tryz.func149, Tryz.ntmps149
  obtain ⟨-, d0, d1, d2, d3⟩ := CE.out w H0.out.2.1
  have J := hide (J0.out w H0.out)
  clear J0
  go_wp2_with fail
  refine J.out.mono ?_
  rintro e w1 ⟨rfl, h⟩
  have H1 := hide (H0.out.trans h)
  clear h J H0 d0 d1 d2 d3
  obtain ⟨-, d0, d1, d2, d3⟩ := CE.out w1 H1.out.2.1
  have J := hide (J1.out w1 H1.out)
  clear J1
  go_wp2_with fail
  refine J.out.mono ?_
  rintro e w2 ⟨rfl, h⟩
  have H2 := hide (H1.out.trans h)
  clear h J H1 d0 d1 d2 d3
  obtain ⟨-, d0, d1, d2, d3⟩ := CE.out w2 H2.out.2.1
  have J := hide (J2.out w2 H2.out)
  clear J2
  go_wp2_with fail
  refine J.out.mono ?_
  rintro e w3 ⟨rfl, h⟩
  have H3 := hide (H2.out.trans h)
  clear h J H2 d0 d1 d2 d3
  go_wp2_with fail
  go_end0
  exact ⟨rfl, by have h := H3.out; first | exact h | (simp only [List.append_assoc] at h ⊢; exact h) | (simp only [List.append_assoc, List.cons_append, List.nil_append] at h ⊢; exact h)⟩
set_option maxHeartbeats 4000000 in
theorem ex32 {t : ByteArray} {n : Int} {l : List Tree} {a : Nat} (hl : 1 ≤ l.length) : EW (.mk 32 t n l a) := by
  intro B g lw w v hb hnd hpf hz
  obtain ⟨gn, ao, c, gl, gs, rfl, hce, hcap, hch⟩ := nd_open hnd
  obtain ⟨rfl, hgl⟩ := hch.2.1 (by omega)
  have ET : prE (.mk 32 t n l a) = t.data.toList ++ ([46] : List UInt8) ++ (txT l[0]).data.toList := by
    rw [← getD_at (show 0 < l.length by omega)]
    rw [prE]
    rfl
  rw [ET] at hz ⊢
  obtain ⟨g0, k0⟩ := ch_at hch 0 (by omega)
  obtain ⟨x0, hn0⟩ := k0 w (Below.refl _ _)
  have hl0 : (0 : Int) < (l.length : Int) := by omega
  have hl1 : 0 < l.length := by omega
  have y0 : g0 < B ∧ w.cell? ⟨g0, 1, none⟩ = some (.string (txT l[0])) := by
    generalize l[0] = T at hn0 ⊢
    obtain ⟨op, tx, nn, ll, aa⟩ := T
    obtain ⟨g', ao', c', gl', gs', e2, hce', -, -⟩ := nd_open hn0
    injection e2 with e2
    injection e2 with e2
    injection e2 with e2 _ _
    rw [e2]
    exact ⟨hce'.1, hce'.2.2.1⟩
  obtain ⟨hg0, y0⟩ := y0
  generalize txT l[0] = t0 at *
  obtain ⟨hgn, d0, d1, d2, d3⟩ := hce
  have KA : Hid (∀ W, Below w.heap.size w W → ∀ o, (W.alloc o).cell? ⟨gn, 1, none⟩ = some (.string t) ∧ (W.alloc o).cell? ⟨gn, 3, none⟩ = some (.slice (some ⟨gl, 0, none⟩) l.length c) ∧ (W.alloc o).cell? ⟨gl, 0, none⟩ = some (.pointer (some ⟨g0, 0, none⟩)) ∧ (W.alloc o).cell? ⟨g0, 1, none⟩ = some (.string t0)) := fun W h o => by
    have hb2 := h.trans (show Below w.heap.size W (W.alloc o) from (below_alloc W o).mono h.size)
    exact ⟨(hb2.cell (World.block_lt_of_cell? w _ d1)).trans d1, (hb2.cell (World.block_lt_of_cell? w _ d3)).trans d3, (hb2.cell (World.block_lt_of_cell? w _ x0)).trans x0, (hb2.cell (World.block_lt_of_cell? w _ y0)).trans y0⟩
  have KB : Hid (∀ W, Wo B g (lw ++ (t.data.toList ++ ([46] : List UInt8) ++ t0.data.toList)) w.drew W → W.cell? ⟨gn, 1, none⟩ = some (.string t) ∧ W.cell? ⟨gn, 3, none⟩ = some (.slice (some ⟨gl, 0, none⟩) l.length c) ∧ W.cell? ⟨gl, 0, none⟩ = some (.pointer (some ⟨g0, 0, none⟩)) ∧ W.cell? ⟨g0, 1, none⟩ = some (.string t0)) := fun W h => by
    have hb2 : Below B w W := (below_drew w).mono (by have := hb.1; omega) |>.trans h.2.1
    exact ⟨(hb2.cell (p := ⟨gn, 1, none⟩) hgn).trans d1, (hb2.cell (p := ⟨gn, 3, none⟩) hgn).trans d3, (hb2.cell (p := ⟨gl, 0, none⟩) hgl).trans x0, (hb2.cell (p := ⟨g0, 1, none⟩) hg0).trans y0⟩
  have J := hide (put3 t ⟨#[46]⟩ t0 (hb.later (below_drew w)) (show Sz lw (t.data.toList ++ ([46] : List UInt8) ++ t0.data.toList) from hz))
  have HD := hide (wo_later hb (below_drew w))
  clear hnd hb hpf hz hch hcap ET k0 hn0
  go_enter Tryz.func149, Tryz.ntmps149
  go_upto_region 7 with fail
  refine wp_region_noPanic ?_
  refine wp_region_held_drew (S := fun V => V.cell? ⟨gn, 1, none⟩ = some (.string t) ∧ V.cell? ⟨gn, 3, none⟩ = some (.slice (some ⟨gl, 0, none⟩) l.length c) ∧ V.cell? ⟨gl, 0, none⟩ = some (.pointer (some ⟨g0, 0, none⟩)) ∧ V.cell? ⟨g0, 1, none⟩ = some (.string t0)) (by kernel_rfl) (⟨d1, d3, x0, y0⟩) (fun hHeld => ?_)
  refine' wpAnyH_take (i := 0) (oi := { dst := some 31, op := Go.Op.move (Go.Operand.tmp 0), type := 80, pos := "write.go:169", after := #[], guard := none }) (v := _) rfl (by kernel_rfl) (by kernel_rfl) (by kernel_rfl) (fun _ _ _ h => h) (Or.inl ⟨by rfl, ?hyr1_0⟩) (by assumption) ?rer1_0
  case hyr1_0 => (intro W hSw; (try dsimp only at hSw); go_simp; try with_reducible rfl)
  try simp only [Act.put, List.setIfInBounds_toArray, List.set_cons_zero, List.set_cons_succ]
  refine' wpAnyH_take (i := 1) (oi := { dst := some 32, op := Go.Op.move (Go.Operand.tmp 1), type := 23, pos := "write.go:169", after := #[], guard := none }) (v := _) rfl (by kernel_rfl) (by kernel_rfl) (by kernel_rfl) (fun _ _ _ h => h) (Or.inl ⟨by rfl, ?hyr1_1⟩) (by assumption) ?rer1_1
  case hyr1_1 => (intro W hSw; (try dsimp only at hSw); go_simp; try with_reducible rfl)
  try simp only [Act.put, List.setIfInBounds_toArray, List.set_cons_zero, List.set_cons_succ]
  refine' wpAnyH_take (i := 2) (oi := { dst := some 33, op := Go.Op.nilCheck (Go.Operand.tmp 32), type := 0, pos := "write.go:169", after := #[{ on := 1, ground := Go.Ground.data }], guard := none }) (v := _) rfl (by kernel_rfl) (by kernel_rfl) (by kernel_rfl) (fun _ _ _ h => h) (Or.inl ⟨by rfl, ?hyr1_2⟩) (by assumption) ?rer1_2
  case hyr1_2 => (intro W hSw; (try dsimp only at hSw); go_simp; try with_reducible rfl)
  try simp only [Act.put, List.setIfInBounds_toArray, List.set_cons_zero, List.set_cons_succ]
  refine' wpAnyH_take (i := 3) (oi := { dst := some 34, op := Go.Op.fieldAddr 51 (Go.Operand.tmp 33) 1, type := 0, pos := "write.go:169", after := #[{ on := 2, ground := Go.Ground.data }], guard := none }) (v := _) rfl (by kernel_rfl) (by kernel_rfl) (by kernel_rfl) (fun _ _ _ h => h) (Or.inl ⟨by rfl, ?hyr1_3⟩) (by assumption) ?rer1_3
  case hyr1_3 => (intro W hSw; (try dsimp only at hSw); go_simp; try with_reducible rfl)
  try simp only [Act.put, List.setIfInBounds_toArray, List.set_cons_zero, List.set_cons_succ]
  refine' wpAnyH_take (i := 4) (oi := { dst := some 35, op := Go.Op.load 9 (Go.Operand.tmp 34), type := 9, pos := "write.go:169", after := #[{ on := 3, ground := Go.Ground.data }], guard := none }) (v := _) rfl (by kernel_rfl) (by kernel_rfl) (by kernel_rfl) (fun _ _ _ h => h) (Or.inl ⟨by rfl, ?hyr1_4⟩) (by assumption) ?rer1_4
  case hyr1_4 => (intro W hSw; (try dsimp only at hSw); go_simp; try with_reducible rfl)
  try simp only [Act.put, List.setIfInBounds_toArray, List.set_cons_zero, List.set_cons_succ]
  refine' wpAnyH_take (i := 5) (oi := { dst := some 36, op := Go.Op.move (Go.Operand.tmp 1), type := 23, pos := "write.go:169", after := #[], guard := none }) (v := _) rfl (by kernel_rfl) (by kernel_rfl) (by kernel_rfl) (fun _ _ _ h => h) (Or.inl ⟨by rfl, ?hyr1_5⟩) (by assumption) ?rer1_5
  case hyr1_5 => (intro W hSw; (try dsimp only at hSw); go_simp; try with_reducible rfl)
  try simp only [Act.put, List.setIfInBounds_toArray, List.set_cons_zero, List.set_cons_succ]
  refine' wpAnyH_take (i := 6) (oi := { dst := some 37, op := Go.Op.nilCheck (Go.Operand.tmp 36), type := 0, pos := "write.go:169", after := #[{ on := 5, ground := Go.Ground.data }], guard := none }) (v := _) rfl (by kernel_rfl) (by kernel_rfl) (by kernel_rfl) (fun _ _ _ h => h) (Or.inl ⟨by rfl, ?hyr1_6⟩) (by assumption) ?rer1_6
  case hyr1_6 => (intro W hSw; (try dsimp only at hSw); go_simp; try with_reducible rfl)
  try simp only [Act.put, List.setIfInBounds_toArray, List.set_cons_zero, List.set_cons_succ]
  refine' wpAnyH_take (i := 7) (oi := { dst := some 38, op := Go.Op.fieldAddr 51 (Go.Operand.tmp 37) 3, type := 0, pos := "write.go:169", after := #[{ on := 6, ground := Go.Ground.data }], guard := none }) (v := _) rfl (by kernel_rfl) (by kernel_rfl) (by kernel_rfl) (fun _ _ _ h => h) (Or.inl ⟨by rfl, ?hyr1_7⟩) (by assumption) ?rer1_7
  case hyr1_7 => (intro W hSw; (try dsimp only at hSw); go_simp; try with_reducible rfl)
  try simp only [Act.put, List.setIfInBounds_toArray, List.set_cons_zero, List.set_cons_succ]
  refine' wpAnyH_take (i := 8) (oi := { dst := some 39, op := Go.Op.load 49 (Go.Operand.tmp 38), type := 49, pos := "write.go:169", after := #[{ on := 7, ground := Go.Ground.data }], guard := none }) (v := _) rfl (by kernel_rfl) (by kernel_rfl) (by kernel_rfl) (fun _ _ _ h => h) (Or.inl ⟨by rfl, ?hyr1_8⟩) (by assumption) ?rer1_8
  case hyr1_8 => (intro W hSw; (try dsimp only at hSw); go_simp; try with_reducible rfl)
  try simp only [Act.put, List.setIfInBounds_toArray, List.set_cons_zero, List.set_cons_succ]
  refine' wpAnyH_take (i := 9) (oi := { dst := some 40, op := Go.Op.indexAddr 49 (Go.Operand.tmp 39) (Go.Operand.const (Go.Value.int Go.IntKind.i64 0)), type := 0, pos := "write.go:169", after := #[{ on := 8, ground := Go.Ground.data }], guard := none }) (v := _) rfl (by kernel_rfl) (by kernel_rfl) (by kernel_rfl) (fun _ _ _ h => h) (Or.inl ⟨by rfl, ?hyr1_9⟩) (by assumption) ?rer1_9
  case hyr1_9 => (intro W hSw; (try dsimp only at hSw); go_simp; try with_reducible rfl)
  try simp only [Act.put, List.setIfInBounds_toArray, List.set_cons_zero, List.set_cons_succ]
  refine' wpAnyH_take (i := 10) (oi := { dst := some 41, op := Go.Op.load 23 (Go.Operand.tmp 40), type := 23, pos := "write.go:169", after := #[{ on := 9, ground := Go.Ground.data }], guard := none }) (v := _) rfl (by kernel_rfl) (by kernel_rfl) (by kernel_rfl) (fun _ _ _ h => h) (Or.inl ⟨by rfl, ?hyr1_10⟩) (by assumption) ?rer1_10
  case hyr1_10 => (intro W hSw; (try dsimp only at hSw); go_simp; try with_reducible rfl)
  try simp only [Act.put, List.setIfInBounds_toArray, List.set_cons_zero, List.set_cons_succ]
  refine' wpAnyH_take (i := 11) (oi := { dst := some 42, op := Go.Op.nilCheck (Go.Operand.tmp 41), type := 0, pos := "write.go:169", after := #[{ on := 10, ground := Go.Ground.data }], guard := none }) (v := _) rfl (by kernel_rfl) (by kernel_rfl) (by kernel_rfl) (fun _ _ _ h => h) (Or.inl ⟨by rfl, ?hyr1_11⟩) (by assumption) ?rer1_11
  case hyr1_11 => (intro W hSw; (try dsimp only at hSw); go_simp; try with_reducible rfl)
  try simp only [Act.put, List.setIfInBounds_toArray, List.set_cons_zero, List.set_cons_succ]
  refine' wpAnyH_take (i := 12) (oi := { dst := some 43, op := Go.Op.fieldAddr 51 (Go.Operand.tmp 42) 1, type := 0, pos := "write.go:169", after := #[{ on := 11, ground := Go.Ground.data }], guard := none }) (v := _) rfl (by kernel_rfl) (by kernel_rfl) (by kernel_rfl) (fun _ _ _ h => h) (Or.inl ⟨by rfl, ?hyr1_12⟩) (by assumption) ?rer1_12
  case hyr1_12 => (intro W hSw; (try dsimp only at hSw); go_simp; try with_reducible rfl)
  try simp only [Act.put, List.setIfInBounds_toArray, List.set_cons_zero, List.set_cons_succ]
  refine' wpAnyH_take (i := 13) (oi := { dst := some 44, op := Go.Op.load 9 (Go.Operand.tmp 43), type := 9, pos := "write.go:169", after := #[{ on := 12, ground := Go.Ground.data }], guard := none }) (v := _) rfl (by kernel_rfl) (by kernel_rfl) (by kernel_rfl) (fun _ _ _ h => h) (Or.inl ⟨by rfl, ?hyr1_13⟩) (by assumption) ?rer1_13
  case hyr1_13 => (intro W hSw; (try dsimp only at hSw); go_simp; try with_reducible rfl)
  try simp only [Act.put, List.setIfInBounds_toArray, List.set_cons_zero, List.set_cons_succ]
  refine wpAnyH_ready (rs := [14]) (by kernel_rfl) (by simp) ?_
  refine AllReadyH.cons (o := { dst := some 45, op := Go.Op.buildSlice 57 3 #[(0, Go.Operand.tmp 35), (1, Go.Operand.const (Go.Value.string { data := #[46] })), (2, Go.Operand.tmp 44)], type := 57, pos := "write.go:169", after := #[{ on := 4, ground := Go.Ground.data }, { on := 13, ground := Go.Ground.data }], guard := none }) rfl (fun K hK => ?_) AllReadyH.nil
  clear hHeld
  go_simp
  refine hK.out _ _ (KA.out w.drew (below_drew w) (.cells #[.string t, .string ⟨#[46]⟩, .string t0] 9)) (fun hHeld => ?_)
  clear hK K
  try simp only [Act.put, List.setIfInBounds_toArray, List.set_cons_zero, List.set_cons_succ]
  refine wpAnyH_ready (rs := [15]) (by kernel_rfl) (by simp) ?_
  refine AllReadyH.cons (o := { dst := some 46, op := Go.Op.call { callee := Go.Callee.value (Go.Operand.func 57), args := #[Go.Operand.tmp 31, Go.Operand.tmp 45], argTypes := #[80, 57] }, type := 0, pos := "write.go:169", after := #[{ on := 0, ground := Go.Ground.data }, { on := 14, ground := Go.Ground.data }], guard := none }) rfl (fun K hK => ?_) AllReadyH.nil
  clear hHeld
  go_simp
  refine J.out.mono ?_
  rintro e w2 ⟨rfl, h2⟩
  have H2 := hide h2
  refine hK.out _ _ (KB.out _ h2) (fun hHeld => ?_)
  clear hK K h2
  try simp only [Act.put, List.setIfInBounds_toArray, List.set_cons_zero, List.set_cons_succ]
  refine wpAnyH_done (by kernel_rfl) ?_ _
  have HF := hide (HD.out.trans H2.out)
  go_wp2_with fail
  go_end0
  exact ⟨rfl, by have h := HF.out; simp only [List.append_assoc, List.cons_append, List.nil_append] at h ⊢; exact h⟩
end Go.Proofs.YtmfoehaeejhlpaaGreatDoor

/-
  What writes: all expressions; parts.
-/
namespace Go.Proofs.YtmfoehaeejhlpaaGreatDoor
open Go.RowKit Yn
set_option maxRecDepth 100000
mutual
/-- An expression that may be written. -/
def okE : Tree → Prop
  | .mk op _ n l _ => (op = 30 → -9223372036854775808 ≤ n ∧ n ≤ 9223372036854775807) ∧ (op = 32 ∨ op = 34 → 1 ≤ l.length) ∧ (op = 33 → 2 ≤ l.length) ∧ (op = 35 → 3 ≤ l.length) ∧ l.length ≤ 1048576 ∧ okEs l
def okEs : List Tree → Prop
  | [] => True
  | t :: ts => okE t ∧ okEs ts
end
mutual
theorem expr_w : ∀ T, okE T → EW T
  | .mk op t n l a, h => by
    rw [okE] at h
    obtain ⟨h1, h2, h3, h4, h5, h6⟩ := h
    have he := exprs_ok l h6
    by_cases hr : op < 30 ∨ 38 < op
    · exact ex_none hr
    · have hop : op = 30 ∨ op = 31 ∨ op = 32 ∨ op = 33 ∨ op = 34 ∨ op = 35 ∨ op = 36 ∨ op = 37 ∨ op = 38 := by omega
      rcases hop with rfl | rfl | rfl | rfl | rfl | rfl | rfl | rfl | rfl
      · exact ex30 (h1 rfl).1 (h1 rfl).2
      · exact ex31
      · exact ex32 (h2 (.inl rfl))
      · have k := h3 rfl
        exact ex33 k (he 0 (by omega)) (he 1 (by omega))
      · have k := h2 (.inr rfl)
        exact ex34 k (he 0 (by omega))
      · have k := h4 rfl
        exact ex35 k (he 0 (by omega)) (he 1 (by omega)) (he 2 (by omega))
      · exact ex36 he h5
      · exact ex37
      · exact ex38
theorem exprs_ok : ∀ l, okEs l → ∀ i (h : i < l.length), EW l[i]
  | [], _, i, h => absurd h (by simp)
  | t :: ts, h, i, hi => by
    rw [okEs] at h
    cases i with
    | zero => exact expr_w t h.1
    | succ i => exact exprs_ok ts h.2 i (by simpa using hi)
end
def prV (v : Tree) : List UInt8 := (txT v).data.toList ++ [58, 32] ++ prE ((lsT v).getD 0 nilT)
def okV (v : Tree) : Prop := 1 ≤ (lsT v).length ∧ EW ((lsT v).getD 0 nilT)
def prP (p : Tree) : List UInt8 := ((txT p).data.toList ++ [123]) ++ comJ ((lsT p).map prV) ++ [125]
def PW (p : Tree) : Prop := ∀ (B g : Nat) (l : List UInt8) (w : World) (v : Value), Bt B g l w → Nd (fun q => q < B) w p v → Pf B w → Sz l (prP p) → Calls Tryz.prog 171 #[.pointer (some ⟨g, 0, none⟩), v] w (Wrt B g l (prP p) w)
set_option maxHeartbeats 4000000 in
theorem part_w {op : Nat} {t : ByteArray} {n : Int} {ts : List Tree} {a : Nat} (hv : ∀ i (h : i < ts.length), okV ts[i]) (hn : ts.length ≤ 1048576) : PW (.mk op t n ts a) := by
  intro B g lw w v hb hnd hpf hz
  obtain ⟨gn, ao, c, gl, gs, rfl, hce, hcap, hc⟩ := nd_open hnd
  obtain ⟨xs, hxs⟩ : ∃ xs, xs = ts.map prV := ⟨_, rfl⟩
  have ET : prP (.mk op t n ts a) = (t.data.toList ++ [123]) ++ comJ xs ++ [125] := by rw [hxs]; rfl
  rw [ET] at hz ⊢
  obtain ⟨m, hnn⟩ : ∃ m, m = ts.length := ⟨_, rfl⟩
  obtain ⟨l, hlw⟩ : ∃ l, l = lw ++ (t.data.toList ++ [123]) := ⟨_, rfl⟩
  have HXN : Hid (xs.length = m) := by unfold Hid; rw [hxs, hnn]; simp
  have HX : Hid (∀ i (h : i < ts.length) (h' : i < xs.length), xs[i] = prV ts[i]) := fun i h h' => by simp [hxs]
  have J0 := hide (put2 t ⟨#[123]⟩ hb (show Sz lw (t.data.toList ++ [123]) from hz.left.left))
  have HZ : Hid (Sz l (comJ xs)) := by
    unfold Hid
    rw [hlw]
    have := hz
    unfold Sz at this ⊢
    simp only [List.length_append] at this ⊢
    omega
  have J9 : Hid (∀ w', Wo B g (l ++ comJ xs) w w' → Calls Tryz.prog 57 #[.pointer (some ⟨g, 0, none⟩), .slice (some ⟨w'.heap.size, 0, none⟩) 1 1] (w'.alloc (.cells #[.string ⟨#[125]⟩] 9)) (Wrt B g (l ++ comJ xs) [125] w')) := fun w' h => put1 ⟨#[125]⟩ h.1 (show Sz (l ++ comJ xs) [125] from by
    rw [hlw]
    have := hz
    unfold Sz at this ⊢
    simp only [List.length_append] at this ⊢
    omega)
  have CE : Hid (∀ w', Below B w w' → Ce B w' gn op t n ao ts.length c) := fun w' h => hce.below h
  have HC := hide hc
  have HV := hide hv
  have HP := hide hpf
  have HNN := hide hnn
  have HLW : Hid (l ++ comJ xs ++ [125] = lw ++ (t.data.toList ++ [123] ++ comJ xs ++ [125])) := by
    unfold Hid
    rw [hlw]
    simp only [List.append_assoc]
  obtain ⟨-, d0, d1, d2, d3⟩ := hce
  rw [← hnn] at hn d3 CE
  clear hb hnd hpf hz hc hcap hv hnn hxs ET
  go_enter Tryz.func171, Tryz.ntmps171
  go_wp2_with fail
  refine J0.out.mono ?_
  rintro e w1 ⟨rfl, h1⟩
  rw [← hlw] at h1
  have H1 : Hid (Wo B g (l ++ comJ (xs.take 0)) w w1) := by
    have e : l ++ comJ (xs.take 0) = l := by simp [comJ]
    unfold Hid
    rw [e]
    exact h1
  clear h1 J0 d0 d1 d2 d3 hlw
  obtain ⟨-, d0, d1, d2, d3⟩ := CE.out w1 H1.out.2.1
  go_wp2_with fail
  go_loopw [18] (fun v8 wr => ∃ i : Nat, v8 = .int .i64 (i : Int) ∧ i ≤ m ∧ Hid (Wo B g (l ++ comJ (xs.take i)) w wr)) (fun v8 _ => m - (intOf v8).toNat)
  case atStart => exact ⟨0, rfl, by omega, H1.out⟩
  case round =>
    obtain ⟨i, rfl, hi1, hw⟩ := hrel
    by_cases hi2 : i < m
    · have hit : i < ts.length := by rw [← HNN.out]; exact hi2
      have hix : i < xs.length := by rw [HXN.out]; exact hi2
      have hig : i < gs.length := by rw [HC.out.1]; exact hit
      obtain ⟨rfl, -⟩ := HC.out.2.1 (by omega)
      obtain ⟨c0, -⟩ := (HC.out.below hw.out.2.1).2.2 i hit hig
      obtain ⟨-, hndi⟩ := HC.out.2.2 i hit hig
      have zz := sz_take HZ.out hix
      have ex := HX.out i hit hix
      have hvi := HV.out i hit
      have CT := comJ_take hix
      rw [ex] at zz CT
      have J1 := hide (comma_w i hw.out.1 zz.1)
      have i9 : (i : Int) < (m : Int) := by omega
      generalize ts[i] = T at *
      generalize gs[i] = gi at *
      obtain ⟨o1, t1, n1, l1, a1⟩ := T
      obtain ⟨hl1, he1⟩ := hvi
      have hl1 : 1 ≤ l1.length := hl1
      obtain ⟨g', ao', c', gl', gs', e2, hce', hcap', hch'⟩ := nd_open hndi
      injection e2 with e2
      injection e2 with e2
      injection e2 with e2 _ _
      subst e2
      obtain ⟨rfl, -⟩ := hch'.2.1 (by omega)
      obtain ⟨g0, k0⟩ := ch_at hch' 0 (by omega)
      have e3 : (lsT (.mk o1 t1 n1 l1 a1)).getD 0 nilT = l1[0] := getD_at (show 0 < l1.length by omega)
      rw [e3] at he1
      have EV : prV (.mk o1 t1 n1 l1 a1) = t1.data.toList ++ ([58, 32] : List UInt8) ++ prE l1[0] := by
        unfold prV
        rw [e3]
        rfl
      rw [EV] at zz CT
      have hl0 : (0 : Int) < (l1.length : Int) := by omega
      have C1 : Hid (∀ w', Below B w w' → Ce B w' gi o1 t1 n1 (some ⟨gl', 0, none⟩) l1.length c') := fun w' h => hce'.below h
      have K1 : Hid (∀ w', Below B w w' → w'.cell? ⟨gl', 0, none⟩ = some (.pointer (some ⟨g0, 0, none⟩))) := fun w' h => (k0 w' h).1
      have J2 : Hid (∀ w', Wo B g (l ++ comJ (xs.take i) ++ comB i) w w' → Calls Tryz.prog 57 #[.pointer (some ⟨g, 0, none⟩), .slice (some ⟨w'.heap.size, 0, none⟩) 2 2] (w'.alloc (.cells #[.string t1, .string ⟨#[58, 32]⟩] 9)) (Wrt B g (l ++ comJ (xs.take i) ++ comB i) (t1.data.toList ++ [58, 32]) w')) := fun w' h => put2 t1 ⟨#[58, 32]⟩ h.1 (show Sz _ (t1.data.toList ++ [58, 32]) from zz.2.left)
      have J3 : Hid (∀ w', Wo B g (l ++ comJ (xs.take i) ++ comB i ++ (t1.data.toList ++ [58, 32])) w w' → Calls Tryz.prog 149 #[.pointer (some ⟨g, 0, none⟩), .pointer (some ⟨g0, 0, none⟩)] w' (Wrt B g (l ++ comJ (xs.take i) ++ comB i ++ (t1.data.toList ++ [58, 32])) (prE l1[0]) w')) := fun w' h => he1 B g _ w' _ h.1 (k0 w' h.2.1).2 (HP.out.below h.2.1) zz.2.right
      have E1 : Hid (l ++ comJ (xs.take i) ++ comB i ++ (t1.data.toList ++ ([58, 32] : List UInt8)) ++ prE l1[0] = l ++ comJ (xs.take (i + 1))) := by
        unfold Hid
        rw [CT]
        simp only [List.append_assoc]
      generalize prE l1[0] = pe at *
      clear zz hix hit hig ex CT EV e3 he1 hndi hce' hch' k0 hl1
      go_wp2_with fail
      refine J1.out.mono ?_
      rintro e w2 ⟨rfl, h2⟩
      have H2 := hide (hw.out.trans h2)
      have J := hide (J2.out w2 H2.out)
      obtain ⟨-, b0, b1, b2, b3⟩ := C1.out w2 H2.out.2.1
      clear h2 J1 J2 c0
      go_wp2_with fail
      refine J.out.mono ?_
      rintro e w3 ⟨rfl, h3⟩
      have H3 := hide (H2.out.trans h3)
      clear h3 J b0 b1 b2 b3 H2
      have J := hide (J3.out w3 H3.out)
      obtain ⟨-, b0, b1, b2, b3⟩ := C1.out w3 H3.out.2.1
      have x0 := K1.out w3 H3.out.2.1
      clear J3
      go_wp2_with fail
      refine J.out.mono ?_
      rintro e w4 ⟨rfl, h4⟩
      have H4 : Hid (Wo B g (l ++ comJ (xs.take (i + 1))) w w4) := by
        have := H3.out.trans h4
        rw [E1.out] at this
        exact this
      clear h4 J b0 b1 b2 b3 x0 H3
      go_wp2_with fail
      exact ⟨⟨i + 1, by go_num, by omega, H4.out⟩, by simp [intOf]; omega⟩
    · obtain rfl : m = i := by omega
      have H9 : Hid (Wo B g (l ++ comJ xs) w wr) := by
        have h := hw.out
        rw [← HXN.out, List.take_length] at h
        exact h
      have J := hide (J9.out wr H9.out)
      clear J9
      go_wp2_with fail
      refine J.out.mono ?_
      rintro e w4 ⟨rfl, h4⟩
      have HF : Hid (Wo B g (lw ++ (t.data.toList ++ [123] ++ comJ xs ++ [125])) w w4) := by
        have := H9.out.trans h4
        rw [HLW.out] at this
        exact this
      clear h4 J
      go_wp2_with fail
      go_end0
      exact ⟨rfl, by have h := HF.out; first | exact h | (simp only [List.append_assoc] at h ⊢; exact h) | (simp only [List.append_assoc, List.cons_append, List.nil_append] at h ⊢; exact h)⟩
end Go.Proofs.YtmfoehaeejhlpaaGreatDoor

/-
  What writes: statements without blocks.
-/
namespace Go.Proofs.YtmfoehaeejhlpaaGreatDoor
open Go.RowKit Yn
set_option maxRecDepth 100000
def ptB (l : List Tree) : List UInt8 := (if l.length = 0 then [] else [32]) ++ comJ (l.map prP)
set_option maxHeartbeats 4000000 in
theorem parts_w {B g c : Nat} {ao : Option Addr} {lw : List UInt8} (ts : List Tree) {gl : Nat} {gs : List Nat} {w : World} (he : ∀ i (h : i < ts.length), PW ts[i]) (h : Bt B g lw w) (hc : Ch B w ao ts gl gs) (hpf : Pf B w) (hn : ts.length ≤ 1048576) (hz : Sz lw (ptB ts)) : Calls Tryz.prog 151 #[.pointer (some ⟨g, 0, none⟩), .slice ao ts.length c] w (Wrt B g lw (ptB ts) w) := by
  obtain ⟨xs, hxs⟩ : ∃ xs, xs = ts.map prP := ⟨_, rfl⟩
  obtain ⟨pb, hpb⟩ : ∃ pb : List UInt8, pb = if ts.length = 0 then [] else [32] := ⟨_, rfl⟩
  have ET : ptB ts = pb ++ comJ xs := by unfold ptB; rw [hxs, hpb]
  rw [ET] at hz ⊢
  obtain ⟨l, hlw⟩ : ∃ l, l = lw ++ pb := ⟨_, rfl⟩
  obtain ⟨n, hnn⟩ : ∃ n, n = ts.length := ⟨_, rfl⟩
  have HXN : Hid (xs.length = n) := by unfold Hid; rw [hxs, hnn]; simp
  have HX : Hid (∀ i (h : i < ts.length) (h' : i < xs.length), xs[i] = prP ts[i]) := fun i h h' => by simp [hxs]
  have HP0 : Hid (ts.length = 0 → pb = []) := fun e => by rw [hpb, if_pos e]
  have HP1 : Hid (ts.length ≠ 0 → pb = [32]) := fun e => by rw [hpb, if_neg e]
  have JB : Hid (ts.length ≠ 0 → Calls Tryz.prog 57 #[.pointer (some ⟨g, 0, none⟩), .slice (some ⟨w.heap.size, 0, none⟩) 1 1] (w.alloc (.cells #[.string ⟨#[32]⟩] 9)) (Wrt B g lw [32] w)) := fun e => put1 ⟨#[32]⟩ h (show Sz lw [32] from by rw [HP1.out e] at hz; exact hz.left)
  have HB0 := hide (Wo.refl h)
  have HLE : Hid (∀ w', Wo B g l w w' → Wo B g (l ++ comJ (xs.take 0)) w w') := fun w' h => by
    have e : l ++ comJ (xs.take 0) = l := by simp [comJ]
    rw [e]
    exact h
  have HFE : Hid (∀ w', Wo B g (l ++ comJ xs) w w' → Wrt B g lw (pb ++ comJ xs) w (.returned (.tuple #[])) w') := fun w' h => ⟨rfl, by rw [← List.append_assoc, ← hlw]; exact h⟩
  have HLW := hide hlw
  have hz := (show Sz l (comJ xs) from by rw [hlw]; exact hz.right)
  have HZ := hide hz
  have HC := hide hc
  have HE := hide he
  have HP := hide hpf
  have HNN := hide hnn
  rw [← hnn] at hn ⊢
  clear h hc hz hnn hxs he hpf hlw ET hpb
  go_enter Tryz.func151, Tryz.ntmps151
  go_upto_if 8 with fail
  go_cut [8] (fun _ wx => Hid (Wo B g l w wx))
  case first =>
    by_cases h0 : n = 0
    · have h1 : ¬ (0 : Int) < (n : Int) := by omega
      have HL : Hid (Wo B g l w w) := by
        have e := HP0.out (by rw [← HNN.out]; exact h0)
        have := HB0.out
        unfold Hid
        rw [HLW.out, e, List.append_nil]
        exact this
      clear h0
      go_wp2_with fail
      go_meet
      exact HL.out
    · have h1 : (0 : Int) < (n : Int) := by omega
      have hne : ts.length ≠ 0 := by rw [← HNN.out]; exact h0
      have J := hide (JB.out hne)
      have e := HP1.out hne
      go_wp2_with fail
      refine J.out.mono ?_
      rintro e w1 ⟨rfl, h1⟩
      have HL : Hid (Wo B g l w w1) := by
        unfold Hid
        rw [HLW.out, HP1.out hne]
        exact h1
      clear h1 J
      go_wp2_with fail
      go_meet
      exact HL.out
  have H0 := hide (HLE.out _ hcut.out)
  clear HLE hcut HP0 HP1 JB HB0 HLW
  go_wp2_with fail
  go_loopw [14] (fun v8 wr => ∃ i : Nat, v8 = .int .i64 (i : Int) ∧ i ≤ n ∧ Hid (Wo B g (l ++ comJ (xs.take i)) w wr)) (fun v8 _ => n - (intOf v8).toNat)
  case atStart => exact ⟨0, rfl, by omega, H0.out⟩
  case round =>
    obtain ⟨i, rfl, hi1, hw⟩ := hrel
    by_cases hi2 : i < n
    · have hit : i < ts.length := by rw [← HNN.out]; exact hi2
      have hix : i < xs.length := by rw [HXN.out]; exact hi2
      have hig : i < gs.length := by rw [HC.out.1]; exact hit
      obtain ⟨rfl, -⟩ := HC.out.2.1 (by omega)
      obtain ⟨c0, -⟩ := (HC.out.below hw.out.2.1).2.2 i hit hig
      have zz := sz_take HZ.out hix
      have J1 := hide (comma_w i hw.out.1 zz.1)
      have i9 : (i : Int) < (n : Int) := by omega
      have E1 : Hid (l ++ comJ (xs.take i) ++ comB i ++ prP ts[i] = l ++ comJ (xs.take (i + 1))) := by
        unfold Hid
        rw [comJ_take hix, HX.out i hit hix, ← List.append_assoc, ← List.append_assoc]
      have NX : Hid (∀ w2, Wo B g (l ++ comJ (xs.take i) ++ comB i) wr w2 → Calls Tryz.prog 171 #[.pointer (some ⟨g, 0, none⟩), .pointer (some ⟨gs[i], 0, none⟩)] w2 fun e w3 => e = .returned (.tuple #[]) ∧ Wo B g (l ++ comJ (xs.take (i + 1))) w w3) := fun w2 h2 => by
        have hb2 := hw.out.2.1.trans h2.2.1
        obtain ⟨-, hnd⟩ := (HC.out.below hb2).2.2 i hit hig
        have e1 := HX.out i hit hix
        refine (HE.out i hit B g _ w2 _ h2.1 hnd (HP.out.below hb2) (e1 ▸ zz.2)).mono ?_
        rintro e w3 ⟨rfl, h3⟩
        rw [E1.out] at h3
        exact ⟨rfl, hw.out.trans (h2.trans h3)⟩
      generalize gs[i] = gi at *
      clear E1 zz hix hit hig
      go_wp2_with fail
      refine J1.out.mono ?_
      rintro e w2 ⟨rfl, h2⟩
      have J2 := hide (NX.out w2 h2)
      clear h2 J1 NX c0
      go_wp2_with fail
      refine J2.out.mono ?_
      rintro e w3 ⟨rfl, h3⟩
      have H3 := hide h3
      clear h3 J2
      go_wp2_with fail
      exact ⟨⟨i + 1, by go_num, by omega, H3.out⟩, by simp [intOf]; omega⟩
    · obtain rfl : n = i := by omega
      have H9 := hide (HFE.out wr (by
        have h := hw.out
        rw [← HXN.out, List.take_length] at h
        exact h))
      go_wp2_with fail
      go_end0
      exact H9.out
end Go.Proofs.YtmfoehaeejhlpaaGreatDoor
