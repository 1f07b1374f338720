/-
  The law's step: Clone.
-/
import Derived.Test.YtlnjphfkinajdaaAs0
import Derived.Test.YtlnjphfkinajdaaSp1
namespace Go.Proofs.Ytlnjphfkinajdaa
open Go.RowKit
section
variable {w : World} {own : Nat → Nat} {gw n M B : Nat} {G : Nat → Nat × Nat} {C : Nat → Ts} {L : List Held}
set_option maxHeartbeats 40000000 in
set_option maxRecDepth 1000000 in
theorem step_9 (h : Bw w gw M own G n C C L) (hF : Fe own B w) (on row col e1 e2 x : Int) (av : Option Addr) (nv cv : Nat) (hn1 : 1 ≤ n) (hn : n ≤ 1000) (_hM : M ≤ 900000) (_hL : L.length ≤ 800000) (ho : -9223372036854775808 ≤ on ∧ on ≤ 9223372036854775807) (_hE : InB (e1, e2)) :
    Calls Try.prog 7 #[.pointer (some ⟨gw, 0, none⟩), .agg #[.int .i64 9, .int .i64 on, .int .i64 row, .int .i64 col, .int .i64 e1, .int .i64 e2, .int .i64 x, .slice av nv cv]] w fun e w' => e = .returned (.bool true) ∧ Gs w gw B (M + 700) (n + 1) (L.length + 4) w' := by
  have HH := hide h
  have HF := hide hF
  go_enter Try.func7, Try.ntmps7
  go_upto_region 1 with fail
  obtain ⟨w0, hw0⟩ : ∃ X, X = w.alloc (.cells #[.int .i64 9, .int .i64 on, .int .i64 row, .int .i64 col, .int .i64 e1, .int .i64 e2, .int .i64 x, .slice av nv cv] 34) := ⟨_, rfl⟩
  have B0 : Below w.heap.size w w0 := hw0 ▸ below_alloc w _
  have hq0 : w0.heap[w.heap.size]? = some (.cells #[.int .i64 9, .int .i64 on, .int .i64 row, .int .i64 col, .int .i64 e1, .int .i64 e2, .int .i64 x, .slice av nv cv] 34 (0, 0)) := hw0 ▸ heap_alloc_new w _
  have hs0 : w0.heap.size = w.heap.size + 1 := by rw [hw0]; simp
  rw [← hw0]
  obtain ⟨ks, hks⟩ : ∃ k, k = w.heap.size := ⟨_, rfl⟩
  rw [← hks] at hq0 ⊢
  have HQ0 := hide hq0
  obtain ⟨o0, ho0⟩ : ∃ o, o = ext own w.heap.size 0 := ⟨_, rfl⟩
  have H0 : Hid (Bw w0 gw M o0 G n C C L) := ho0 ▸ hide (HH.out.later B0)
  have F0 : Hid (Fe o0 B w0) := ho0 ▸ hide (HF.out.ext B0.size 0)
  have BB0 : Hid (Below B w w0) := hide (B0.mono HF.out.1)
  have zs : Hid (o0 ks = 0) := by rw [ho0]; exact hide (ext_new (by omega))
  have HB0 := hide B0
  clear hw0 hq0 hks ho0 HH B0 h hF hs0
  have CB : Hid (∀ W : World, W.heap[ks]? = w0.heap[ks]? → W.cell? ⟨ks, 0, none⟩ = some (.int .i64 9) ∧ W.cell? ⟨ks, 1, none⟩ = some (.int .i64 on) ∧ W.cell? ⟨ks, 2, none⟩ = some (.int .i64 row) ∧ W.cell? ⟨ks, 3, none⟩ = some (.int .i64 col) ∧ W.cell? ⟨ks, 4, none⟩ = some (.int .i64 e1) ∧ W.cell? ⟨ks, 5, none⟩ = some (.int .i64 e2) ∧ W.cell? ⟨ks, 6, none⟩ = some (.int .i64 x) ∧ W.cell? ⟨ks, 7, none⟩ = some (.slice av nv cv)) := fun W h2 => by
    have h4 := h2.trans HQ0.out
    refine ⟨?_, ?_, ?_, ?_, ?_, ?_, ?_, ?_⟩
    all_goals rw [cell_of_row W ks _ _ 34 (0, 0) h4]; rfl
  have JP : Hid (∀ W : World, Calls Try.prog 9 #[.int .i64 on, .int .i64 (n : Int)] W fun e w' => e = .returned (.int .i64 (pk on n : Int)) ∧ w' = W) := fun W => pick_any on n W ho.1 ho.2 (by omega) (by omega)
  have hi : pk on n < n := pk_lt on (by omega)
  generalize pk on n = i at *
  obtain ⟨gl, cl, hpr⟩ := Bu.pair H0.out hi
  have HPR := hide hpr
  obtain ⟨g, hg⟩ : ∃ g, g = (G i).1 := ⟨_, rfl⟩
  obtain ⟨r, hr⟩ : ∃ r, r = (G i).2 := ⟨_, rfl⟩
  unfold ptr at HPR
  rw [← hg, ← hr] at HPR
  have HG := hide hg
  have HR := hide hr
  have ti : (i : Int) < (n : Int) := by omega
  have HPW : Hid (∀ W, Below w0.heap.size w0 W → W.cell? ⟨gw, 0, none⟩ = some (.slice (some ⟨gl, 0, none⟩) n cl) ∧ W.cell? ⟨ks, 1, none⟩ = some (.int .i64 on) ∧ W.cell? ⟨gl, i * 2, none⟩ = some (.pointer (some ⟨g, 0, none⟩)) ∧ W.cell? ⟨gl, i * 2 + 1, none⟩ = some (.pointer (some ⟨r, 0, none⟩))) := fun W hW => ⟨(HPR.out W hW).1, (CB.out W (hW.block ks (lt_of_block HQ0.out))).2.1, (HPR.out W hW).2⟩
  clear hpr hg hr HPR ho
  obtain ⟨c0, -, -, -, -, -, -, -⟩ := CB.out w0 rfl
  have e1' : ((9 : Int) == 1) = false := by decide
  obtain ⟨d0, d1, d2, d3⟩ := HPW.out w0 (Below.refl _ _)
  have x0 := fun o => (HPW.out _ (below_on (below_alloc w0 o) (below_drew _))).1
  have x1 := fun o => (HPW.out _ (below_on (below_alloc w0 o) (below_drew _))).2.1
  have x2 := fun o => (HPW.out _ (below_on (below_alloc w0 o) (below_drew _))).2.2.1
  have x3 := fun o => (HPW.out _ (below_on (below_alloc w0 o) (below_drew _))).2.2.2
  go_upto_region 7 with fail
  have y0 := World.new_ne w0 _ d0
  have y1 := World.new_ne w0 _ d1
  have y2 := World.new_ne w0 _ d2
  have y3 := World.new_ne w0 _ d3
  go_cut [9] (fun v9 W => v9 = .pointer (some ⟨w0.heap.size, 0, none⟩) ∧ Hid (W = (w0.alloc (.cells #[.pointer (some ⟨g, 0, none⟩), .pointer (some ⟨r, 0, none⟩)] 64)).drew))
  case first =>
    go_region_held3 (fun W => W.cell? ⟨gw, 0, none⟩ = some (.slice (some ⟨gl, 0, none⟩) n cl) ∧ W.cell? ⟨ks, 1, none⟩ = some (.int .i64 on) ∧ W.cell? ⟨gl, i * 2, none⟩ = some (.pointer (some ⟨g, 0, none⟩)) ∧ W.cell? ⟨gl, i * 2 + 1, none⟩ = some (.pointer (some ⟨r, 0, none⟩))) (go_keep) (first | (go_at_call 9; refine (JP.out _).mono ?_; rintro e w1 ⟨rfl, rfl⟩))
    all_goals
      go_wp2_with fail
      go_meet
      exact ⟨rfl, rfl⟩
  obtain ⟨rfl, HWC⟩ := hcut
  obtain ⟨w1, rfl⟩ : ∃ X, X = wc := ⟨_, rfl⟩
  obtain ⟨kp, hkp⟩ : ∃ k, k = w0.heap.size := ⟨_, rfl⟩
  rw [← hkp]
  have b01 : Below w0.heap.size w0 w1 := by rw [HWC.out]; exact below_on (below_alloc w0 _) (below_drew _)
  have hp1 : w1.heap[kp]? = some (.cells #[.pointer (some ⟨g, 0, none⟩), .pointer (some ⟨r, 0, none⟩)] 64 (0, 0)) := by
    rw [HWC.out, hkp]
    exact ((below_drew _).block _ (by simp)).trans (heap_alloc_new w0 _)
  obtain ⟨o1, ho1⟩ : ∃ o, o = ext o0 w0.heap.size 0 := ⟨_, rfl⟩
  have H1 : Hid (Bw w1 gw M o1 G n C C L) := ho1 ▸ hide (H0.out.later b01)
  have F1 : Hid (Fe o1 B w1) := ho1 ▸ hide (F0.out.ext b01.size 0)
  have BB1 : Hid (Below B w w1) := hide (BB0.out.trans (b01.mono F0.out.1))
  have BW1 : Hid (Below w.heap.size w w1) := hide (below_on HB0.out b01)
  have zp1 : Hid (o1 kp = 0) := by rw [ho1]; exact hide (ext_new (by omega))
  have zs1 : Hid (o1 ks = 0) := by rw [ho1, ext_old (lt_of_block HQ0.out)]; exact zs
  have HP1 := hide hp1
  have HQ1 := hide ((b01.block ks (lt_of_block HQ0.out)).trans HQ0.out)
  have CB1 : Hid (∀ W : World, W.heap[ks]? = w1.heap[ks]? → W.heap[kp]? = w1.heap[kp]? → (W.cell? ⟨ks, 0, none⟩ = some (.int .i64 9) ∧ W.cell? ⟨ks, 1, none⟩ = some (.int .i64 on) ∧ W.cell? ⟨ks, 2, none⟩ = some (.int .i64 row) ∧ W.cell? ⟨ks, 3, none⟩ = some (.int .i64 col) ∧ W.cell? ⟨ks, 4, none⟩ = some (.int .i64 e1) ∧ W.cell? ⟨ks, 5, none⟩ = some (.int .i64 e2) ∧ W.cell? ⟨ks, 6, none⟩ = some (.int .i64 x) ∧ W.cell? ⟨ks, 7, none⟩ = some (.slice av nv cv)) ∧ W.cell? ⟨kp, 0, none⟩ = some (.pointer (some ⟨g, 0, none⟩)) ∧ W.cell? ⟨kp, 1, none⟩ = some (.pointer (some ⟨r, 0, none⟩))) := fun W h1 h2 => by
    refine ⟨CB.out W (h1.trans (b01.block ks (lt_of_block HQ0.out))), ?_, ?_⟩
    all_goals rw [cell_of_row W kp _ _ 64 (0, 0) (h2.trans HP1.out)]; rfl
  clear hkp hp1 ho1 b01 HWC H0 F0 BB0 zs HQ0 CB HPW d0 d1 d2 d3 x0 x1 x2 x3 y0 y1 y2 y3 c0 JP HB0
  obtain ⟨⟨c0, c1, c2, c3, c4, c5, c6, c7⟩, q0, q1⟩ := CB1.out w1 rfl rfl
  obtain ⟨i6, hi6, hz0, hz1, hz2⟩ := info_parts info64
  have J1 : Hid (Calls Try.prog 17 #[.pointer (some ⟨g, 0, none⟩)] w1 fun e w' => ∃ g', e = .returned (.pointer (some ⟨g', 0, none⟩)) ∧ Hid (TbS w' (fun q => w1.heap.size ≤ q ∧ q < w'.heap.size) g' (C i) M) ∧ Hid (Below w1.heap.size w1 w')) := by
    obtain ⟨m, hm, ht⟩ := H1.out.1 i hi
    have hc := cloned_any ht
    rw [← HG.out] at hc
    refine hc.mono ?_
    rintro e w' ⟨g', rfl, t1, t2⟩
    exact ⟨g', rfl, ⟨m, hm, t1.tight⟩, t2⟩
  go_wp2_with fail
  refine J1.out.mono ?_
  rintro e w2 ⟨g', rfl, HT, HB2⟩
  clear c0 c1 c2 c3 c4 c5 c6 c7 q0 q1 J1
  obtain ⟨-, -, vl, vi, vm, k1, k2, k3⟩ := id H1.out
  obtain ⟨al, cl, rfl⟩ := own_len k1.2.1
  have CS : Hid (∀ W, Below w1.heap.size w1 W → W.cell? ⟨gw, 0, none⟩ = some (.slice al n cl) ∧ W.cell? ⟨kp, 1, none⟩ = some (.pointer (some ⟨r, 0, none⟩))) := fun W hW => ⟨(k1.later hW).cell.1, (CB1.out W (hW.block ks (lt_of_block HQ1.out)) (hW.block kp (lt_of_block HP1.out))).2.2⟩
  have JD : Hid (Calls Try.prog 23 #[.pointer (some ⟨r, 0, none⟩)] w2.drew fun e w' => ∃ r', e = .returned (.pointer (some ⟨r', 0, none⟩)) ∧ Hid ((∀ o, (w'.alloc o).ownsRow 0 64 2 (.slice al n cl) n (plz G n)) ∧ ∀ (v' : Value) (w4 : World), Hid (w4.ownsRow 0 64 2 v' (n + 1) (plz G n ++ [.pointer (some ⟨g', 0, none⟩), .pointer (some ⟨r', 0, none⟩)])) → Hid ((w'.alloc (.cells #[.pointer (some ⟨g', 0, none⟩), .pointer (some ⟨r', 0, none⟩)] 64)).grownBy w4 (Value.slice al n cl).ownBlock) → Hid ((Value.slice al n cl).ownBlock = v'.ownBlock ∨ v'.ownBlock = some (w'.alloc (.cells #[.pointer (some ⟨g', 0, none⟩), .pointer (some ⟨r', 0, none⟩)] 64)).heap.size) → Hid (Gs w gw B (M + 700) (n + 1) (L.length + 4) (w4.setCell ⟨gw, 0, none⟩ v')) ∧ (w4.cell? ⟨gw, 0, none⟩ = some (.slice al n cl) ∧ w4.cell? ⟨kp, 1, none⟩ = some (.pointer (some ⟨r, 0, none⟩))) ∧ w4.frozen? ⟨gw, 0, none⟩ = false) ∧ (w'.cell? ⟨gw, 0, none⟩ = some (.slice al n cl) ∧ w'.cell? ⟨kp, 1, none⟩ = some (.pointer (some ⟨r, 0, none⟩))) ∧ ∀ o, (w'.alloc o).cell? ⟨gw, 0, none⟩ = some (.slice al n cl) ∧ (w'.alloc o).cell? ⟨kp, 1, none⟩ = some (.pointer (some ⟨r, 0, none⟩))) := by
    have hb2 : Below w1.heap.size w1 w2.drew := below_on HB2.out (below_drew w2)
    have hd0 : Dt w2.drew (Lb o1 w1 (4 + 2 * i)) (G i).2 (C i).1 (C i).2 := Dt.later (H1.out.2.1 i hi) hb2
    have hc := dclone_any hd0
    rw [← HR.out] at hc
    refine hc.mono ?_
    rintro e w' ⟨r', rfl, t1, t2⟩
    have hb3 := below_on hb2 t2
    refine ⟨r', rfl, ⟨fun o => own_later k1.2.1 (below_on hb3 (below_alloc _ _)), fun v' w4 h1 h2 h3 => ?_⟩, CS.out w' hb3, fun o => CS.out _ (below_on hb3 (below_alloc _ _))⟩
    have hb4 := below_alloc w' (.cells #[.pointer (some ⟨g', 0, none⟩), .pointer (some ⟨r', 0, none⟩)] 64)
    have s2 : w2.heap.size ≤ w'.heap.size := by have := t2.size; simpa using this
    have hp : TbS w' (fun q => w1.heap.size ≤ q ∧ q < w2.heap.size) g' (C i) M := by
      obtain ⟨m, hm, ht⟩ := HT.out
      exact ⟨m, hm, ht.later (below_on (below_drew w2) t2)⟩
    have hd : DtS w' (fun q => w2.heap.size ≤ q) r' (C i) := Dt.mono t1 (fun q e => by simpa using e)
    have s12 := HB2.out.size
    obtain ⟨b1, b2⟩ := H1.out.push hb3 hp hd (fun q e => e.1) (fun q e => by omega) (fun q e e' => by omega) F1.out hb4 k1 k2 k3 h1.out h2.out (by
      rcases h3.out with h | h
      · exact .inl h.symm
      · exact .inr h)
    have hgw : w4.heap[gw]? = some (.cells #[.slice al n cl, vi, vm] 29 (0, 0)) := (h2.out.block gw (by have := k1.lt; have := hb3.size; simp; omega) (fun e => k1.2.2.2.2.1.1 e.symm)).trans (((below_on hb3 hb4).block gw k1.lt).trans k1.1)
    have hkp : w4.heap[kp]? = w1.heap[kp]? := (h2.out.block kp (by have := lt_of_block HP1.out; have := hb3.size; simp; omega) (fun e => by
      have := (k2.2.1 kp e.symm).2
      have := zp1.out
      omega)).trans ((below_on hb3 hb4).block kp (lt_of_block HP1.out))
    refine ⟨⟨upd G n (g', r'), n + 1, upd C n (C i), L, ?_, by omega, by omega, by omega, BB1.out.trans b2⟩, ⟨by rw [cell_of_row w4 gw _ _ 29 (0, 0) hgw]; rfl, by rw [cell_of_row w4 kp _ _ 64 (0, 0) (hkp.trans HP1.out)]; rfl⟩, frozen_of_row w4 gw _ _ 29 hgw⟩
    obtain ⟨own', f1, f2⟩ := b1
    exact ⟨own', f1, f2.bound (by omega)⟩
  clear k1 k2 k3 H1 F1 BB1 BW1 zp1 zs1 HP1 HQ1 CB1 HT
  obtain ⟨d0, d1⟩ := CS.out w2 HB2.out
  go_upto_region 17 with fail
  have HS : Hid (w2.drew.cell? ⟨gw, 0, none⟩ = some (.slice al n cl) ∧ w2.drew.cell? ⟨kp, 1, none⟩ = some (.pointer (some ⟨r, 0, none⟩))) := CS.out _ (below_on HB2.out (below_drew w2))
  refine wp_region_noPanic ?_
  refine wp_region_late (J := fun i => i != 14) (S := fun W => W.cell? ⟨gw, 0, none⟩ = some (.slice al n cl) ∧ W.cell? ⟨kp, 1, none⟩ = some (.pointer (some ⟨r, 0, none⟩))) (by kernel_rfl) HS.out (fun hHeld => ?_)
  refine' wpAnyJ_takeW (i := 0) (oi := { dst := some 124, op := Op.move (Operand.tmp 0), type := 24, pos := "law.go:201", after := #[], guard := none }) (v := _) rfl (by kernel_rfl) (by kernel_rfl) (by kernel_rfl) (fun _ _ _ h => h) (Or.inl ⟨by rfl, ?hyA1⟩) ?reA1
  case hyA1 => (intro W hSw; (try dsimp only at hSw); go_simp; try with_reducible rfl)
  try simp only [Act.put, List.setIfInBounds_toArray, List.set_cons_zero, List.set_cons_succ]
  refine' wpAnyJ_takeW (i := 1) (oi := { dst := some 125, op := Op.move (Operand.tmp 0), type := 24, pos := "law.go:201", after := #[], guard := none }) (v := _) rfl (by kernel_rfl) (by kernel_rfl) (by kernel_rfl) (fun _ _ _ h => h) (Or.inl ⟨by rfl, ?hyA2⟩) ?reA2
  case hyA2 => (intro W hSw; (try dsimp only at hSw); go_simp; try with_reducible rfl)
  try simp only [Act.put, List.setIfInBounds_toArray, List.set_cons_zero, List.set_cons_succ]
  refine' wpAnyJ_takeW (i := 2) (oi := { dst := some 126, op := Op.nilCheck (Operand.tmp 125), type := 0, pos := "law.go:201", after := #[{ on := 1, ground := Ground.data }], guard := none }) (v := _) rfl (by kernel_rfl) (by kernel_rfl) (by kernel_rfl) (fun _ _ _ h => h) (Or.inl ⟨by rfl, ?hyA3⟩) ?reA3
  case hyA3 => (intro W hSw; (try dsimp only at hSw); go_simp; try with_reducible rfl)
  try simp only [Act.put, List.setIfInBounds_toArray, List.set_cons_zero, List.set_cons_succ]
  refine' wpAnyJ_takeW (i := 3) (oi := { dst := some 127, op := Op.fieldAddr 29 (Operand.tmp 126) 0, type := 0, pos := "law.go:201", after := #[{ on := 2, ground := Ground.data }], guard := none }) (v := _) rfl (by kernel_rfl) (by kernel_rfl) (by kernel_rfl) (fun _ _ _ h => h) (Or.inl ⟨by rfl, ?hyA4⟩) ?reA4
  case hyA4 => (intro W hSw; (try dsimp only at hSw); go_simp; try with_reducible rfl)
  try simp only [Act.put, List.setIfInBounds_toArray, List.set_cons_zero, List.set_cons_succ]
  refine' wpAnyJ_take (i := 4) (oi := { dst := some 128, op := Op.load 25 (Operand.tmp 127), type := 25, pos := "law.go:201", after := #[{ on := 3, ground := Ground.data }], guard := none }) (v := _) rfl (by kernel_rfl) (by kernel_rfl) (by kernel_rfl) (by kernel_rfl) (fun _ _ _ h => h) (Or.inl ⟨by rfl, ?hyA5⟩) (by assumption) ?reA5
  case hyA5 => (intro W hSw; (try dsimp only at hSw); go_simp; try with_reducible rfl)
  try simp only [Act.put, List.setIfInBounds_toArray, List.set_cons_zero, List.set_cons_succ]
  refine' wpAnyJ_takeW (i := 5) (oi := { dst := some 129, op := Op.move (Operand.tmp 16), type := 38, pos := "law.go:201", after := #[], guard := none }) (v := _) rfl (by kernel_rfl) (by kernel_rfl) (by kernel_rfl) (fun _ _ _ h => h) (Or.inl ⟨by rfl, ?hyA6⟩) ?reA6
  case hyA6 => (intro W hSw; (try dsimp only at hSw); go_simp; try with_reducible rfl)
  try simp only [Act.put, List.setIfInBounds_toArray, List.set_cons_zero, List.set_cons_succ]
  refine' wpAnyJ_takeW (i := 6) (oi := { dst := some 130, op := Op.fieldAddr 64 (Operand.tmp 9) 1, type := 0, pos := "law.go:201", after := #[], guard := none }) (v := _) rfl (by kernel_rfl) (by kernel_rfl) (by kernel_rfl) (fun _ _ _ h => h) (Or.inl ⟨by rfl, ?hyA7⟩) ?reA7
  case hyA7 => (intro W hSw; (try dsimp only at hSw); go_simp; try with_reducible rfl)
  try simp only [Act.put, List.setIfInBounds_toArray, List.set_cons_zero, List.set_cons_succ]
  refine' wpAnyJ_take (i := 7) (oi := { dst := some 131, op := Op.load 60 (Operand.tmp 130), type := 60, pos := "law.go:201", after := #[{ on := 6, ground := Ground.data }], guard := none }) (v := _) rfl (by kernel_rfl) (by kernel_rfl) (by kernel_rfl) (by kernel_rfl) (fun _ _ _ h => h) (Or.inl ⟨by rfl, ?hyA8⟩) (by assumption) ?reA8
  case hyA8 => (intro W hSw; (try dsimp only at hSw); go_simp; try with_reducible rfl)
  try simp only [Act.put, List.setIfInBounds_toArray, List.set_cons_zero, List.set_cons_succ]
  refine wpAnyJ_ready (rs := [8]) (by kernel_rfl) (by simp) ?_
  refine AllReadyJ.cons (o := { dst := some 132, op := Op.call { callee := Callee.value (Operand.func 23), args := #[Operand.tmp 131], argTypes := #[60] }, type := 60, pos := "law.go:201", after := #[{ on := 7, ground := Ground.data }], guard := none }) rfl (fun K hK => ?_) AllReadyJ.nil
  go_simp
  go_at_call 23
  refine JD.out.mono ?_
  rintro e w3 ⟨r', rfl, HD, ZZ, HY⟩
  go_simp
  refine hK.out _ _ (fun _ _ => ZZ) ?_
  clear hK K
  try simp only [Act.put, List.setIfInBounds_toArray, List.set_cons_zero, List.set_cons_succ]
  refine' wpAnyJ_takeW (i := 9) (oi := { dst := some 133, op := Op.build 64 #[(0, Operand.tmp 129), (1, Operand.tmp 132)], type := 64, pos := "law.go:201", after := #[{ on := 5, ground := Ground.data }, { on := 8, ground := Ground.data }], guard := none }) (v := _) rfl (by kernel_rfl) (by kernel_rfl) (by kernel_rfl) (fun _ _ _ h => h) (Or.inl ⟨by rfl, ?hyA9⟩) ?reA9
  case hyA9 => (intro W hSw; (try dsimp only at hSw); go_simp; try with_reducible rfl)
  try simp only [Act.put, List.setIfInBounds_toArray, List.set_cons_zero, List.set_cons_succ]
  refine wpAnyJ_ready (rs := [10]) (by kernel_rfl) (by simp) ?_
  refine AllReadyJ.cons (o := { dst := some 134, op := Op.buildSlice 25 1 #[(0, Operand.tmp 133)], type := 25, pos := "law.go:201", after := #[{ on := 9, ground := Ground.data }], guard := none }) rfl (fun K hK => ?_) AllReadyJ.nil
  go_simp
  refine hK.out _ _ (fun _ _ => HY _) ?_
  clear hK K
  try simp only [Act.put, List.setIfInBounds_toArray, List.set_cons_zero, List.set_cons_succ]
  refine wpAnyJ_ready (rs := [11]) (by kernel_rfl) (by simp) ?_
  refine AllReadyJ.cons (o := { dst := some 135, op := Op.call { callee := Callee.builtin Builtin.append, args := #[Operand.tmp 128, Operand.tmp 134], argTypes := #[25, 25] }, type := 25, pos := "law.go:201", after := #[{ on := 4, ground := Ground.data }, { on := 10, ground := Ground.data }, { on := 8, ground := Ground.chain }], guard := none }) rfl (fun K hK => ?_) AllReadyJ.nil
  refine step_append_lies _ rfl (.tmp 128) (.tmp 134) 25 rfl 0 64 i6 (.agg #[.pointer none, .pointer none]) 2 16 Try.underlying25 hi6 hz0 hz1 hz2 rfl (by decide) (.slice al n cl) n (plz G n) (by simp [Act.eval]) (HD.out.1 _) ⟨w3.heap.size, 0, none⟩ 1 1 [.pointer (some ⟨g', 0, none⟩), .pointer (some ⟨r', 0, none⟩)] (by simp [Act.eval]) rfl (by intro j u hj; match j, hj with | 0, hj => simp at hj; subst hj; simp [Addr.add] | 1, hj => simp at hj; subst hj; simp [Addr.add]) (by intro u hu; simp at hu; rcases hu with rfl | rfl <;> rfl) (by omega) (by unfold maxLen; omega) (by omega) (Nat.zero_le _) _ rfl ?_
  intro g9 c9 w4 h1 h2 h3 _
  obtain ⟨HG9, VV, v4⟩ := HD.out.2 _ w4 (hide h1) (hide h2) (hide (h3.imp (fun e => e) (fun e => congrArg some e)))
  clear h1 h2 h3
  refine hK.out _ _ (fun _ _ => VV) ?_
  clear hK K
  try simp only [Act.put, List.setIfInBounds_toArray, List.set_cons_zero, List.set_cons_succ]
  refine' wpAnyJ_takeW (i := 12) (oi := { dst := some 136, op := Op.nilCheck (Operand.tmp 124), type := 0, pos := "law.go:201", after := #[{ on := 0, ground := Ground.data }, { on := 0, ground := Ground.phase }, { on := 1, ground := Ground.phase }, { on := 2, ground := Ground.phase }, { on := 3, ground := Ground.phase }, { on := 4, ground := Ground.phase }, { on := 5, ground := Ground.phase }, { on := 6, ground := Ground.phase }, { on := 7, ground := Ground.phase }, { on := 8, ground := Ground.phase }, { on := 9, ground := Ground.phase }, { on := 10, ground := Ground.phase }, { on := 11, ground := Ground.phase }], guard := none }) (v := _) rfl (by kernel_rfl) (by kernel_rfl) (by kernel_rfl) (fun _ _ _ h => h) (Or.inl ⟨by rfl, ?hyA10⟩) ?reA10
  case hyA10 => (intro W hSw; (try dsimp only at hSw); go_simp; try with_reducible rfl)
  try simp only [Act.put, List.setIfInBounds_toArray, List.set_cons_zero, List.set_cons_succ]
  refine' wpAnyJ_takeW (i := 13) (oi := { dst := some 137, op := Op.fieldAddr 29 (Operand.tmp 136) 0, type := 0, pos := "law.go:201", after := #[{ on := 12, ground := Ground.data }, { on := 0, ground := Ground.phase }, { on := 1, ground := Ground.phase }, { on := 2, ground := Ground.phase }, { on := 3, ground := Ground.phase }, { on := 4, ground := Ground.phase }, { on := 5, ground := Ground.phase }, { on := 6, ground := Ground.phase }, { on := 7, ground := Ground.phase }, { on := 8, ground := Ground.phase }, { on := 9, ground := Ground.phase }, { on := 10, ground := Ground.phase }, { on := 11, ground := Ground.phase }], guard := none }) (v := _) rfl (by kernel_rfl) (by kernel_rfl) (by kernel_rfl) (fun _ _ _ h => h) (Or.inl ⟨by rfl, ?hyA11⟩) ?reA11
  case hyA11 => (intro W hSw; (try dsimp only at hSw); go_simp; try with_reducible rfl)
  try simp only [Act.put, List.setIfInBounds_toArray, List.set_cons_zero, List.set_cons_succ]
  refine wpAnyJ_ready (rs := [14]) (by kernel_rfl) (by simp) ?_
  refine AllReadyJ.cons (o := { dst := none, op := Op.store 25 (Operand.tmp 137) (Operand.tmp 135), type := 0, pos := "law.go:201", after := #[{ on := 13, ground := Ground.data }, { on := 11, ground := Ground.data }, { on := 11, ground := Ground.chain }, { on := 0, ground := Ground.phase }, { on := 1, ground := Ground.phase }, { on := 2, ground := Ground.phase }, { on := 3, ground := Ground.phase }, { on := 4, ground := Ground.phase }, { on := 5, ground := Ground.phase }, { on := 6, ground := Ground.phase }, { on := 7, ground := Ground.phase }, { on := 8, ground := Ground.phase }, { on := 9, ground := Ground.phase }, { on := 10, ground := Ground.phase }, { on := 11, ground := Ground.phase }], guard := none }) rfl (fun K hK => ?_) AllReadyJ.nil
  obtain ⟨v1, v2⟩ := VV
  go_simp
  refine hK.out _ _ (fun h => absurd h (by decide)) ?_
  clear hK K
  try simp only [Act.put, List.setIfInBounds_toArray, List.set_cons_zero, List.set_cons_succ]
  refine wpAnyJ_done (by kernel_rfl) ?_ _
  refine NoPanic.normal ?_
  go_wp2_with fail
  go_ret
  exact ⟨rfl, HG9.out⟩
end
end Go.Proofs.Ytlnjphfkinajdaa
