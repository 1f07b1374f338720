/-
  The law's asked.
-/
import Derived.Test.YtlnjphfkinajdaaAs0
namespace Go.Proofs.Ytlnjphfkinajdaa
open Go.RowKit
section
variable {w : World} {own : Nat → Nat} {gw i n M : Nat} {G : Nat → Nat × Nat} {C : Nat → Ts} {L : List Held}
set_option maxHeartbeats 40000000 in
set_option maxRecDepth 1000000 in
theorem asked_6 (h : Bw w gw M own G n C C L) (hi : i < n) (on row col e1 e2 x : Int) (av : Option Addr) (nv cv : Nat) (hL : L.length ≤ 900000) :
    Calls Try.prog 24 #[.pointer (some ⟨gw, 0, none⟩), .agg #[.pointer (some ⟨(G i).1, 0, none⟩), .pointer (some ⟨(G i).2, 0, none⟩)], .agg #[.int .i64 6, .int .i64 on, .int .i64 row, .int .i64 col, .int .i64 e1, .int .i64 e2, .int .i64 x, .slice av nv cv]] w fun e w' => e = .returned (.bool true) ∧ Ga w own gw i n M G C (L.length + 4) w' := by
  have HH := hide h
  obtain ⟨g, hg⟩ : ∃ g, g = (G i).1 := ⟨_, rfl⟩
  obtain ⟨r, hr⟩ : ∃ r, r = (G i).2 := ⟨_, rfl⟩
  rw [← hg, ← hr]
  have HG := hide hg
  have HR := hide hr
  clear h hg hr
  go_enter Try.func24, Try.ntmps24
  go_upto_region 1 with fail
  obtain ⟨w0, hw0⟩ : ∃ X, X = (w.alloc (.cells #[.pointer (some ⟨g, 0, none⟩), .pointer (some ⟨r, 0, none⟩)] 64)).alloc (.cells #[.int .i64 6, .int .i64 on, .int .i64 row, .int .i64 col, .int .i64 e1, .int .i64 e2, .int .i64 x, .slice av nv cv] 34) := ⟨_, rfl⟩
  have B0 : Below w.heap.size w w0 := hw0 ▸ below_on (below_alloc w _) (below_alloc _ _)
  have hp0 : w0.heap[w.heap.size]? = some (.cells #[.pointer (some ⟨g, 0, none⟩), .pointer (some ⟨r, 0, none⟩)] 64 (0, 0)) := by
    rw [hw0]
    exact (heap_alloc_old _ _ (by simp)).trans (heap_alloc_new w _)
  have hq0 : w0.heap[w.heap.size + 1]? = some (.cells #[.int .i64 6, .int .i64 on, .int .i64 row, .int .i64 col, .int .i64 e1, .int .i64 e2, .int .i64 x, .slice av nv cv] 34 (0, 0)) := by
    have := heap_alloc_new (w.alloc (.cells #[.pointer (some ⟨g, 0, none⟩), .pointer (some ⟨r, 0, none⟩)] 64)) (.cells #[.int .i64 6, .int .i64 on, .int .i64 row, .int .i64 col, .int .i64 e1, .int .i64 e2, .int .i64 x, .slice av nv cv] 34)
    rw [hw0]
    simpa using this
  rw [← hw0]
  obtain ⟨kp, hkp⟩ : ∃ k, k = w.heap.size := ⟨_, rfl⟩
  obtain ⟨ks, hks⟩ : ∃ k, k = w.heap.size + 1 := ⟨_, rfl⟩
  rw [← hks] at hq0 ⊢
  rw [← hkp] at hp0 ⊢
  have HP0 := hide hp0
  have HQ0 := hide hq0
  obtain ⟨o0, ho0⟩ : ∃ o, o = ext own w.heap.size 0 := ⟨_, rfl⟩
  have H0 : Hid (Bw w0 gw M o0 G n C C L) := ho0 ▸ hide (HH.out.later B0)
  have K00 : Hid (K0 own w o0 w0) := ho0 ▸ hide (K0.later B0)
  have zp : Hid (o0 kp = 0) := by rw [ho0]; exact hide (ext_new (by omega))
  have zs : Hid (o0 ks = 0) := by rw [ho0]; exact hide (ext_new (by omega))
  clear hw0 hp0 hq0 hkp hks ho0 HH B0
  have CS : Hid (∀ W : World, W.heap[kp]? = w0.heap[kp]? → W.heap[ks]? = w0.heap[ks]? → W.cell? ⟨kp, 0, none⟩ = some (.pointer (some ⟨g, 0, none⟩)) ∧ W.cell? ⟨kp, 1, none⟩ = some (.pointer (some ⟨r, 0, none⟩)) ∧ W.cell? ⟨ks, 0, none⟩ = some (.int .i64 6) ∧ W.cell? ⟨ks, 2, none⟩ = some (.int .i64 row) ∧ W.cell? ⟨ks, 3, none⟩ = some (.int .i64 col) ∧ W.cell? ⟨ks, 4, none⟩ = some (.int .i64 e1) ∧ W.cell? ⟨ks, 5, none⟩ = some (.int .i64 e2) ∧ W.cell? ⟨ks, 6, none⟩ = some (.int .i64 x)) := fun W h1 h2 => by
    have h3 := h1.trans HP0.out
    have h4 := h2.trans HQ0.out
    refine ⟨?_, ?_, ?_, ?_, ?_, ?_, ?_, ?_⟩
    · rw [cell_of_row W kp _ _ 64 (0, 0) h3]; rfl
    · rw [cell_of_row W kp _ _ 64 (0, 0) h3]; rfl
    all_goals rw [cell_of_row W ks _ _ 34 (0, 0) h4]; rfl
  have CB : Hid (∀ W : World, Below w0.heap.size w0 W → W.cell? ⟨kp, 0, none⟩ = some (.pointer (some ⟨g, 0, none⟩)) ∧ W.cell? ⟨kp, 1, none⟩ = some (.pointer (some ⟨r, 0, none⟩)) ∧ W.cell? ⟨ks, 0, none⟩ = some (.int .i64 6) ∧ W.cell? ⟨ks, 2, none⟩ = some (.int .i64 row) ∧ W.cell? ⟨ks, 3, none⟩ = some (.int .i64 col) ∧ W.cell? ⟨ks, 4, none⟩ = some (.int .i64 e1) ∧ W.cell? ⟨ks, 5, none⟩ = some (.int .i64 e2) ∧ W.cell? ⟨ks, 6, none⟩ = some (.int .i64 x)) := fun W hW => CS.out W (hW.block kp (lt_of_block HP0.out)) (hW.block ks (lt_of_block HQ0.out))
  obtain ⟨c0, c1, c2, c3, c4, c5, c6, c7⟩ := CB.out w0 (Below.refl _ _)
  obtain ⟨hsm1, hsm2⟩ := ts_small H0.out hi
  have hcl : (rowS (C i) row).2.1.length ≤ 48 := by
    unfold rowS
    split
    · rw [rowOf_len]; exact hsm2
    · simp
  have J1 : Hid (∀ W y, Below w0.heap.size w0 W → Calls Try.prog 15 #[.pointer (some ⟨g, 0, none⟩), .int .i64 y] W fun e w' => ∃ v, e = .returned (.tuple #[.agg #[.int .i64 (rowS (C i) y).1.1, .int .i64 (rowS (C i) y).1.2], v, .int .i64 (rowS (C i) y).2.2]) ∧ w'.ownsRow W.heap.size 2 1 v (rowS (C i) y).2.1.length (zc (rowS (C i) y).2.1) ∧ Below W.heap.size W w') := fun W y hW => by
    have hc := row_code (H0.out.later hW) hi y
    rw [← HG.out] at hc
    exact hc
  have J2 : Hid (∀ W y, Below w0.heap.size w0 W → Calls Try.prog 34 #[.pointer (some ⟨r, 0, none⟩), .int .i64 y] W fun e w' => ∃ v, e = .returned (.tuple #[.agg #[.int .i64 (rowS (C i) y).1.1, .int .i64 (rowS (C i) y).1.2], v, .int .i64 (rowS (C i) y).2.2]) ∧ w'.ownsRow W.heap.size 2 1 v (rowS (C i) y).2.1.length (zc (rowS (C i) y).2.1) ∧ Below W.heap.size W w') := fun W y hW => by
    have hc := row_doc (H0.out.later hW) hi y
    rw [← HR.out] at hc
    exact hc
  have JT : Hid (∀ (W : World) (v1 v2 v3 : Value) (ka kb kc : Nat) (p1 p2 : Int), Below w0.heap.size w0 W → Hid (W.ownsRow w0.heap.size 2 1 v1 (rowS (C i) row).2.1.length (zc (rowS (C i) row).2.1)) → Hid (W.ownsRow w0.heap.size 2 1 v2 (rowS (C i) row).2.1.length (zc (rowS (C i) row).2.1)) → Hid (W.ownsRow w0.heap.size 2 1 v3 (rowS (C i) row).2.1.length (zc (rowS (C i) row).2.1)) → Hid (Ap v1 v2 ∧ Ap v1 v3) →
      Hid (∀ k, k = ka ∨ k = kb ∨ k = kc → w0.heap.size ≤ k ∧ v1.ownBlock ≠ some k ∧ v2.ownBlock ≠ some k ∧ W.heap[k]? = some (.cells #[.int .i64 p1, .int .i64 p2] 32 (0, 0))) →
      Calls Try.prog 35 #[.pointer (some ⟨gw, 0, none⟩), v1, v2, v3] W fun e w' => e = .returned (.bool true) ∧ Hid (Ga w own gw i n M G C (L.length + 4) w') ∧ (w'.cell? ⟨ka, 0, none⟩ = some (.int .i64 p1) ∧ w'.cell? ⟨ka, 1, none⟩ = some (.int .i64 p2)) ∧ (w'.cell? ⟨kb, 0, none⟩ = some (.int .i64 p1) ∧ w'.cell? ⟨kb, 1, none⟩ = some (.int .i64 p2)) ∧ (w'.cell? ⟨kc, 0, none⟩ = some (.int .i64 p1) ∧ w'.cell? ⟨kc, 1, none⟩ = some (.int .i64 p2))) := fun W v1 v2 v3 ka kb kc p1 p2 hW a1 a2 a3 a4 a5 => by
    have z : ∀ (v : Value), (W.ownsRow w0.heap.size 2 1 v (rowS (C i) row).2.1.length (zc (rowS (C i) row).2.1)) → ∀ q, v.ownBlock = some q → ext o0 w0.heap.size 0 q = 0 := fun v a q e => ext_new (a.lt q e).1
    have hs := K00.out.1.size
    refine (told_any (H0.out.later hW) v1 v2 v3 _ _ (own_lower a1.out (Nat.zero_le _)) (own_lower a2.out (Nat.zero_le _)) (own_fz a3.out) (z v1 a1.out) (z v2 a2.out) (z v3 a3.out) a4.out.1 a4.out.2 (by omega) (by omega)).mono ?_
    rintro e w' ⟨rfl, own', L', b1, b2, b3⟩
    have key : ∀ k, k = ka ∨ k = kb ∨ k = kc → w'.cell? ⟨k, 0, none⟩ = some (.int .i64 p1) ∧ w'.cell? ⟨k, 1, none⟩ = some (.int .i64 p2) := fun k hk => by
      obtain ⟨s1, s2, s3, s4⟩ := a5.out k hk
      have h5 : w'.heap[k]? = some (.cells #[.int .i64 p1, .int .i64 p2] 32 (0, 0)) := b3.1.at s4 (fun e => by
        rcases e with e | e | e
        · exact e (ext_new s1)
        · exact s2 e
        · exact s3 e)
      exact ⟨by rw [cell_of_row w' k _ _ 32 (0, 0) h5]; rfl, by rw [cell_of_row w' k _ _ 32 (0, 0) h5]; rfl⟩
    exact ⟨rfl, ⟨own', L', C i, by rw [upd_same]; exact b1, by omega, b3.k0 (K00.out.trans (K0.later hW)) (fun q e => Nat.le_trans hs (a1.out.lt q e).1) (fun q e => Nat.le_trans hs (a2.out.lt q e).1)⟩, key ka (.inl rfl), key kb (.inr (.inl rfl)), key kc (.inr (.inr rfl))⟩
  generalize hcs : rowS (C i) row = cs at *
  obtain ⟨⟨p1, p2⟩, cl, z⟩ := cs
  dsimp only at hcl JT
  clear hsm1 hsm2
  have J1a : Hid (∀ W, Below w0.heap.size w0 W → Calls Try.prog 15 #[.pointer (some ⟨g, 0, none⟩), .int .i64 row] W fun e w' => ∃ v, e = .returned (.tuple #[.agg #[.int .i64 p1, .int .i64 p2], v, .int .i64 z]) ∧ w'.ownsRow W.heap.size 2 1 v cl.length (zc cl) ∧ Below W.heap.size W w') := fun W hW => by
    have := J1.out W row hW
    rw [hcs] at this
    exact this
  have J2a : Hid (∀ W, Below w0.heap.size w0 W → Calls Try.prog 34 #[.pointer (some ⟨r, 0, none⟩), .int .i64 row] W fun e w' => ∃ v, e = .returned (.tuple #[.agg #[.int .i64 p1, .int .i64 p2], v, .int .i64 z]) ∧ w'.ownsRow W.heap.size 2 1 v cl.length (zc cl) ∧ Below W.heap.size W w') := fun W hW => by
    have := J2.out W row hW
    rw [hcs] at this
    exact this
  obtain ⟨row1, hrow1⟩ : ∃ y, y = IntKind.i64.wrap (row + 1) := ⟨_, rfl⟩
  have tw : IntKind.i64.wrap (row + 1) = row1 := hrow1.symm
  clear hcs CS HP0 HQ0 H0 K00 zp zs J2 hrow1
  go_wp2_with fail
  refine (J1a.out w0 (Below.refl _ _)).mono ?_
  rintro e w1 ⟨v1, rfl, a1, b1⟩
  clear c0 c1 c2 c3 c4 c5 c6 c7
  obtain ⟨av1, cv1, rfl⟩ := own_len a1
  have A1 := hide a1
  have B1 := hide b1
  clear a1 b1
  go_upto_region 10 with fail
  obtain ⟨w2, hw2⟩ : ∃ X, X = w1.alloc (.cells #[.int .i64 p1, .int .i64 p2] 32) := ⟨_, rfl⟩
  have B12 := hide (hw2 ▸ below_alloc w1 (.cells #[.int .i64 p1, .int .i64 p2] 32) : Below w1.heap.size w1 w2)
  have hka : w2.heap[w1.heap.size]? = some (.cells #[.int .i64 p1, .int .i64 p2] 32 (0, 0)) := hw2 ▸ heap_alloc_new w1 _
  rw [← hw2]
  obtain ⟨ka, hka'⟩ : ∃ k, k = w1.heap.size := ⟨_, rfl⟩
  rw [← hka'] at hka ⊢
  have HKA := hide hka
  have HKA' := hide hka'
  clear hw2 hka hka'
  have B2 := hide (below_on B1.out B12.out)
  obtain ⟨c0, c1, c2, c3, c4, c5, c6, c7⟩ := CB.out w2 B2.out
  go_wp2_with fail
  refine (J1.out w2 row1 B2.out).mono ?_
  rintro e w3 ⟨vx, rfl, -, b3⟩
  clear c0 c1 c2 c3 c4 c5 c6 c7
  have B23 := hide b3
  have B3 := hide (below_on B2.out b3)
  obtain ⟨c0, c1, c2, c3, c4, c5, c6, c7⟩ := CB.out w3 B3.out
  clear b3
  go_wp2_with fail
  refine (J1a.out w3 B3.out).mono ?_
  rintro e w4 ⟨v2, rfl, a2, b4⟩
  clear c0 c1 c2 c3 c4 c5 c6 c7
  have B34 := hide b4
  have B4 := hide (below_on B3.out b4)
  obtain ⟨av2, cv2, rfl⟩ := own_len a2
  have A2 := hide a2
  clear a2 b4
  go_upto_region 12 with fail
  obtain ⟨w5, hw5⟩ : ∃ X, X = w4.alloc (.cells #[.int .i64 p1, .int .i64 p2] 32) := ⟨_, rfl⟩
  have B45 := hide (hw5 ▸ below_alloc w4 (.cells #[.int .i64 p1, .int .i64 p2] 32) : Below w4.heap.size w4 w5)
  have hkb : w5.heap[w4.heap.size]? = some (.cells #[.int .i64 p1, .int .i64 p2] 32 (0, 0)) := hw5 ▸ heap_alloc_new w4 _
  rw [← hw5]
  obtain ⟨kb, hkb'⟩ : ∃ k, k = w4.heap.size := ⟨_, rfl⟩
  rw [← hkb'] at hkb ⊢
  have HKB := hide hkb
  have HKB' := hide hkb'
  clear hw5 hkb hkb'
  have B5 := hide (below_on B4.out B45.out)
  obtain ⟨c0, c1, c2, c3, c4, c5, c6, c7⟩ := CB.out w5 B5.out
  go_wp2_with fail
  refine (J2a.out w5 B5.out).mono ?_
  rintro e w6 ⟨v3, rfl, a3, b6⟩
  clear c0 c1 c2 c3 c4 c5 c6 c7
  have B56 := hide b6
  have B6 := hide (below_on B5.out b6)
  obtain ⟨av3, cv3, rfl⟩ := own_len a3
  have A3 := hide a3
  clear a3 b6
  go_upto_region 13 with fail
  obtain ⟨w7, hw7⟩ : ∃ X, X = w6.alloc (.cells #[.int .i64 p1, .int .i64 p2] 32) := ⟨_, rfl⟩
  have B67 := hide (hw7 ▸ below_alloc w6 (.cells #[.int .i64 p1, .int .i64 p2] 32) : Below w6.heap.size w6 w7)
  have hkc : w7.heap[w6.heap.size]? = some (.cells #[.int .i64 p1, .int .i64 p2] 32 (0, 0)) := hw7 ▸ heap_alloc_new w6 _
  rw [← hw7]
  obtain ⟨kc, hkc'⟩ : ∃ k, k = w6.heap.size := ⟨_, rfl⟩
  rw [← hkc'] at hkc ⊢
  have HKC := hide hkc
  have HKC' := hide hkc'
  clear hw7 hkc hkc'
  have B7 := hide (below_on B6.out B67.out)
  have JZ : Hid (Calls Try.prog 35 #[.pointer (some ⟨gw, 0, none⟩), .slice av1 cl.length cv1, .slice av2 cl.length cv2, .slice av3 cl.length cv3] w7 fun e w' => e = .returned (.bool true) ∧ Hid (Ga w own gw i n M G C (L.length + 4) w') ∧ (w'.cell? ⟨ka, 0, none⟩ = some (.int .i64 p1) ∧ w'.cell? ⟨ka, 1, none⟩ = some (.int .i64 p2)) ∧ (w'.cell? ⟨kb, 0, none⟩ = some (.int .i64 p1) ∧ w'.cell? ⟨kb, 1, none⟩ = some (.int .i64 p2)) ∧ (w'.cell? ⟨kc, 0, none⟩ = some (.int .i64 p1) ∧ w'.cell? ⟨kc, 1, none⟩ = some (.int .i64 p2))) := by
    have s12 := B12.out.size
    have s23 := B23.out.size
    have s34 := B34.out.size
    have s45 := B45.out.size
    have s56 := B56.out.size
    have s67 := B67.out.size
    have s01 := B1.out.size
    have hka := HKA'.out
    have hkb := HKB'.out
    have hkc := HKC'.out
    have lka := lt_of_block HKA.out
    have b27 : Below w2.heap.size w2 w7 := below_on (below_on (below_on (below_on B23.out B34.out) B45.out) B56.out) B67.out
    have b17 := below_on B12.out b27
    have b47 : Below w4.heap.size w4 w7 := below_on (below_on B45.out B56.out) B67.out
    have b57 : Below w5.heap.size w5 w7 := below_on B56.out B67.out
    refine JT.out w7 _ _ _ ka kb kc p1 p2 B7.out (hide (own_later A1.out b17)) (hide (own_lower (own_later A2.out b47) (by omega))) (hide (own_lower (own_later A3.out B67.out) (by omega))) ⟨ap_later A1.out A2.out (by omega), ap_later A1.out A3.out (by omega)⟩ (hide fun k hk => ?_)
    rcases hk with rfl | rfl | rfl
    · exact ⟨by omega, fun e => by have := (A1.out.lt _ e).2; omega, fun e => by have := (A2.out.lt _ e).1; omega, (b27.block _ (lt_of_block HKA.out)).trans HKA.out⟩
    · exact ⟨by omega, fun e => by have := (A1.out.lt _ e).2; omega, fun e => by have := (A2.out.lt _ e).2; omega, (b57.block _ (lt_of_block HKB.out)).trans HKB.out⟩
    · exact ⟨by omega, fun e => by have := (A1.out.lt _ e).2; omega, fun e => by have := (A2.out.lt _ e).2; omega, HKC.out⟩
  clear JT J1 J1a J2a A1 A2 A3 HKA HKA' HKB HKB' HKC HKC' B1 B2 B3 B4 B5 B6 B7 B12 B23 B34 B45 B56 B67 CB
  go_wp2_with fail
  refine JZ.out.mono ?_
  rintro e w8 ⟨rfl, HF, ⟨x0, x1⟩, ⟨y0, y1⟩, z0, z1⟩
  go_wp2_with fail
  go_ret
  exact ⟨rfl, HF.out⟩
end
end Go.Proofs.Ytlnjphfkinajdaa
