/-
  The law's asked.
-/
import Derived.Test.YtlnjphfkinajdaaAs0
namespace Go.Proofs.Ytlnjphfkinajdaa
open Go.RowKit
section
variable {w : World} {own : Nat → Nat} {gw i n M : Nat} {G : Nat → Nat × Nat} {C : Nat → Ts} {L : List Held}
set_option maxHeartbeats 40000000 in
set_option maxRecDepth 1000000 in
theorem asked_7 (h : Bw w gw M own G n C C L) (hi : i < n) (on row col e1 e2 x : Int) (av : Option Addr) (nv cv : Nat) (hL : L.length ≤ 900000) :
    Calls Try.prog 24 #[.pointer (some ⟨gw, 0, none⟩), .agg #[.pointer (some ⟨(G i).1, 0, none⟩), .pointer (some ⟨(G i).2, 0, none⟩)], .agg #[.int .i64 7, .int .i64 on, .int .i64 row, .int .i64 col, .int .i64 e1, .int .i64 e2, .int .i64 x, .slice av nv cv]] w fun e w' => e = .returned (.bool true) ∧ Ga w own gw i n M G C (L.length + 4) w' := by
  have HH := hide h
  obtain ⟨g, hg⟩ : ∃ g, g = (G i).1 := ⟨_, rfl⟩
  obtain ⟨r, hr⟩ : ∃ r, r = (G i).2 := ⟨_, rfl⟩
  rw [← hg, ← hr]
  have HG := hide hg
  have HR := hide hr
  clear h hg hr
  go_enter Try.func24, Try.ntmps24
  go_upto_region 1 with fail
  obtain ⟨w0, hw0⟩ : ∃ X, X = (w.alloc (.cells #[.pointer (some ⟨g, 0, none⟩), .pointer (some ⟨r, 0, none⟩)] 64)).alloc (.cells #[.int .i64 7, .int .i64 on, .int .i64 row, .int .i64 col, .int .i64 e1, .int .i64 e2, .int .i64 x, .slice av nv cv] 34) := ⟨_, rfl⟩
  have B0 : Below w.heap.size w w0 := hw0 ▸ below_on (below_alloc w _) (below_alloc _ _)
  have hp0 : w0.heap[w.heap.size]? = some (.cells #[.pointer (some ⟨g, 0, none⟩), .pointer (some ⟨r, 0, none⟩)] 64 (0, 0)) := by
    rw [hw0]
    exact (heap_alloc_old _ _ (by simp)).trans (heap_alloc_new w _)
  have hq0 : w0.heap[w.heap.size + 1]? = some (.cells #[.int .i64 7, .int .i64 on, .int .i64 row, .int .i64 col, .int .i64 e1, .int .i64 e2, .int .i64 x, .slice av nv cv] 34 (0, 0)) := by
    have := heap_alloc_new (w.alloc (.cells #[.pointer (some ⟨g, 0, none⟩), .pointer (some ⟨r, 0, none⟩)] 64)) (.cells #[.int .i64 7, .int .i64 on, .int .i64 row, .int .i64 col, .int .i64 e1, .int .i64 e2, .int .i64 x, .slice av nv cv] 34)
    rw [hw0]
    simpa using this
  rw [← hw0]
  obtain ⟨kp, hkp⟩ : ∃ k, k = w.heap.size := ⟨_, rfl⟩
  obtain ⟨ks, hks⟩ : ∃ k, k = w.heap.size + 1 := ⟨_, rfl⟩
  rw [← hks] at hq0 ⊢
  rw [← hkp] at hp0 ⊢
  have HP0 := hide hp0
  have HQ0 := hide hq0
  obtain ⟨o0, ho0⟩ : ∃ o, o = ext own w.heap.size 0 := ⟨_, rfl⟩
  have H0 : Hid (Bw w0 gw M o0 G n C C L) := ho0 ▸ hide (HH.out.later B0)
  have K00 : Hid (K0 own w o0 w0) := ho0 ▸ hide (K0.later B0)
  have zp : Hid (o0 kp = 0) := by rw [ho0]; exact hide (ext_new (by omega))
  have zs : Hid (o0 ks = 0) := by rw [ho0]; exact hide (ext_new (by omega))
  clear hw0 hp0 hq0 hkp hks ho0 HH B0
  have CS : Hid (∀ W : World, W.heap[kp]? = w0.heap[kp]? → W.heap[ks]? = w0.heap[ks]? → W.cell? ⟨kp, 0, none⟩ = some (.pointer (some ⟨g, 0, none⟩)) ∧ W.cell? ⟨kp, 1, none⟩ = some (.pointer (some ⟨r, 0, none⟩)) ∧ W.cell? ⟨ks, 0, none⟩ = some (.int .i64 7) ∧ W.cell? ⟨ks, 2, none⟩ = some (.int .i64 row) ∧ W.cell? ⟨ks, 3, none⟩ = some (.int .i64 col) ∧ W.cell? ⟨ks, 4, none⟩ = some (.int .i64 e1) ∧ W.cell? ⟨ks, 5, none⟩ = some (.int .i64 e2) ∧ W.cell? ⟨ks, 6, none⟩ = some (.int .i64 x)) := fun W h1 h2 => by
    have h3 := h1.trans HP0.out
    have h4 := h2.trans HQ0.out
    refine ⟨?_, ?_, ?_, ?_, ?_, ?_, ?_, ?_⟩
    · rw [cell_of_row W kp _ _ 64 (0, 0) h3]; rfl
    · rw [cell_of_row W kp _ _ 64 (0, 0) h3]; rfl
    all_goals rw [cell_of_row W ks _ _ 34 (0, 0) h4]; rfl
  have CB : Hid (∀ W : World, Below w0.heap.size w0 W → W.cell? ⟨kp, 0, none⟩ = some (.pointer (some ⟨g, 0, none⟩)) ∧ W.cell? ⟨kp, 1, none⟩ = some (.pointer (some ⟨r, 0, none⟩)) ∧ W.cell? ⟨ks, 0, none⟩ = some (.int .i64 7) ∧ W.cell? ⟨ks, 2, none⟩ = some (.int .i64 row) ∧ W.cell? ⟨ks, 3, none⟩ = some (.int .i64 col) ∧ W.cell? ⟨ks, 4, none⟩ = some (.int .i64 e1) ∧ W.cell? ⟨ks, 5, none⟩ = some (.int .i64 e2) ∧ W.cell? ⟨ks, 6, none⟩ = some (.int .i64 x)) := fun W hW => CS.out W (hW.block kp (lt_of_block HP0.out)) (hW.block ks (lt_of_block HQ0.out))
  obtain ⟨c0, c1, c2, c3, c4, c5, c6, c7⟩ := CB.out w0 (Below.refl _ _)
  obtain ⟨hsm1, hsm2⟩ := ts_small H0.out hi
  have hcl : (colS (C i) col).1.length ≤ 200 := by
    unfold colS
    split
    · rename_i hx
      obtain ⟨m, hm, ht⟩ := H0.out.1 i hi
      obtain ⟨_, _, _, _, _, _, _, _, hcl, -⟩ := ht
      have hk : col.toNat < (C i).2.length := by omega
      rw [getD_at _ _ _ hk, hcl _ (List.getElem_mem hk)]
      exact hsm1
    · simp
  have J1 : Hid (∀ W y, Below w0.heap.size w0 W → Calls Try.prog 16 #[.pointer (some ⟨g, 0, none⟩), .int .i64 y] W fun e w' => ∃ v, e = .returned (.tuple #[v, .int .i64 (colS (C i) y).2]) ∧ w'.ownsRow W.heap.size 2 1 v (colS (C i) y).1.length (zc (colS (C i) y).1) ∧ Below W.heap.size W w') := fun W y hW => by
    have hc := col_code (H0.out.later hW) hi y
    rw [← HG.out] at hc
    exact hc
  have J2 : Hid (∀ W y, Below w0.heap.size w0 W → Calls Try.prog 36 #[.pointer (some ⟨r, 0, none⟩), .int .i64 y] W fun e w' => ∃ v, e = .returned (.tuple #[v, .int .i64 (colS (C i) y).2]) ∧ w'.ownsRow W.heap.size 2 1 v (colS (C i) y).1.length (zc (colS (C i) y).1) ∧ Below W.heap.size W w') := fun W y hW => by
    have hc := col_doc (H0.out.later hW) hi y
    rw [← HR.out] at hc
    exact hc
  have JT : Hid (∀ (W w1 w3 : World) (v1 v2 v3 : Value), Below w0.heap.size w0 W → Hid (W.ownsRow w0.heap.size 2 1 v1 (colS (C i) col).1.length (zc (colS (C i) col).1)) → Hid (W.ownsRow w0.heap.size 2 1 v2 (colS (C i) col).1.length (zc (colS (C i) col).1)) → Hid (W.ownsRow w0.heap.size 2 1 v3 (colS (C i) col).1.length (zc (colS (C i) col).1)) → Hid (Ap v1 v2 ∧ Ap v1 v3) → Calls Try.prog 35 #[.pointer (some ⟨gw, 0, none⟩), v1, v2, v3] W fun e w' => e = .returned (.bool true) ∧ Hid (Ga w own gw i n M G C (L.length + 4) w')) := fun W w1 w3 v1 v2 v3 hW a1 a2 a3 a4 => by
    have z : ∀ (v : Value), (W.ownsRow w0.heap.size 2 1 v (colS (C i) col).1.length (zc (colS (C i) col).1)) → ∀ q, v.ownBlock = some q → ext o0 w0.heap.size 0 q = 0 := fun v a q e => ext_new (a.lt q e).1
    have hs := K00.out.1.size
    refine (told_any (H0.out.later hW) v1 v2 v3 _ _ (own_lower a1.out (Nat.zero_le _)) (own_lower a2.out (Nat.zero_le _)) (own_fz a3.out) (z v1 a1.out) (z v2 a2.out) (z v3 a3.out) a4.out.1 a4.out.2 (by omega) (by omega)).mono ?_
    rintro e w' ⟨rfl, own', L', b1, b2, b3⟩
    exact ⟨rfl, own', L', C i, by rw [upd_same]; exact b1, by omega, b3.k0 (K00.out.trans (K0.later hW)) (fun q e => Nat.le_trans hs (a1.out.lt q e).1) (fun q e => Nat.le_trans hs (a2.out.lt q e).1)⟩
  generalize hcs : colS (C i) col = cs at *
  obtain ⟨cl, z⟩ := cs
  dsimp only at hcl JT
  clear hsm1 hsm2
  have J1a : Hid (∀ W, Below w0.heap.size w0 W → Calls Try.prog 16 #[.pointer (some ⟨g, 0, none⟩), .int .i64 col] W fun e w' => ∃ v, e = .returned (.tuple #[v, .int .i64 z]) ∧ w'.ownsRow W.heap.size 2 1 v cl.length (zc cl) ∧ Below W.heap.size W w') := fun W hW => by
    have := J1.out W col hW
    rw [hcs] at this
    exact this
  have J2a : Hid (∀ W, Below w0.heap.size w0 W → Calls Try.prog 36 #[.pointer (some ⟨r, 0, none⟩), .int .i64 col] W fun e w' => ∃ v, e = .returned (.tuple #[v, .int .i64 z]) ∧ w'.ownsRow W.heap.size 2 1 v cl.length (zc cl) ∧ Below W.heap.size W w') := fun W hW => by
    have := J2.out W col hW
    rw [hcs] at this
    exact this
  clear hcs CS HP0 HQ0 H0 K00 zp zs J2
  go_wp2_with fail
  refine (J1a.out w0 (Below.refl _ _)).mono ?_
  rintro e w1 ⟨v1, rfl, a1, b1⟩
  clear c0 c1 c2 c3 c4 c5 c6 c7
  obtain ⟨c0, c1, c2, c3, c4, c5, c6, c7⟩ := CB.out w1 b1
  obtain ⟨av1, cv1, rfl⟩ := own_len a1
  have A1 := hide a1
  have B1 := hide b1
  clear a1 b1
  go_wp2_with fail
  refine (J1.out w1 0 B1.out).mono ?_
  rintro e w2 ⟨vx, rfl, -, b2⟩
  clear c0 c1 c2 c3 c4 c5 c6 c7
  have B2 := hide (below_on B1.out b2)
  have A1b := hide (own_later A1.out b2)
  have S12 := hide b2.size
  obtain ⟨c0, c1, c2, c3, c4, c5, c6, c7⟩ := CB.out w2 B2.out
  clear b2
  go_wp2_with fail
  refine (J1a.out w2 B2.out).mono ?_
  rintro e w3 ⟨v2, rfl, a2, b3⟩
  clear c0 c1 c2 c3 c4 c5 c6 c7
  have B3 := hide (below_on B2.out b3)
  have A1c := hide (own_later A1b.out b3)
  have AP12 := hide (ap_later A1.out a2 S12.out)
  obtain ⟨av2, cv2, rfl⟩ := own_len a2
  have A2 := hide (own_lower a2 B2.out.size)
  have S13 := hide (Nat.le_trans S12.out b3.size)
  obtain ⟨c0, c1, c2, c3, c4, c5, c6, c7⟩ := CB.out w3 B3.out
  clear a2 b3
  go_wp2_with fail
  refine (J2a.out w3 B3.out).mono ?_
  rintro e w4 ⟨v3, rfl, a3, b4⟩
  clear c0 c1 c2 c3 c4 c5 c6 c7
  have B4 := hide (below_on B3.out b4)
  have A1d := hide (own_later A1c.out b4)
  have A2d := hide (own_later A2.out b4)
  have AP13 : Hid (Ap (Value.slice av1 cl.length cv1) v3) := hide (ap_later A1.out a3 S13.out)
  obtain ⟨av3, cv3, rfl⟩ := own_len a3
  have A3 := hide (own_lower a3 B3.out.size)
  have JZ := hide (JT.out w4 w1 w3 _ _ _ B4.out A1d A2d A3 ⟨AP12.out, AP13.out⟩)
  clear a3 b4 JT J1 J1a J2a A1 A1b A1c A1d A2 A2d A3 AP12 AP13
  go_wp2_with fail
  refine JZ.out.mono ?_
  rintro e w5 ⟨rfl, HF⟩
  go_wp2_with fail
  go_ret
  exact ⟨rfl, HF.out⟩
end
end Go.Proofs.Ytlnjphfkinajdaa
