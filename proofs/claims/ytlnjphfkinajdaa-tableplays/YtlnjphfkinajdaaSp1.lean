/-
  The law's step: a table more.
-/
import Derived.Test.YtlnjphfkinajdaaAs0
namespace Go.Proofs.Ytlnjphfkinajdaa
open Go.RowKit
theorem info64 : (Try.prog.info? 64).map (fun i => (i.zero, i.size, i.bytes)) = some (some (.agg #[.pointer none, .pointer none]), 2, 16) := by kernel_rfl
/-- What the law's step leaves. -/
def Gs (w : World) (gw B M N m : Nat) (w' : World) : Prop := ∃ (G : Nat → Nat × Nat) (n : Nat) (C : Nat → Ts) (L : List Held), Bu w' gw B M G n C C L ∧ 1 ≤ n ∧ n ≤ N ∧ L.length ≤ m ∧ Below B w w'
theorem Ga.gs {w w0 w' : World} {own : Nat → Nat} {gw i n M M' m N B : Nat} {G : Nat → Nat × Nat} {C : Nat → Ts} (h : Ga w0 own gw i n M G C m w') (hF : Fe own B w0) (hb : Below B w w0) (hn : 1 ≤ n) (hN : n ≤ N) (hM : M ≤ M') : Gs w gw B M' N m w' := by
  obtain ⟨own', L', st, h1, h2, h3⟩ := h
  obtain ⟨f1, f2⟩ := h3.fe hF
  exact ⟨G, n, upd C i st, L', ⟨own', f1, h1.bound hM⟩, hn, hN, h2, hb.trans f2⟩
section
variable {w : World} {own : Nat → Nat} {gw n M B : Nat} {G : Nat → Nat × Nat} {C : Nat → Ts} {L : List Held}
set_option maxHeartbeats 40000000 in
set_option maxRecDepth 1000000 in
theorem step_1 (h : Bw w gw M own G n C C L) (hF : Fe own B w) (on row col e1 e2 x : Int) (av : Option Addr) (nv cv : Nat) (hn : n ≤ 1000) (hM : M ≤ 900000) (h1 : 1 ≤ n ∨ (0 ≤ row ∧ row ≤ 48)) :
    Calls Try.prog 7 #[.pointer (some ⟨gw, 0, none⟩), .agg #[.int .i64 1, .int .i64 on, .int .i64 row, .int .i64 col, .int .i64 e1, .int .i64 e2, .int .i64 x, .slice av nv cv]] w fun e w' => e = .returned (.bool true) ∧ Gs w gw B (M + 700) (n + 1) (L.length + 4) w' := by
  have HH := hide h
  have HF := hide hF
  go_enter Try.func7, Try.ntmps7
  go_upto_region 1 with fail
  obtain ⟨w0, hw0⟩ : ∃ X, X = w.alloc (.cells #[.int .i64 1, .int .i64 on, .int .i64 row, .int .i64 col, .int .i64 e1, .int .i64 e2, .int .i64 x, .slice av nv cv] 34) := ⟨_, rfl⟩
  have B0 : Below w.heap.size w w0 := hw0 ▸ below_alloc w _
  have hq0 : w0.heap[w.heap.size]? = some (.cells #[.int .i64 1, .int .i64 on, .int .i64 row, .int .i64 col, .int .i64 e1, .int .i64 e2, .int .i64 x, .slice av nv cv] 34 (0, 0)) := hw0 ▸ heap_alloc_new w _
  have hs0 : w0.heap.size = w.heap.size + 1 := by rw [hw0]; simp
  rw [← hw0]
  obtain ⟨ks, hks⟩ : ∃ k, k = w.heap.size := ⟨_, rfl⟩
  rw [← hks] at hq0 ⊢
  have HQ0 := hide hq0
  obtain ⟨o0, ho0⟩ : ∃ o, o = ext own w.heap.size 0 := ⟨_, rfl⟩
  have H0 : Hid (Bw w0 gw M o0 G n C C L) := ho0 ▸ hide (HH.out.later B0)
  have F0 : Hid (Fe o0 B w0) := ho0 ▸ hide (HF.out.ext B0.size 0)
  have BB0 : Hid (Below B w w0) := hide (B0.mono HF.out.1)
  have zs : Hid (o0 ks = 0) := by rw [ho0]; exact hide (ext_new (by omega))
  have HB0 := hide B0
  clear hw0 hq0 hks ho0 HH B0 h hF hs0
  have CB : Hid (∀ W : World, W.heap[ks]? = w0.heap[ks]? → W.cell? ⟨ks, 0, none⟩ = some (.int .i64 1) ∧ W.cell? ⟨ks, 1, none⟩ = some (.int .i64 on) ∧ W.cell? ⟨ks, 2, none⟩ = some (.int .i64 row) ∧ W.cell? ⟨ks, 3, none⟩ = some (.int .i64 col) ∧ W.cell? ⟨ks, 4, none⟩ = some (.int .i64 e1) ∧ W.cell? ⟨ks, 5, none⟩ = some (.int .i64 e2) ∧ W.cell? ⟨ks, 6, none⟩ = some (.int .i64 x) ∧ W.cell? ⟨ks, 7, none⟩ = some (.slice av nv cv)) := fun W h2 => by
    have h4 := h2.trans HQ0.out
    refine ⟨?_, ?_, ?_, ?_, ?_, ?_, ?_, ?_⟩
    all_goals rw [cell_of_row W ks _ _ 34 (0, 0) h4]; rfl
  obtain ⟨c0, c1, c2, c3, c4, c5, c6, c7⟩ := CB.out w0 rfl
  by_cases hx : 0 ≤ row ∧ row ≤ 48
  · obtain ⟨k, rfl⟩ : ∃ k : Nat, row = (k : Int) := ⟨row.toNat, by omega⟩
    have hk : k ≤ 48 := by omega
    obtain ⟨i6, hi6, hz0, hz1, hz2⟩ := info_parts info64
    have J1 := hide (new_any k w0 hk)
    go_wp2_with fail
    refine J1.out.mono ?_
    rintro e w1 ⟨g, rfl, a1, b1⟩
    clear c0 c1 c2 c3 c4 c5 c6 c7 J1
    obtain ⟨c0, c1, c2, c3, c4, c5, c6, c7⟩ := CB.out w1 (b1.block ks (lt_of_block HQ0.out))
    have A1 := hide a1
    have B1 := hide b1
    clear a1 b1
    have J2 := hide (dnew_any k w1 hk)
    go_wp2_with fail
    refine J2.out.mono ?_
    rintro e w2 ⟨r, rfl, a2, b2⟩
    clear c0 c1 c2 c3 c4 c5 c6 c7 J2
    have A2 := hide a2
    have B2 := hide b2
    have B02 := hide (below_on B1.out b2)
    clear a2 b2
    obtain ⟨-, -, vl, vi, vm, k1, k2, k3⟩ := id H0.out
    obtain ⟨al, cl, rfl⟩ := own_len k1.2.1
    have CW : Hid (∀ W, Below w0.heap.size w0 W → W.cell? ⟨gw, 0, none⟩ = some (.slice al n cl)) := fun W hW => (k1.later hW).cell.1
    have d0 := CW.out w2 B02.out
    have d1 : ∀ o, (w2.alloc o).cell? ⟨gw, 0, none⟩ = some (.slice al n cl) := fun o => CW.out _ (below_on B02.out (below_alloc _ _))
    have HO : Hid (∀ o, (w2.alloc o).ownsRow 0 64 2 (.slice al n cl) n (plz G n)) := fun o => own_later k1.2.1 (below_on B02.out (below_alloc _ _))
    have KK : Hid (∀ (v' : Value) (w3 : World), w3.ownsRow 0 64 2 v' (n + 1) (plz G n ++ [ptr g, ptr r]) → (w2.alloc (.cells #[ptr g, ptr r] 64)).grownBy w3 (Value.slice al n cl).ownBlock → (v'.ownBlock = (Value.slice al n cl).ownBlock ∨ v'.ownBlock = some (w2.heap.size + 1)) → (w3.cell? ⟨gw, 0, none⟩ = some (.slice al n cl) ∧ w3.frozen? ⟨gw, 0, none⟩ = false) ∧ Hid (Gs w gw B (M + 700) (n + 1) (L.length + 4) (w3.setCell ⟨gw, 0, none⟩ v'))) := fun v' w3 h1 h2 h3 => by
      have hb3 := below_alloc w2 (.cells #[ptr g, ptr r] 64)
      have s01 := B1.out.size
      have s12 := B2.out.size
      have hp : TbS w2 (fun q => w0.heap.size ≤ q ∧ q < w1.heap.size) g ([], List.replicate k []) M := ⟨0, by omega, (A1.out.tight).later B2.out⟩
      have hd : DtS w2 (fun q => w1.heap.size ≤ q) r ([], List.replicate k []) := A2.out
      obtain ⟨b1, b2⟩ := H0.out.push B02.out hp hd (fun q e => e.1) (fun q e => by omega) (fun q e e' => by omega) F0.out hb3 k1 k2 k3 h1 h2 (by simpa using h3)
      have hg : w3.heap[gw]? = some (.cells #[.slice al n cl, vi, vm] 29 (0, 0)) := (h2.block gw (by have := k1.lt; have := B02.out.size; simp; omega) (fun e => k1.2.2.2.2.1.1 e.symm)).trans (((below_on B02.out hb3).block gw k1.lt).trans k1.1)
      refine ⟨⟨by rw [cell_of_row w3 gw _ _ 29 (0, 0) hg]; rfl, frozen_of_row w3 gw _ _ 29 hg⟩, upd G n (g, r), n + 1, upd C n ([], List.replicate k []), L, ?_, by omega, by omega, by omega, BB0.out.trans b2⟩
      obtain ⟨own', f1, f2⟩ := b1
      exact ⟨own', f1, f2.bound (by omega)⟩
    clear k1 k2 k3 H0 CB HQ0 zs CW A1 A2 B1 B2 B02
    unfold ptr at KK
    go_wp2_with (at_builtin; refine wpList_append_own_at _ rfl _ _ 25 rfl 0 64 i6 (.agg #[.pointer none, .pointer none]) 2 16 Try.underlying25 hi6 hz0 hz1 hz2 rfl (by decide) _ _ _ rfl (HO.out _) ⟨w2.heap.size, 0, none⟩ 1 1 [.pointer (some ⟨g, 0, none⟩), .pointer (some ⟨r, 0, none⟩)] rfl rfl (by intro j u hj; match j, hj with | 0, hj => simp at hj; subst hj; simp [Addr.add] | 1, hj => simp at hj; subst hj; simp [Addr.add]) ?f2 ?f3 ?f4 (Nat.zero_le _) ?_)
    case f2 => first | (intro u hu; simp at hu; rcases hu with rfl | rfl <;> rfl) | simp | rfl
    case f3 => unfold maxLen; omega
    case f4 => omega
    intro v' w3 ho hg hnn ha
    obtain ⟨⟨z1, z2⟩, HZ⟩ := KK.out v' w3 ho hg (by simpa using ha)
    obtain ⟨a3, d3, rfl⟩ := own_len ho
    clear ho hg hnn ha KK HO
    go_wp2_with fail
    go_ret
    exact ⟨rfl, HZ.out⟩
  · have J1 := hide (new_bad row w0 (by omega))
    have J2 := hide (dnew_bad row w0 (by omega))
    have hn1 : 1 ≤ n := by omega
    go_wp2_with fail
    refine J1.out.mono ?_
    rintro e w1 ⟨rfl, rfl⟩
    go_wp2_with fail
    refine J2.out.mono ?_
    rintro e w2 ⟨rfl, rfl⟩
    go_wp2_with fail
    go_ret
    exact ⟨rfl, G, n, C, L, ⟨o0, F0.out, H0.out.bound (by omega)⟩, hn1, by omega, by omega, BB0.out⟩
end
end Go.Proofs.Ytlnjphfkinajdaa
