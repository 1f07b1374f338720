/-
  The law's adds, walked.
-/
import Derived.Test.YtlnjphfkinajdaaAdM
namespace Go.Proofs.Ytlnjphfkinajdaa
open Go.RowKit
theorem own_full {w : World} {B e g m : Nat} {xs : List Value} (h : w.ownsRow B e 1 (.slice (some ⟨g, 0, none⟩) m m) m xs) : w.heap[g]? = some (.cells xs.toArray e (0, 0)) := by
  rcases h.2 with ⟨e, -⟩ | ⟨g', cap, cur, e, hb, hg, h1, h2, h3, h4⟩
  · cases e
  · simp only [Value.slice.injEq, Option.some.injEq, Addr.mk.injEq, and_true, true_and] at e
    obtain ⟨rfl, rfl⟩ := e
    rw [hg, ← h4, List.take_of_length_le (by rw [Array.length_toList, h3]; exact Nat.le_refl _)]
theorem splice_vals (vals : List Int) (N : Nat) (h : N = vals.length + 8) : splice (List.replicate N (Value.int .i64 0)) 0 (zc vals) = zc (Xa vals 0) := by
  subst h
  simp [splice, Xa, zc]
theorem adds_cols {s st : Ts} {e : Int × Int} {vals : List Int} {r x : Int} (h : addS s e vals = (r, x, st)) : st.2.length = s.2.length := by
  unfold addS at h
  split at h
  · simp only [Prod.mk.injEq] at h; rw [← h.2.2]
  · split at h
    · simp only [Prod.mk.injEq] at h; rw [← h.2.2]
    · split at h
      · simp only [Prod.mk.injEq] at h; rw [← h.2.2]
      · simp only [Prod.mk.injEq] at h
        rw [← h.2.2]
        exact pcol_len _ _ _
theorem size2 : (Try.prog.info? 2).map (·.size) = some 1 := by kernel_rfl
section
variable {w : World} {own : Nat → Nat} {gw i n M : Nat} {G : Nat → Nat × Nat} {C : Nat → Ts} {L : List Held}
set_option maxHeartbeats 40000000 in
set_option maxRecDepth 1000000 in
theorem adds_any (h : Bw w gw M own G n C C L) (hi : i < n) (a b : Int) (hab : InB (a, b)) (v : Value) (vals : List Int) (hv : Fz w v vals) (hv0 : 0 < vals.length → ∀ k, v.ownBlock = some k → own k = 0) (hvl : vals.length ≤ 17592186044416) (hM : M ≤ 999000) :
    Calls Try.prog 21 #[.agg #[.pointer (some ⟨(G i).1, 0, none⟩), .pointer (some ⟨(G i).2, 0, none⟩)], .agg #[.int .i64 a, .int .i64 b], v] w fun e w' => e = .returned (.bool true) ∧ ∃ own' st, Bw w' gw (M + 3) own' G n (upd C i st) (upd C i st) L ∧ K0 own w own' w' ∧ st.2.length = (C i).2.length := by
  obtain ⟨i2, hi2, hx0, hx1, hx2⟩ := info_parts info2
  have HH := hide h
  have HV := hide (And.intro hv hv0)
  have HAB := hide hab
  obtain ⟨av, cv, rfl, hcv1, hcv2, -⟩ := hv.iz
  obtain ⟨nV, hnV⟩ : ∃ k, k = vals.length := ⟨_, rfl⟩
  obtain ⟨N8, hN8⟩ : ∃ k, k = nV + 8 := ⟨_, rfl⟩
  rw [← hnV]
  rw [← hnV] at HV hcv1
  have tw : IntKind.i64.wrap ((nV : Int) + 8) = (N8 : Int) := by rw [IntKind.wrap_i64]; omega
  have tn : (nV : Int) ≤ (N8 : Int) := by omega
  have HNV := hide hnV
  have HN8 := hide hN8
  have hN : N8 ≤ 17592186044424 := by omega
  have hnle : nV ≤ 17592186044416 := by omega
  clear h hv hv0 hab hnV hN8 hvl
  obtain ⟨g, hg⟩ : ∃ g, g = (G i).1 := ⟨_, rfl⟩
  obtain ⟨r, hr⟩ : ∃ r, r = (G i).2 := ⟨_, rfl⟩
  rw [← hg, ← hr]
  have HG := hide hg
  have HR := hide hr
  clear hg hr
  go_enter Try.func21, Try.ntmps21
  go_upto_region 1 with fail
  obtain ⟨w0, hw0⟩ : ∃ X, X = (w.alloc (.cells #[.pointer (some ⟨g, 0, none⟩), .pointer (some ⟨r, 0, none⟩)] 64)).alloc (.cells #[.int .i64 a, .int .i64 b] 32) := ⟨_, rfl⟩
  have B0 : Below w.heap.size w w0 := hw0 ▸ below_on (below_alloc w _) (below_alloc _ _)
  have hp0 : w0.heap[w.heap.size]? = some (.cells #[.pointer (some ⟨g, 0, none⟩), .pointer (some ⟨r, 0, none⟩)] 64 (0, 0)) := by
    rw [hw0]
    exact (heap_alloc_old _ _ (by simp)).trans (heap_alloc_new w _)
  have he0 : w0.heap[w.heap.size + 1]? = some (.cells #[.int .i64 a, .int .i64 b] 32 (0, 0)) := by
    have := heap_alloc_new (w.alloc (.cells #[.pointer (some ⟨g, 0, none⟩), .pointer (some ⟨r, 0, none⟩)] 64)) (.cells #[.int .i64 a, .int .i64 b] 32)
    rw [hw0]
    simpa using this
  have hs0 : w0.heap.size = w.heap.size + 2 := by rw [hw0]; simp
  rw [← hw0]
  obtain ⟨kp, hkp⟩ : ∃ k, k = w.heap.size := ⟨_, rfl⟩
  obtain ⟨ke, hke⟩ : ∃ k, k = w.heap.size + 1 := ⟨_, rfl⟩
  rw [← hke] at he0 ⊢
  rw [← hkp] at hp0 ⊢
  have HB0 := hide B0
  have HP0 := hide hp0
  have HE0 := hide he0
  have HS0 := hide hs0
  have HKP := hide hkp
  have HKE := hide hke
  clear hw0 B0 hp0 he0 hs0 hkp hke
  go_wp2_with (at_make; refine wpList_make_full _ rfl _ _ 27 rfl w0.heap.size 2 i2 (.int .i64 0) 1 Try.underlying27 hi2 hx0 hx1 .i64 .i64 _ _ N8 rfl rfl ?c1 ?c2 ?c3 ?c4 ?c5 ?_)
  case c1 => omega
  case c2 => omega
  case c3 => rw [hx2]; omega
  case c4 => unfold maxLen; omega
  case c5 => omega
  intro w1 hown hgrow
  rw [toList_madeCells_one] at hown
  have hb1 : Below w0.heap.size w0 w1 := (Below.refl _ w0).grown hgrow (Nat.le_refl _) (by intro k hk; cases hk)
  have hblk := own_full hown
  obtain ⟨go, hgo⟩ : ∃ k, k = w0.heap.size := ⟨_, rfl⟩
  rw [← hgo] at hblk ⊢
  have HGO := hide hgo
  have HBK := hide hblk
  have HB1 := hide hb1
  have HFZ : Hid (0 < (zc vals).length → (some (⟨go, 0, none⟩ : Addr)) = some ⟨go, 0, none⟩ ∧ ∃ ad, av = some ad ∧ ∀ j u, (zc vals)[j]? = some u → w1.cell? (ad.add j) = some u) := fun hpos => by
    refine ⟨rfl, ?_⟩
    rw [zc_len] at hpos
    have hz := (HV.out.1.later (below_on HB0.out HB1.out))
    rcases hz with ⟨e, h0⟩ | ⟨h0, -⟩ | ⟨g', o', c', e, -, -, -, h3⟩
    · rw [h0] at hpos; simp at hpos
    · rw [h0] at hpos; simp at hpos
    · simp only [Value.slice.injEq] at e
      obtain ⟨rfl, -, -⟩ := e
      refine ⟨_, rfl, fun j u hj => ?_⟩
      have hjl : j < vals.length := by rw [← zc_len]; exact (List.getElem?_eq_some_iff.1 hj).1
      rw [zc_at vals j hjl] at hj
      rw [WideShapes.add_plain, h3 j hjl, hj]
  have HVL : Hid ((zc vals).length = nV) := by rw [Hid, zc_len]; exact HNV.out.symm
  clear hown hgrow hb1 hblk hgo
  go_wp2_with (refine wpList_copy_splice rfl _ _ 27 27 rfl 2 Try.underlying27 size2 _ _ _ _ _ _ rfl rfl go 0 (List.replicate N8 (.int .i64 0)) 2 HBK.out (zc vals) ?d1 HFZ.out ?d3 (zc_one vals) w0.heap.size w0 HB1.out (Nat.le_of_eq HGO.out.symm) ?_)
  case d1 => rw [HVL.out]; exact (Nat.min_eq_left (by have := HN8.out; omega)).symm
  case d3 => first | omega | (rw [HVL.out]; have := HN8.out; simp; omega) | (rw [HVL.out]; have := HN8.out; omega)
  intro w2 hblk2 hb2
  have hX : Hid (Ad w own gw G n i L kp ke go a b w2 M C C (Xa vals 0)) := by
    have e0 : splice (List.replicate N8 (Value.int .i64 0)) 0 (zc vals) = zc (Xa vals 0) := splice_vals vals N8 (by have := HN8.out; have := HNV.out; omega)
    have hk := HKP.out
    have hk2 := HKE.out
    have hg0 := HGO.out
    have hs0 := HS0.out
    have hbw := below_on HB0.out hb2
    have hh := hblk2.out
    rw [e0] at hh
    have hpp := (hb2.block kp (lt_of_block HP0.out)).trans HP0.out
    rw [HG.out, HR.out] at hpp
    exact ⟨_, HH.out.later hbw, K0.later hbw, ⟨⟨ext_new (by omega), ext_new (by omega), ext_new (by omega)⟩, by omega, by omega, by omega⟩, hpp, (hb2.block ke (lt_of_block HE0.out)).trans HE0.out, hh⟩
  clear hblk2 hb2 HB1 HBK HFZ HB0 HP0 HE0 HS0 HKP HKE HGO HH
  have CE : Hid (∀ w' Mx C' D' X, Ad w own gw G n i L kp ke go a b w' Mx C' D' X → w'.cell? ⟨kp, 0, none⟩ = some (.pointer (some ⟨g, 0, none⟩)) ∧ w'.cell? ⟨kp, 1, none⟩ = some (.pointer (some ⟨r, 0, none⟩)) ∧ w'.cell? ⟨ke, 0, none⟩ = some (.int .i64 a) ∧ w'.cell? ⟨ke, 1, none⟩ = some (.int .i64 b)) := fun w' Mx C' D' X hA => by
    have := hA.cells
    rw [HG.out, HR.out]
    exact this
  have JA : Hid (∀ (W : World) (Mx : Nat) (s : Ts) (D' : Nat → Ts) (X : List Int) (a' b' : Int), InB (a', b') → Mx ≤ 1000000 → X.length = N8 → Ad w own gw G n i L kp ke go a b W Mx (upd C i s) D' X → Calls Try.prog 12 #[.pointer (some ⟨g, 0, none⟩), .agg #[.int .i64 a', .int .i64 b'], .slice (some ⟨go, 0, none⟩) nV N8] W fun e w' => ∃ r' x st, Hid (addS s (a', b') (X.take nV) = (r', x, st)) ∧ e = .returned (.tuple #[.int .i64 r', .int .i64 x]) ∧ Hid (Ad w own gw G n i L kp ke go a b w' (Mx + 1) (upd C i st) D' X) ∧ w'.cell? ⟨kp, 0, none⟩ = some (.pointer (some ⟨g, 0, none⟩)) ∧ w'.cell? ⟨kp, 1, none⟩ = some (.pointer (some ⟨r, 0, none⟩)) ∧ w'.cell? ⟨ke, 0, none⟩ = some (.int .i64 a) ∧ w'.cell? ⟨ke, 1, none⟩ = some (.int .i64 b)) := fun W Mx s D' X a' b' hb hMx hX hA => by
    have h8 := HN8.out
    have := hA.add hi a' b' hb nV N8 (by omega) (by omega) (by unfold maxLen; omega) hMx
    rw [upd_at, ← HG.out] at this
    refine this.mono ?_
    rintro e w' ⟨r', x, st, h1, rfl, h2⟩
    have h3 : Ad w own gw G n i L kp ke go a b w' (Mx + 1) (upd C i st) D' X := by
      have e : upd (upd C i s) i st = upd C i st := by funext j; unfold upd; split <;> rfl
      rw [e] at h2
      exact h2
    exact ⟨r', x, st, h1, rfl, h3, CE.out w' _ _ _ _ h3⟩
  have JD : Hid (∀ (W : World) (Mx : Nat) (s : Ts) (C' : Nat → Ts) (X : List Int) (v' : Value) (vals' : List Int) (a' b' : Int), Fz W v' vals' → Ad w own gw G n i L kp ke go a b W Mx C' (upd C i s) X → Calls Try.prog 31 #[.pointer (some ⟨r, 0, none⟩), .agg #[.int .i64 a', .int .i64 b'], v'] W fun e w' => ∃ r' x st, Hid (addS s (a', b') vals' = (r', x, st)) ∧ e = .returned (.tuple #[.int .i64 r', .int .i64 x]) ∧ Hid (Ad w own gw G n i L kp ke go a b w' Mx C' (upd C i st) X) ∧ w'.cell? ⟨kp, 0, none⟩ = some (.pointer (some ⟨g, 0, none⟩)) ∧ w'.cell? ⟨kp, 1, none⟩ = some (.pointer (some ⟨r, 0, none⟩)) ∧ w'.cell? ⟨ke, 0, none⟩ = some (.int .i64 a) ∧ w'.cell? ⟨ke, 1, none⟩ = some (.int .i64 b)) := fun W Mx s C' X v' vals' a' b' hz hA => by
    have := hA.dadd hi a' b' hz
    rw [upd_at, ← HR.out] at this
    refine this.mono ?_
    rintro e w' ⟨r', x, st, h1, rfl, h2⟩
    have h3 : Ad w own gw G n i L kp ke go a b w' Mx C' (upd C i st) X := by
      have e : upd (upd C i s) i st = upd C i st := by funext j; unfold upd; split <;> rfl
      rw [e] at h2
      exact h2
    exact ⟨r', x, st, h1, rfl, h3, CE.out w' _ _ _ _ h3⟩
  go_wp2_with fail
  go_loopw [8] (fun v8 W => ∃ j q : Nat, j ≤ 8 ∧ Hid (q = nV + j) ∧ v8 = .int .i64 (q : Int) ∧ Hid (Ad w own gw G n i L kp ke go a b W M C C (Xa vals j))) (fun v8 _ => N8 - (intOf v8).toNat)
  case atStart => exact ⟨0, nV, by omega, hide rfl, rfl, hX⟩
  case round =>
    obtain ⟨j, q, hj, HQ, rfl, HA⟩ := hrel
    clear hX
    by_cases hlt : j < 8
    · have t1 : (q : Int) < (N8 : Int) := by have := HQ.out; have := HN8.out; omega
      obtain ⟨e1, e2⟩ := HA.out.at q (by rw [Xa_len vals j hj]; have := HQ.out; have := HNV.out; omega)
      have HA2 : Hid (Ad w own gw G n i L kp ke go a b (wr.setCell ⟨go, q, none⟩ (.int .i64 (-77))) M C C (Xa vals (j + 1))) := by
        have := HA.out.set q (-77)
        have e : q = vals.length + j := by have := HQ.out; have := HNV.out; omega
        rw [← Xa_set vals j hlt, ← e]
        exact this
      generalize (Xa vals j)[q]'(by rw [Xa_len vals j hj]; have := HQ.out; have := HNV.out; omega) = y at *
      clear HA JA JD CE
      go_wp2_with fail
      go_roundw
      case rel => exact ⟨j + 1, q + 1, by omega, by have := HQ.out; exact hide (by omega), by go_num, HA2⟩
      case measure =>
        have := HQ.out
        have := HN8.out
        simp [intOf]
        omega
    · obtain rfl : j = 8 := by omega
      have t1 : ¬ (q : Int) < (N8 : Int) := by have := HQ.out; have := HN8.out; omega
      obtain ⟨w3, rfl⟩ : ∃ X, X = wr := ⟨_, rfl⟩
      have HA3 : Hid (Ad w own gw G n i L kp ke go a b w3 M (upd C i (C i)) (upd C i (C i)) (Xa vals 8)) := by rw [upd_same]; exact HA
      have HXL : Hid ((Xa vals 8).length = N8) := by have h1 := Xa_len vals 8 (Nat.le_refl _); have := HNV.out; have := HN8.out; exact hide (by omega)
      have HXT : Hid ((Xa vals 8).take nV = vals) := by have h1 := Xa_take vals 8; have := HNV.out; rw [this]; exact hide h1
      clear HA HQ
      obtain ⟨c1, c2, c3, c4⟩ := CE.out _ _ _ _ _ HA3.out
      go_upto_region 7 with fail
      go_region_held3 (fun W => W.cell? ⟨kp, 0, none⟩ = some (.pointer (some ⟨g, 0, none⟩)) ∧ W.cell? ⟨kp, 1, none⟩ = some (.pointer (some ⟨r, 0, none⟩)) ∧ W.cell? ⟨ke, 0, none⟩ = some (.int .i64 a) ∧ W.cell? ⟨ke, 1, none⟩ = some (.int .i64 b)) (go_keep) (first | (go_at_call 12; refine (JA.out _ M (C i) _ (Xa vals 8) a b HAB.out (by omega) HXL.out (HA3.out.later (below_drew _))).mono ?_; rintro e w4 ⟨r1, x1, st1, HE1, rfl, HA4, d1, d2, d3, d4⟩))
      clear c1 c2 c3 c4 HA3
      rw [HXT.out] at HE1
      go_upto_region 8 with fail
      go_region_held3 (fun W => W.cell? ⟨kp, 0, none⟩ = some (.pointer (some ⟨g, 0, none⟩)) ∧ W.cell? ⟨kp, 1, none⟩ = some (.pointer (some ⟨r, 0, none⟩)) ∧ W.cell? ⟨ke, 0, none⟩ = some (.int .i64 a) ∧ W.cell? ⟨ke, 1, none⟩ = some (.int .i64 b)) (go_keep) (first | (go_at_call 12; refine (JA.out _ (M + 1) st1 _ (Xa vals 8) a b HAB.out (by omega) HXL.out (HA4.out.later (below_drew _))).mono ?_; rintro e w5 ⟨r2, x2, st2, HE2, rfl, HA5, c1, c2, c3, c4⟩))
      clear d1 d2 d3 d4 HA4
      rw [HXT.out] at HE2
      have HA6 : Hid (Ad w own gw G n i L kp ke go a b w5 (M + 1 + 1) (upd C i st2) (upd C i (C i)) (Xb vals 0)) := by rw [Xb_zero]; exact HA5
      clear HA5 HXL HXT c1 c2 c3 c4
      go_wp2_with fail
      go_loopw [13, 14] (fun v13 v14 W => ∃ k : Nat, k ≤ N8 ∧ v13 = .bool true ∧ v14 = .int .i64 (k : Int) ∧ Hid (Ad w own gw G n i L kp ke go a b W (M + 1 + 1) (upd C i st2) (upd C i (C i)) (Xb vals k))) (fun _ v14 _ => N8 - (intOf v14).toNat)
      case atStart => exact ⟨0, Nat.zero_le _, rfl, rfl, HA6⟩
      case round =>
        obtain ⟨k, hk, rfl, rfl, HA7⟩ := hrel
        clear HA6
        by_cases hlt : k < N8
        · have t2 : (k : Int) < (N8 : Int) := by omega
          have hk8 : k < vals.length + 8 := by have := HNV.out; have := HN8.out; omega
          obtain ⟨e1, e2⟩ := HA7.out.at k (by rw [Xb_len vals k (by omega)]; exact hk8)
          rw [Xb_at vals k hk8] at e1
          have HA8 : Hid (∀ W, Below wr.heap.size wr W → Ad w own gw G n i L kp ke go a b (W.setCell ⟨go, k, none⟩ (.int .i64 88)) (M + 1 + 1) (upd C i st2) (upd C i (C i)) (Xb vals (k + 1))) := fun W hW => by
            have := (HA7.out.later hW).set k 88
            rw [Xb_set vals k hk8] at this
            exact this
          by_cases hkv : k < vals.length
          · rw [dif_pos hkv] at e1
            have t3 : (k : Int) < (nV : Int) := by have := HNV.out; omega
            have t4 : ¬ (k : Int) ≥ (nV : Int) := by have := HNV.out; omega
            obtain ⟨gv, ov, rfl, e3⟩ : ∃ gv ov, av = some ⟨gv, ov, none⟩ ∧ wr.cell? ⟨gv, ov + k, none⟩ = some (.int .i64 vals[k]) := by
              have hz := (HA7.out.fz HV.out.1 (by rw [← HNV.out]; exact HV.out.2))
              rcases hz with ⟨e, h0⟩ | ⟨h0, -⟩ | ⟨g', o', c', e, -, -, -, h3⟩
              · rw [h0] at hkv; simp at hkv
              · rw [h0] at hkv; simp at hkv
              · simp only [Value.slice.injEq] at e
                obtain ⟨rfl, -, -⟩ := e
                exact ⟨_, _, rfl, h3 k hkv⟩
            generalize vals[k] = y at *
            clear JA JD CE HA7
            go_wp2_with fail
            go_quiet (fail)
            go_wp2_with fail
            go_roundw
            case rel => exact ⟨k + 1, by omega, rfl, by go_num, HA8.out _ (below_drawn _ _)⟩
            case measure => simp [intOf]; omega
          · rw [dif_neg hkv] at e1
            have t3 : ¬ (k : Int) < (nV : Int) := by have := HNV.out; omega
            have t4 : (nV : Int) ≤ (k : Int) := by have := HNV.out; omega
            have t5 : decide ((k : Int) < (nV : Int)) = false := decide_eq_false t3
            have t6 : decide ((nV : Int) ≤ (k : Int)) = true := decide_eq_true t4
            have t7 : decide (k < nV) = false := decide_eq_false (by omega)
            have t8 : ¬ k < nV := by omega
            have t9 : nV ≤ k := by omega
            clear JA JD CE HA7
            go_wp2_with fail
            go_quiet (fail)
            go_wp2_with fail
            go_roundw
            case rel => exact ⟨k + 1, by omega, rfl, by go_num, HA8.out _ (below_drawn _ _)⟩
            case measure => simp [intOf]; omega
        · obtain rfl : k = N8 := by omega
          have t2 : ¬ (k : Int) < (k : Int) := by omega
          obtain ⟨w6, rfl⟩ : ∃ X, X = wr := ⟨_, rfl⟩
          obtain ⟨c1, c2, c3, c4⟩ := CE.out _ _ _ _ _ HA7.out
          have JD1 := hide (JD.out w6 (M + 1 + 1) (C i) (upd C i st2) (Xb vals k) _ vals a b (HA7.out.fz HV.out.1 (by rw [← HNV.out]; exact HV.out.2)) HA7.out)
          go_wp2_with fail
          refine JD1.out.mono ?_
          rintro e w7 ⟨r1', x1', st1', HE1', rfl, HA8, d1, d2, d3, d4⟩
          obtain ⟨rfl, rfl, rfl⟩ : r1' = r1 ∧ x1' = x1 ∧ st1' = st1 := by
            have := HE1'.out.symm.trans HE1.out
            simp only [Prod.mk.injEq] at this
            exact this
          clear c1 c2 c3 c4 JD1 HE1'
          have JD2 := hide (JD.out w7 (M + 1 + 1) st1' (upd C i st2) (Xb vals k) _ vals a b (HA8.out.fz HV.out.1 (by rw [← HNV.out]; exact HV.out.2)) HA8.out)
          go_wp2_with fail
          refine JD2.out.mono ?_
          rintro e w8 ⟨r2', x2', st2', HE2', rfl, HA9, c1, c2, c3, c4⟩
          obtain ⟨rfl, rfl, rfl⟩ : r2' = r2 ∧ x2' = x2 ∧ st2' = st2 := by
            have := HE2'.out.symm.trans HE2.out
            simp only [Prod.mk.injEq] at this
            exact this
          clear d1 d2 d3 d4 JD2 HE2' HA8 HA7
          by_cases hb2 : b = 2
          · subst hb2
            have c5 : ∀ o, (w8.alloc o).cell? ⟨ke, 0, none⟩ = some (.int .i64 a) := fun o => (CE.out _ _ _ _ _ (HA9.out.later (below_alloc w8 o))).2.2.1
            go_upto_region 22 with fail
            obtain ⟨w9, hw9⟩ : ∃ X, X = w8.alloc (.cells #[.int .i64 a, .int .i64 3] 32) := ⟨_, rfl⟩
            have B9 : Below w8.heap.size w8 w9 := hw9 ▸ below_alloc w8 _
            have hq9 : w9.heap[w8.heap.size]? = some (.cells #[.int .i64 a, .int .i64 3] 32 (0, 0)) := hw9 ▸ heap_alloc_new w8 _
            rw [← hw9]
            obtain ⟨kq, hkq⟩ : ∃ k, k = w8.heap.size := ⟨_, rfl⟩
            rw [← hkq] at hq9 ⊢
            have HKQ := hide hkq
            have HQ9 := hide hq9
            have HB9 := hide B9
            clear hw9 hq9 hkq B9 c5 c1 c2 c3 c4
            go_wp2_with (at_make; refine wpList_make_full _ rfl _ _ 27 rfl w9.heap.size 2 i2 (.int .i64 0) 1 Try.underlying27 hi2 hx0 hx1 .i64 .i64 _ _ nV rfl rfl ?c1 ?c2 ?c3 ?c4 ?c5 ?_)
            case c1 => omega
            case c2 => omega
            case c3 => rw [hx2]; omega
            case c4 => unfold maxLen; omega
            case c5 => omega
            intro w10 hown hgrow
            rw [toList_madeCells_one] at hown
            have hb10 : Below w9.heap.size w9 w10 := (Below.refl _ w9).grown hgrow (Nat.le_refl _) (by intro k hk; cases hk)
            have hblk := own_full hown
            obtain ⟨ge, hge⟩ : ∃ k, k = w9.heap.size := ⟨_, rfl⟩
            rw [← hge] at hblk ⊢
            have HGE := hide hge
            have HBG : Hid (w10.heap[ge]? = some (.cells (zc (List.replicate 0 88 ++ (List.replicate nV (0 : Int)).drop 0)).toArray 2 (0, 0))) := by
              rw [Hid, hblk]
              simp [zc]
            have HB10 := hide hb10
            clear hown hgrow hb10 hblk hge
            go_wp2_with fail
            go_loopw [21] (fun v21 W => ∃ j : Nat, j ≤ nV ∧ v21 = .int .i64 (j : Int) ∧ Hid (Below w9.heap.size w9 W) ∧ Hid (W.heap[ge]? = some (.cells (zc (List.replicate j 88 ++ (List.replicate nV (0 : Int)).drop j)).toArray 2 (0, 0)))) (fun v21 _ => nV - (intOf v21).toNat)
            case atStart => exact ⟨0, Nat.zero_le _, rfl, HB10, HBG⟩
            case round =>
              obtain ⟨j, hj, rfl, HBW, HBX⟩ := hrel
              clear HB10 HBG
              by_cases hlt : j < nV
              · have t9 : (j : Int) < (nV : Int) := by omega
                have hl : j < (List.replicate j 88 ++ (List.replicate nV (0 : Int)).drop j).length := by simp; omega
                have e1 : wr.cell? ⟨ge, j, none⟩ = some (.int .i64 ((List.replicate j 88 ++ (List.replicate nV (0 : Int)).drop j)[j]'hl)) := by
                  rw [cell_of_row wr ge _ _ 2 (0, 0) HBX.out, List.getElem?_toArray, zc_at _ _ hl]
                have e2 : wr.frozen? ⟨ge, j, none⟩ = false := frozen_of_row wr ge _ _ 2 HBX.out
                have HBX2 : Hid ((wr.setCell ⟨ge, j, none⟩ (.int .i64 88)).heap[ge]? = some (.cells (zc (List.replicate (j + 1) 88 ++ (List.replicate nV (0 : Int)).drop (j + 1))).toArray 2 (0, 0))) := by
                  rw [Hid, heap_setCell_same wr ge j _ 2 _ HBX.out, ← rep_set 88 _ j (by simpa using hlt), ← zc_set]
                  simp
                have HBW2 : Hid (Below w9.heap.size w9 (wr.setCell ⟨ge, j, none⟩ (.int .i64 88))) := HBW.out.trans (Mv.below (Mv.set (S := fun k => k = ge) (Mv.refl _ _) rfl _ _) HBW.out.size (fun k e => by have := HGE.out; omega))
                generalize (List.replicate j 88 ++ (List.replicate nV (0 : Int)).drop j)[j]'hl = y at *
                clear HBX HBW JA JD CE hl
                go_wp2_with fail
                go_roundw
                case rel => exact ⟨j + 1, by omega, by go_num, HBW2, HBX2⟩
                case measure => simp [intOf]; omega
              · obtain rfl : j = nV := by omega
                have t9 : ¬ (j : Int) < (j : Int) := by omega
                obtain ⟨w11, rfl⟩ : ∃ X, X = wr := ⟨_, rfl⟩
                obtain ⟨ownx, k1, k2, ⟨⟨l1, l2, l3⟩, l4⟩, k5, k6, k7⟩ := HA9.out
                obtain ⟨o9, ho9⟩ : ∃ o, o = ext ownx w8.heap.size 0 := ⟨_, rfl⟩
                have hb11 : Below w8.heap.size w8 w11 := below_on HB9.out HBW.out
                have h8k := HKQ.out
                have h9g := HGE.out
                have h9s := HB9.out.size
                have zq : o9 kq = 0 := by rw [ho9]; exact ext_new (by omega)
                have zg : o9 ge = 0 := by rw [ho9]; exact ext_new (by omega)
                have zo : o9 go = 0 := by rw [ho9, ext_old (lt_of_block k7)]; exact l3
                have zp : o9 kp = 0 := by rw [ho9, ext_old (lt_of_block k5)]; exact l1
                have hq11 := (HBW.out.block kq (lt_of_block HQ9.out)).trans HQ9.out
                have hp11 := (hb11.block kp (lt_of_block k5)).trans k5
                have ho11 := (hb11.block go (lt_of_block k7)).trans k7
                have hbw11 : Bw w11 gw (M + 1 + 1) o9 G n (upd C i st2') (upd C i st2') L := ho9 ▸ k1.later hb11
                have hk11 : K0 own w o9 w11 := ho9 ▸ k2.trans (K0.later hb11)
                have hg11 : w11.heap[ge]? = some (.cells (zc (List.replicate j (88 : Int))).toArray 2 (0, 0)) := by
                  have := HBX.out
                  rw [List.drop_eq_nil_of_le (by simp), List.append_nil] at this
                  exact this
                have hxt : (Xb vals k).take j = List.replicate j 88 := by
                  have e8 := HN8.out
                  have ev := HNV.out
                  have e := Xb_end vals
                  rw [← ev, ← e8] at e
                  rw [e, List.take_replicate, Nat.min_eq_left (by omega)]
                have HC0 : Hid (w11.cell? ⟨kp, 0, none⟩ = some (.pointer (some ⟨g, 0, none⟩)) ∧ w11.cell? ⟨kp, 1, none⟩ = some (.pointer (some ⟨r, 0, none⟩)) ∧ w11.cell? ⟨kq, 0, none⟩ = some (.int .i64 a) ∧ w11.cell? ⟨kq, 1, none⟩ = some (.int .i64 3)) := by
                  rw [HG.out, HR.out]
                  exact ⟨by rw [cell_of_row w11 kp _ _ 64 (0, 0) hp11]; rfl, by rw [cell_of_row w11 kp _ _ 64 (0, 0) hp11]; rfl, by rw [cell_of_row w11 kq _ _ 32 (0, 0) hq11]; rfl, by rw [cell_of_row w11 kq _ _ 32 (0, 0) hq11]; rfl⟩
                have JF : Hid (Calls Try.prog 12 #[.pointer (some ⟨g, 0, none⟩), .agg #[.int .i64 a, .int .i64 3], .slice (some ⟨go, 0, none⟩) j k] w11.drew fun e w' => ∃ r' x st, Hid (addS st2' (a, 3) (List.replicate j 88) = (r', x, st)) ∧ e = .returned (.tuple #[.int .i64 r', .int .i64 x]) ∧ Hid (∃ own', Bw w' gw (M + 3) own' G n (upd C i st) (upd C i st2') L ∧ K0 own w own' w' ∧ w'.heap[ge]? = some (.cells (zc (List.replicate j (88 : Int))).toArray 2 (0, 0))) ∧ (w'.cell? ⟨kp, 0, none⟩ = some (.pointer (some ⟨g, 0, none⟩)) ∧ w'.cell? ⟨kp, 1, none⟩ = some (.pointer (some ⟨r, 0, none⟩)) ∧ w'.cell? ⟨kq, 0, none⟩ = some (.int .i64 a) ∧ w'.cell? ⟨kq, 1, none⟩ = some (.int .i64 3))) := by
                  have hbd := hbw11.later (below_drew w11)
                  have hkd := K0.later (own := o9) (below_drew w11)
                  have zo' : ext o9 w11.heap.size 0 go = 0 := by rw [ext_old (lt_of_block ho11)]; exact zo
                  have hiz : Iz w11.drew (.slice (some ⟨go, 0, none⟩) j k) (List.replicate j 88) := by
                    have hod := ((below_drew w11).block go (lt_of_block ho11)).trans ho11
                    have e8 := HN8.out
                    have ev := HNV.out
                    refine ⟨some ⟨go, 0, none⟩, k, by simp, by simp; omega, by unfold maxLen; omega, fun q hq => ⟨go, 0, rfl, ?_⟩⟩
                    have hq' : q < j := by simpa using hq
                    have hxl : (Xb vals k).length = vals.length + 8 := Xb_len vals k (by omega)
                    have hql : q < (Xb vals k).length := by omega
                    rw [Nat.zero_add, cell_of_row _ go _ _ 2 (0, 0) hod, List.getElem?_toArray, zc_at _ q hql]
                    have e5 : ((Xb vals k).take j)[q]'(by rw [List.length_take]; omega) = (List.replicate j (88 : Int))[q]'hq := by
                      have := congrArg (fun l => l[q]?) hxt
                      rw [List.getElem?_eq_getElem (by rw [List.length_take]; omega), List.getElem?_eq_getElem hq] at this
                      exact Option.some.inj this
                    rw [List.getElem_take] at e5
                    rw [e5]
                  have hc := add_code hbd hi a 3 _ (List.replicate j 88) hiz (fun q e => by
                    simp only [Value.ownBlock, Option.some.injEq] at e
                    subst e
                    exact ⟨zo', by have := lt_of_block ho11; simpa using this⟩) ⟨HAB.out.1, by dsimp only; omega, by dsimp only; omega⟩ (by omega)
                  rw [upd_at, ← HG.out] at hc
                  refine hc.mono ?_
                  rintro e w' ⟨rfl, own', b1, b2⟩
                  have b3 := hkd.trans b2
                  have hp' := b3.1.at hp11 (fun e => e zp)
                  have hq' := b3.1.at hq11 (fun e => e zq)
                  have hg' := b3.1.at hg11 (fun e => e zg)
                  have ec : ∀ st, upd (upd C i st2') i st = upd C i st := fun st => by funext q; unfold upd; split <;> rfl
                  rw [ec] at b1
                  refine ⟨_, _, _, hide rfl, rfl, ⟨own', b1, hk11.trans b3, hg'⟩, ?_⟩
                  rw [HG.out, HR.out]
                  exact ⟨by rw [cell_of_row w' kp _ _ 64 (0, 0) hp']; rfl, by rw [cell_of_row w' kp _ _ 64 (0, 0) hp']; rfl, by rw [cell_of_row w' kq _ _ 32 (0, 0) hq']; rfl, by rw [cell_of_row w' kq _ _ 32 (0, 0) hq']; rfl⟩
                obtain ⟨c1, c2, c3, c4⟩ := HC0.out
                clear hbw11 hk11 hg11 hxt ho11 hp11 hq11 zq zg zo zp hb11 k1 k2 l1 l2 l3 l4 k5 k6 k7 ho9 h8k h9g h9s HA9 HBX HBW JA JD CE HC0
                go_upto_region 27 with fail
                go_region_held3 (fun W => W.cell? ⟨kp, 0, none⟩ = some (.pointer (some ⟨g, 0, none⟩)) ∧ W.cell? ⟨kq, 0, none⟩ = some (.int .i64 a) ∧ W.cell? ⟨kq, 1, none⟩ = some (.int .i64 3)) (go_keep) (first | (go_at_call 12; refine JF.out.mono ?_; rintro e w12 ⟨r3, x3, st3, HE3, rfl, HA12, d1, d2, d3, d4⟩))
                clear c1 c2 c3 c4 JF
                have JH : Hid (Calls Try.prog 31 #[.pointer (some ⟨r, 0, none⟩), .agg #[.int .i64 a, .int .i64 3], .slice (some ⟨ge, 0, none⟩) j j] w12 fun e w' => e = .returned (.tuple #[.int .i64 r3, .int .i64 x3]) ∧ Hid (∃ own' st, Bw w' gw (M + 3) own' G n (upd C i st) (upd C i st) L ∧ K0 own w own' w' ∧ st.2.length = (C i).2.length)) := by
                  obtain ⟨own', b1, b2, b3⟩ := HA12.out
                  have hfz : Fz w12 (.slice (some ⟨ge, 0, none⟩) j j) (List.replicate j 88) := .inr (.inr ⟨ge, 0, j, by simp, by simp, by unfold maxLen; omega, lt_of_block b3, fun q hq => by
                    rw [Nat.zero_add, cell_of_row _ ge _ _ 2 (0, 0) b3, List.getElem?_toArray, zc_at _ q hq]⟩)
                  have hc := add_doc b1 hi a 3 _ (List.replicate j 88) hfz
                  rw [upd_at, ← HR.out, HE3.out] at hc
                  refine hc.mono ?_
                  rintro e w' ⟨rfl, own2, b4, b5⟩
                  have ec : ∀ st, upd (upd C i st2') i st = upd C i st := fun st => by funext q; unfold upd; split <;> rfl
                  rw [ec] at b4
                  exact ⟨rfl, own2, st3, b4, b2.trans b5, (adds_cols HE3.out).trans ((adds_cols HE2.out).trans (adds_cols HE1.out))⟩
                go_wp2_with fail
                refine JH.out.mono ?_
                rintro e w13 ⟨rfl, HF⟩
                go_wp2_with fail
                go_ret
                exact ⟨rfl, HF.out⟩
          · have tb : (b == 2) = false := by rw [beq_eq_false_iff_ne]; exact hb2
            have HFIN : Hid (∃ own' st, Bw w8 gw (M + 3) own' G n (upd C i st) (upd C i st) L ∧ K0 own w own' w8 ∧ st.2.length = (C i).2.length) := by
              obtain ⟨ownx, h1, h2, -⟩ := HA9.out
              exact ⟨ownx, st2', h1.bound (by omega), h2, (adds_cols HE2.out).trans (adds_cols HE1.out)⟩
            clear HA9 JA JD CE
            go_wp2_with fail
            go_ret
            exact ⟨rfl, HFIN.out⟩
end
end Go.Proofs.Ytlnjphfkinajdaa
