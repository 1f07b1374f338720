/-
  The law's step: many.
-/
import Derived.Test.YtlnjphfkinajdaaAs0
import Derived.Test.YtlnjphfkinajdaaSp1
import Derived.Test.YtlnjphfkinajdaaAdW
namespace Go.Proofs.Ytlnjphfkinajdaa
open Go.RowKit
theorem step_make_full {P : Program} (w : World) {ops : Array Oper} {o : Oper} {a : Act} {K : Act → World → Prop} {Q : Exit → Act → World → Prop} {E : Prop}
    (hg : o.guard = none) (l c : Operand) (t : TypeId) (hop : o.op = Op.makeSlice t l c)
    (base : Nat) (e : TypeId) (i : TypeInfo) (z : Value) (size : Nat) (h1 : P.underlying t = some (.slice e)) (h2 : P.info? e = some i) (h3 : i.zero = some z) (h4 : i.size = size)
    (kl kc : IntKind) (L C : Int) (n : Nat) (hl : a.eval l = .int kl L) (hc : a.eval c = .int kc C) (hL : L = (n : Int)) (hC : C = (n : Int)) (b2 : i.bytes * n ≤ 281474976710656) (b3 : n ≤ maxLen) (b4 : base ≤ w.heap.size)
    (hK : ∀ w', w'.ownsRow base e size (.slice (some ⟨w.heap.size, 0, none⟩) n n) n (madeCells z.cells (n * size)).toList → w.grownBy w' none → K (a.put o.dst (.slice (some ⟨w.heap.size, 0, none⟩) n n)) w') :
    if Region.wanted o (yielded ops a.tmps) = true then Oper.wp P o a w K Q else E := by
  have hw : Region.wanted o (yielded ops a.tmps) = true := by simp [Region.wanted, hg]
  rw [if_pos hw]
  obtain ⟨w', hrun, r1, r2⟩ := run_make_full (P := P) w base t e i z size h1 h2 h3 h4 kl kc n b2 b3 b4
  subst hL
  subst hC
  unfold Oper.wp
  simp [execOp, hop, hl, hc, hrun, Result.andThen]
  exact hK w' r1 r2
section
variable {w : World} {own : Nat → Nat} {gw n M B : Nat} {G : Nat → Nat × Nat} {C : Nat → Ts} {L : List Held}
set_option maxHeartbeats 40000000 in
set_option maxRecDepth 1000000 in
theorem step_10 (h : Bw w gw M own G n C C L) (hF : Fe own B w) (on row col e1 e2 x : Int) (av : Option Addr) (nv cv : Nat) (hn1 : 1 ≤ n) (hn : n ≤ 1000) (hM : M ≤ 900000) (_hL : L.length ≤ 800000) (ho : -9223372036854775808 ≤ on ∧ on ≤ 9223372036854775807) (_hE : InB (e1, e2)) (hrow : -9223372036854775808 ≤ row ∧ row ≤ 9223372036854775807) :
    Calls Try.prog 7 #[.pointer (some ⟨gw, 0, none⟩), .agg #[.int .i64 10, .int .i64 on, .int .i64 row, .int .i64 col, .int .i64 e1, .int .i64 e2, .int .i64 x, .slice av nv cv]] w fun e w' => e = .returned (.bool true) ∧ Gs w gw B (M + 700) (n + 1) (L.length + 4) w' := by
  have HH := hide h
  have HF := hide hF
  go_enter Try.func7, Try.ntmps7
  go_upto_region 1 with fail
  obtain ⟨w0, hw0⟩ : ∃ X, X = w.alloc (.cells #[.int .i64 10, .int .i64 on, .int .i64 row, .int .i64 col, .int .i64 e1, .int .i64 e2, .int .i64 x, .slice av nv cv] 34) := ⟨_, rfl⟩
  have B0 : Below w.heap.size w w0 := hw0 ▸ below_alloc w _
  have hq0 : w0.heap[w.heap.size]? = some (.cells #[.int .i64 10, .int .i64 on, .int .i64 row, .int .i64 col, .int .i64 e1, .int .i64 e2, .int .i64 x, .slice av nv cv] 34 (0, 0)) := hw0 ▸ heap_alloc_new w _
  have hs0 : w0.heap.size = w.heap.size + 1 := by rw [hw0]; simp
  rw [← hw0]
  obtain ⟨ks, hks⟩ : ∃ k, k = w.heap.size := ⟨_, rfl⟩
  rw [← hks] at hq0 ⊢
  have HQ0 := hide hq0
  obtain ⟨o0, ho0⟩ : ∃ o, o = ext own w.heap.size 0 := ⟨_, rfl⟩
  have H0 : Hid (Bw w0 gw M o0 G n C C L) := ho0 ▸ hide (HH.out.later B0)
  have F0 : Hid (Fe o0 B w0) := ho0 ▸ hide (HF.out.ext B0.size 0)
  have BB0 : Hid (Below B w w0) := hide (B0.mono HF.out.1)
  have zs : Hid (o0 ks = 0) := by rw [ho0]; exact hide (ext_new (by omega))
  have HB0 := hide B0
  clear hw0 hq0 hks ho0 HH B0 h hF hs0
  have CB : Hid (∀ W : World, W.heap[ks]? = w0.heap[ks]? → W.cell? ⟨ks, 0, none⟩ = some (.int .i64 10) ∧ W.cell? ⟨ks, 1, none⟩ = some (.int .i64 on) ∧ W.cell? ⟨ks, 2, none⟩ = some (.int .i64 row) ∧ W.cell? ⟨ks, 3, none⟩ = some (.int .i64 col) ∧ W.cell? ⟨ks, 4, none⟩ = some (.int .i64 e1) ∧ W.cell? ⟨ks, 5, none⟩ = some (.int .i64 e2) ∧ W.cell? ⟨ks, 6, none⟩ = some (.int .i64 x) ∧ W.cell? ⟨ks, 7, none⟩ = some (.slice av nv cv)) := fun W h2 => by
    have h4 := h2.trans HQ0.out
    refine ⟨?_, ?_, ?_, ?_, ?_, ?_, ?_, ?_⟩
    all_goals rw [cell_of_row W ks _ _ 34 (0, 0) h4]; rfl
  have JP : Hid (∀ W : World, Calls Try.prog 9 #[.int .i64 on, .int .i64 (n : Int)] W fun e w' => e = .returned (.int .i64 (pk on n : Int)) ∧ w' = W) := fun W => pick_any on n W ho.1 ho.2 (by omega) (by omega)
  have hi : pk on n < n := pk_lt on (by omega)
  generalize pk on n = i at *
  obtain ⟨gl, cl, hpr⟩ := Bu.pair H0.out hi
  have HPR := hide hpr
  obtain ⟨g, hg⟩ : ∃ g, g = (G i).1 := ⟨_, rfl⟩
  obtain ⟨r, hr⟩ : ∃ r, r = (G i).2 := ⟨_, rfl⟩
  unfold ptr at HPR
  rw [← hg, ← hr] at HPR
  have HG := hide hg
  have HR := hide hr
  have ti : (i : Int) < (n : Int) := by omega
  have HPW : Hid (∀ W, Below w0.heap.size w0 W → W.cell? ⟨gw, 0, none⟩ = some (.slice (some ⟨gl, 0, none⟩) n cl) ∧ W.cell? ⟨ks, 1, none⟩ = some (.int .i64 on) ∧ W.cell? ⟨gl, i * 2, none⟩ = some (.pointer (some ⟨g, 0, none⟩)) ∧ W.cell? ⟨gl, i * 2 + 1, none⟩ = some (.pointer (some ⟨r, 0, none⟩))) := fun W hW => ⟨(HPR.out W hW).1, (CB.out W (hW.block ks (lt_of_block HQ0.out))).2.1, (HPR.out W hW).2⟩
  clear hpr hg hr HPR ho
  obtain ⟨c0, -, -, -, -, -, -, -⟩ := CB.out w0 rfl
  have e1' : ((10 : Int) == 1) = false := by decide
  obtain ⟨d0, d1, d2, d3⟩ := HPW.out w0 (Below.refl _ _)
  have x0 := fun o => (HPW.out _ (below_on (below_alloc w0 o) (below_drew _))).1
  have x1 := fun o => (HPW.out _ (below_on (below_alloc w0 o) (below_drew _))).2.1
  have x2 := fun o => (HPW.out _ (below_on (below_alloc w0 o) (below_drew _))).2.2.1
  have x3 := fun o => (HPW.out _ (below_on (below_alloc w0 o) (below_drew _))).2.2.2
  go_upto_region 7 with fail
  have y0 := World.new_ne w0 _ d0
  have y1 := World.new_ne w0 _ d1
  have y2 := World.new_ne w0 _ d2
  have y3 := World.new_ne w0 _ d3
  go_cut [9] (fun v9 W => v9 = .pointer (some ⟨w0.heap.size, 0, none⟩) ∧ Hid (W = (w0.alloc (.cells #[.pointer (some ⟨g, 0, none⟩), .pointer (some ⟨r, 0, none⟩)] 64)).drew))
  case first =>
    go_region_held3 (fun W => W.cell? ⟨gw, 0, none⟩ = some (.slice (some ⟨gl, 0, none⟩) n cl) ∧ W.cell? ⟨ks, 1, none⟩ = some (.int .i64 on) ∧ W.cell? ⟨gl, i * 2, none⟩ = some (.pointer (some ⟨g, 0, none⟩)) ∧ W.cell? ⟨gl, i * 2 + 1, none⟩ = some (.pointer (some ⟨r, 0, none⟩))) (go_keep) (first | (go_at_call 9; refine (JP.out _).mono ?_; rintro e w1 ⟨rfl, rfl⟩))
    all_goals
      go_wp2_with fail
      go_meet
      exact ⟨rfl, rfl⟩
  obtain ⟨rfl, HWC⟩ := hcut
  obtain ⟨w1, rfl⟩ : ∃ X, X = wc := ⟨_, rfl⟩
  obtain ⟨kp, hkp⟩ : ∃ k, k = w0.heap.size := ⟨_, rfl⟩
  rw [← hkp]
  have b01 : Below w0.heap.size w0 w1 := by rw [HWC.out]; exact below_on (below_alloc w0 _) (below_drew _)
  have hp1 : w1.heap[kp]? = some (.cells #[.pointer (some ⟨g, 0, none⟩), .pointer (some ⟨r, 0, none⟩)] 64 (0, 0)) := by
    rw [HWC.out, hkp]
    exact ((below_drew _).block _ (by simp)).trans (heap_alloc_new w0 _)
  obtain ⟨o1, ho1⟩ : ∃ o, o = ext o0 w0.heap.size 0 := ⟨_, rfl⟩
  have H1 : Hid (Bw w1 gw M o1 G n C C L) := ho1 ▸ hide (H0.out.later b01)
  have F1 : Hid (Fe o1 B w1) := ho1 ▸ hide (F0.out.ext b01.size 0)
  have BB1 : Hid (Below B w w1) := hide (BB0.out.trans (b01.mono F0.out.1))
  have BW1 : Hid (Below w.heap.size w w1) := hide (below_on HB0.out b01)
  have zp1 : Hid (o1 kp = 0) := by rw [ho1]; exact hide (ext_new (by omega))
  have zs1 : Hid (o1 ks = 0) := by rw [ho1, ext_old (lt_of_block HQ0.out)]; exact zs
  have HP1 := hide hp1
  have HQ1 := hide ((b01.block ks (lt_of_block HQ0.out)).trans HQ0.out)
  have CB1 : Hid (∀ W : World, W.heap[ks]? = w1.heap[ks]? → W.heap[kp]? = w1.heap[kp]? → (W.cell? ⟨ks, 0, none⟩ = some (.int .i64 10) ∧ W.cell? ⟨ks, 1, none⟩ = some (.int .i64 on) ∧ W.cell? ⟨ks, 2, none⟩ = some (.int .i64 row) ∧ W.cell? ⟨ks, 3, none⟩ = some (.int .i64 col) ∧ W.cell? ⟨ks, 4, none⟩ = some (.int .i64 e1) ∧ W.cell? ⟨ks, 5, none⟩ = some (.int .i64 e2) ∧ W.cell? ⟨ks, 6, none⟩ = some (.int .i64 x) ∧ W.cell? ⟨ks, 7, none⟩ = some (.slice av nv cv)) ∧ W.cell? ⟨kp, 0, none⟩ = some (.pointer (some ⟨g, 0, none⟩)) ∧ W.cell? ⟨kp, 1, none⟩ = some (.pointer (some ⟨r, 0, none⟩))) := fun W h1 h2 => by
    refine ⟨CB.out W (h1.trans (b01.block ks (lt_of_block HQ0.out))), ?_, ?_⟩
    all_goals rw [cell_of_row W kp _ _ 64 (0, 0) (h2.trans HP1.out)]; rfl
  clear hkp hp1 ho1 b01 HWC H0 F0 BB0 zs HQ0 CB HPW d0 d1 d2 d3 x0 x1 x2 x3 y0 y1 y2 y3 c0 JP HB0
  obtain ⟨⟨c0, c1, c2, c3, c4, c5, c6, c7⟩, q0, q1⟩ := CB1.out w1 rfl rfl
  obtain ⟨i2, hi2, hx0, hx1, hx2⟩ := info_parts info2
  obtain ⟨nc, hnc⟩ : ∃ k, k = (C i).2.length := ⟨_, rfl⟩
  have hnc48 : nc ≤ 48 := by rw [hnc]; exact (ts_small H1.out hi).2
  have CS : Hid (∀ (W : World) (own' : Nat → Nat) (st : Ts) (k : Nat), Bw W gw (M + k) own' G n (upd C i st) (upd C i st) L → K0 o1 w1 own' W → st.2.length = (C i).2.length → W.cell? ⟨kp, 0, none⟩ = some (.pointer (some ⟨g, 0, none⟩)) ∧ W.cell? ⟨kp, 1, none⟩ = some (.pointer (some ⟨r, 0, none⟩)) ∧ W.cell? ⟨ks, 2, none⟩ = some (.int .i64 row) ∧ W.cell? ⟨r, 0, none⟩ = some (.int .i64 (nc : Int))) := fun W own' st k h1 h2 h3 => by
    obtain ⟨⟨d0, d1, d2, -⟩, p0, p1⟩ := CB1.out W (h2.1.2.2.2.2 ks (lt_of_block HQ1.out) (fun e => e zs1.out)) (h2.1.2.2.2.2 kp (lt_of_block HP1.out) (fun e => e zp1.out))
    refine ⟨p0, p1, d2, ?_⟩
    obtain ⟨vl, vs, hm, -⟩ := h1.2.1 i hi
    have := hm.cell.1
    rw [upd_at, h3, ← hnc, ← HR.out] at this
    exact this
  have JA : Hid (∀ (W : World) (own' : Nat → Nat) (st : Ts) (k : Nat) (v : Value) (j : Int), Bw W gw (M + k) own' G n (upd C i st) (upd C i st) L → K0 o1 w1 own' W → st.2.length = (C i).2.length → k ≤ 700 → InB (j, row) → ∀ (vals : List Int), Fz W v vals → (∀ q, v.ownBlock = some q → own' q = 0) → vals.length ≤ 17592186044416 → Calls Try.prog 21 #[.agg #[.pointer (some ⟨g, 0, none⟩), .pointer (some ⟨r, 0, none⟩)], .agg #[.int .i64 j, .int .i64 row], v] W fun e W' => e = .returned (.bool true) ∧ Hid (∃ own2 st2, Bw W' gw (M + (k + 3)) own2 G n (upd C i st2) (upd C i st2) L ∧ K0 o1 w1 own2 W' ∧ st2.2.length = (C i).2.length) ∧ (W'.cell? ⟨kp, 0, none⟩ = some (.pointer (some ⟨g, 0, none⟩)) ∧ W'.cell? ⟨kp, 1, none⟩ = some (.pointer (some ⟨r, 0, none⟩)) ∧ W'.cell? ⟨ks, 2, none⟩ = some (.int .i64 row) ∧ W'.cell? ⟨r, 0, none⟩ = some (.int .i64 (nc : Int)))) := fun W own' st k v j h1 h2 h3 hk hb vals hv hv0 hvl => by
    have hc := adds_any h1 hi j row hb v vals hv (fun _ => hv0) hvl (by omega)
    rw [← HG.out, ← HR.out] at hc
    refine hc.mono ?_
    rintro e w' ⟨rfl, own2, st2, b1, b2, b3⟩
    have ec : upd (upd C i st) i st2 = upd C i st2 := by funext q; unfold upd; split <;> rfl
    rw [ec] at b1
    have b1' : Bw w' gw (M + (k + 3)) own2 G n (upd C i st2) (upd C i st2) L := by rw [← Nat.add_assoc]; exact b1
    have b4 : st2.2.length = (C i).2.length := by rw [b3, upd_at, h3]
    exact ⟨rfl, ⟨own2, st2, b1', h2.trans b2, b4⟩, CS.out w' own2 st2 (k + 3) b1' (h2.trans b2) b4⟩
  have FIN : Hid (∀ (W : World) (own' : Nat → Nat) (st : Ts) (k : Nat), k ≤ 700 → Bw W gw (M + k) own' G n (upd C i st) (upd C i st) L → K0 o1 w1 own' W → Gs w gw B (M + 700) (n + 1) (L.length + 4) W) := fun W own' st k hk h1 h2 => by
    obtain ⟨f1, f2⟩ := h2.fe F1.out
    exact ⟨G, n, upd C i st, L, ⟨own', f1, h1.bound (by omega)⟩, hn1, by omega, by omega, BB1.out.trans f2⟩
  have HST : Hid (∃ own' st, Bw w1 gw (M + 3 * 0) own' G n (upd C i st) (upd C i st) L ∧ K0 o1 w1 own' w1 ∧ st.2.length = (C i).2.length) := ⟨o1, C i, by rw [upd_same]; exact H1.out, K0.refl _ _, rfl⟩
  clear H1 F1 BB1 BW1 zp1 zs1 HP1 HQ1 CB1 hnc
  go_wp2_with fail
  clear c0 c1 c2 c3 c4 c5 c6 c7 q0 q1
  go_loopw [17] (fun v17 W => ∃ k : Nat, k ≤ 205 ∧ v17 = .int .i64 (k : Int) ∧ Hid (∃ own' st, Bw W gw (M + 3 * k) own' G n (upd C i st) (upd C i st) L ∧ K0 o1 w1 own' W ∧ st.2.length = (C i).2.length)) (fun v17 _ => 205 - (intOf v17).toNat)
  case atStart => exact ⟨0, by omega, rfl, HST⟩
  case round =>
    obtain ⟨k, hk, rfl, HA⟩ := hrel
    clear HST
    by_cases hlt : k < 205
    · have t1 : (k : Int) < 205 := by omega
      obtain ⟨own', st, a1, a2, a3⟩ := HA.out
      have hs0 := CS.out wr own' st _ a1 a2 a3
      have HS : Hid (wr.drew.cell? ⟨kp, 0, none⟩ = some (.pointer (some ⟨g, 0, none⟩)) ∧ wr.drew.cell? ⟨kp, 1, none⟩ = some (.pointer (some ⟨r, 0, none⟩)) ∧ wr.drew.cell? ⟨ks, 2, none⟩ = some (.int .i64 row) ∧ wr.drew.cell? ⟨r, 0, none⟩ = some (.int .i64 (nc : Int))) := by
        exact CS.out wr.drew _ st _ (a1.later (below_drew wr)) (a2.trans (K0.later (below_drew wr))) a3
      have MK : Hid (∀ (w3 : World), w3.ownsRow wr.heap.size 2 1 (.slice (some ⟨wr.heap.size, 0, none⟩) nc nc) nc (madeCells (Value.int .i64 0).cells (nc * 1)).toList → wr.drew.grownBy w3 none → (w3.cell? ⟨kp, 0, none⟩ = some (.pointer (some ⟨g, 0, none⟩)) ∧ w3.cell? ⟨kp, 1, none⟩ = some (.pointer (some ⟨r, 0, none⟩)) ∧ w3.cell? ⟨ks, 2, none⟩ = some (.int .i64 row) ∧ w3.cell? ⟨r, 0, none⟩ = some (.int .i64 (nc : Int))) ∧ Hid (Calls Try.prog 21 #[.agg #[.pointer (some ⟨g, 0, none⟩), .pointer (some ⟨r, 0, none⟩)], .agg #[.int .i64 (k : Int), .int .i64 row], .slice (some ⟨wr.heap.size, 0, none⟩) nc nc] w3 fun e W' => e = .returned (.bool true) ∧ Hid (∃ own2 st2, Bw W' gw (M + (3 * k + 3)) own2 G n (upd C i st2) (upd C i st2) L ∧ K0 o1 w1 own2 W' ∧ st2.2.length = (C i).2.length) ∧ (W'.cell? ⟨kp, 0, none⟩ = some (.pointer (some ⟨g, 0, none⟩)) ∧ W'.cell? ⟨kp, 1, none⟩ = some (.pointer (some ⟨r, 0, none⟩)) ∧ W'.cell? ⟨ks, 2, none⟩ = some (.int .i64 row) ∧ W'.cell? ⟨r, 0, none⟩ = some (.int .i64 (nc : Int))))) := fun w3 h1 h2 => by
        have hb3 : Below wr.heap.size wr w3 := (below_drew wr).grown h2 (Nat.le_refl _) (by intro q hq; cases hq)
        have h1' : w3.ownsRow wr.heap.size 2 1 (.slice (some ⟨wr.heap.size, 0, none⟩) nc nc) nc (zc (List.replicate nc 0)) := by
          have e : (madeCells (Value.int .i64 0).cells (nc * 1)).toList = zc (List.replicate nc 0) := by
            have := toList_madeCells_one (.int .i64 0) nc
            simp [zc] at this ⊢
            exact this
          rw [e] at h1
          exact h1
        refine ⟨CS.out w3 _ st _ (a1.later hb3) (a2.trans (K0.later hb3)) a3, JA.out w3 _ st (3 * k) _ (k : Int) (a1.later hb3) (a2.trans (K0.later hb3)) a3 (by omega) ⟨⟨by dsimp only; omega, by dsimp only; omega⟩, hrow⟩ (List.replicate nc 0) (own_fz h1') (fun q e => ?_) (by simp; omega)⟩
        simp only [Value.ownBlock, Option.some.injEq] at e
        exact ext_new (by omega)
      obtain ⟨c0, c1, c2, c3⟩ := hs0
      clear a1 a2 a3 HA JA CS FIN
      go_upto_region 23 with fail
      refine wp_region_noPanic ?_
      refine wp_region_late (J := fun i => i != 99) (S := fun W => W.cell? ⟨kp, 0, none⟩ = some (.pointer (some ⟨g, 0, none⟩)) ∧ W.cell? ⟨kp, 1, none⟩ = some (.pointer (some ⟨r, 0, none⟩)) ∧ W.cell? ⟨ks, 2, none⟩ = some (.int .i64 row) ∧ W.cell? ⟨r, 0, none⟩ = some (.int .i64 (nc : Int))) (by kernel_rfl) HS.out (fun hHeld => ?_)
      refine' wpAnyJ_take (i := 0) (oi := { dst := some 146, op := Op.load 64 (Operand.tmp 9), type := 64, pos := "law.go:205", after := #[], guard := none }) (v := _) rfl (by kernel_rfl) (by kernel_rfl) (by kernel_rfl) (by kernel_rfl) (fun _ _ _ h => h) (Or.inl ⟨by rfl, ?hyB1⟩) (by assumption) ?reB1
      case hyB1 => (intro W hSw; (try dsimp only at hSw); go_simp; try with_reducible rfl)
      try simp only [Act.put, List.setIfInBounds_toArray, List.set_cons_zero, List.set_cons_succ]
      refine' wpAnyJ_takeW (i := 1) (oi := { dst := some 147, op := Op.move (Operand.tmp 17), type := 3, pos := "law.go:205", after := #[], guard := none }) (v := _) rfl (by kernel_rfl) (by kernel_rfl) (by kernel_rfl) (fun _ _ _ h => h) (Or.inl ⟨by rfl, ?hyB2⟩) ?reB2
      case hyB2 => (intro W hSw; (try dsimp only at hSw); go_simp; try with_reducible rfl)
      try simp only [Act.put, List.setIfInBounds_toArray, List.set_cons_zero, List.set_cons_succ]
      refine' wpAnyJ_takeW (i := 2) (oi := { dst := some 148, op := Op.fieldAddr 34 (Operand.tmp 3) 2, type := 0, pos := "law.go:205", after := #[], guard := none }) (v := _) rfl (by kernel_rfl) (by kernel_rfl) (by kernel_rfl) (fun _ _ _ h => h) (Or.inl ⟨by rfl, ?hyB3⟩) ?reB3
      case hyB3 => (intro W hSw; (try dsimp only at hSw); go_simp; try with_reducible rfl)
      try simp only [Act.put, List.setIfInBounds_toArray, List.set_cons_zero, List.set_cons_succ]
      refine' wpAnyJ_take (i := 3) (oi := { dst := some 149, op := Op.load 3 (Operand.tmp 148), type := 3, pos := "law.go:205", after := #[{ on := 2, ground := Ground.data }], guard := none }) (v := _) rfl (by kernel_rfl) (by kernel_rfl) (by kernel_rfl) (by kernel_rfl) (fun _ _ _ h => h) (Or.inl ⟨by rfl, ?hyB4⟩) (by assumption) ?reB4
      case hyB4 => (intro W hSw; (try dsimp only at hSw); go_simp; try with_reducible rfl)
      try simp only [Act.put, List.setIfInBounds_toArray, List.set_cons_zero, List.set_cons_succ]
      refine' wpAnyJ_takeW (i := 4) (oi := { dst := some 150, op := Op.build 32 #[(0, Operand.tmp 147), (1, Operand.tmp 149)], type := 32, pos := "law.go:205", after := #[{ on := 1, ground := Ground.data }, { on := 3, ground := Ground.data }], guard := none }) (v := _) rfl (by kernel_rfl) (by kernel_rfl) (by kernel_rfl) (fun _ _ _ h => h) (Or.inl ⟨by rfl, ?hyB5⟩) ?reB5
      case hyB5 => (intro W hSw; (try dsimp only at hSw); go_simp; try with_reducible rfl)
      try simp only [Act.put, List.setIfInBounds_toArray, List.set_cons_zero, List.set_cons_succ]
      refine' wpAnyJ_takeW (i := 5) (oi := { dst := some 151, op := Op.fieldAddr 64 (Operand.tmp 9) 1, type := 0, pos := "law.go:205", after := #[], guard := none }) (v := _) rfl (by kernel_rfl) (by kernel_rfl) (by kernel_rfl) (fun _ _ _ h => h) (Or.inl ⟨by rfl, ?hyB6⟩) ?reB6
      case hyB6 => (intro W hSw; (try dsimp only at hSw); go_simp; try with_reducible rfl)
      try simp only [Act.put, List.setIfInBounds_toArray, List.set_cons_zero, List.set_cons_succ]
      refine' wpAnyJ_take (i := 6) (oi := { dst := some 152, op := Op.load 60 (Operand.tmp 151), type := 60, pos := "law.go:205", after := #[{ on := 5, ground := Ground.data }], guard := none }) (v := _) rfl (by kernel_rfl) (by kernel_rfl) (by kernel_rfl) (by kernel_rfl) (fun _ _ _ h => h) (Or.inl ⟨by rfl, ?hyB7⟩) (by assumption) ?reB7
      case hyB7 => (intro W hSw; (try dsimp only at hSw); go_simp; try with_reducible rfl)
      try simp only [Act.put, List.setIfInBounds_toArray, List.set_cons_zero, List.set_cons_succ]
      refine' wpAnyJ_takeW (i := 7) (oi := { dst := some 153, op := Op.nilCheck (Operand.tmp 152), type := 0, pos := "law.go:205", after := #[{ on := 6, ground := Ground.data }], guard := none }) (v := _) rfl (by kernel_rfl) (by kernel_rfl) (by kernel_rfl) (fun _ _ _ h => h) (Or.inl ⟨by rfl, ?hyB8⟩) ?reB8
      case hyB8 => (intro W hSw; (try dsimp only at hSw); go_simp; try with_reducible rfl)
      try simp only [Act.put, List.setIfInBounds_toArray, List.set_cons_zero, List.set_cons_succ]
      refine' wpAnyJ_takeW (i := 8) (oi := { dst := some 154, op := Op.fieldAddr 69 (Operand.tmp 153) 0, type := 0, pos := "law.go:205", after := #[{ on := 7, ground := Ground.data }], guard := none }) (v := _) rfl (by kernel_rfl) (by kernel_rfl) (by kernel_rfl) (fun _ _ _ h => h) (Or.inl ⟨by rfl, ?hyB9⟩) ?reB9
      case hyB9 => (intro W hSw; (try dsimp only at hSw); go_simp; try with_reducible rfl)
      try simp only [Act.put, List.setIfInBounds_toArray, List.set_cons_zero, List.set_cons_succ]
      refine' wpAnyJ_take (i := 9) (oi := { dst := some 155, op := Op.load 3 (Operand.tmp 154), type := 3, pos := "law.go:205", after := #[{ on := 8, ground := Ground.data }], guard := none }) (v := _) rfl (by kernel_rfl) (by kernel_rfl) (by kernel_rfl) (by kernel_rfl) (fun _ _ _ h => h) (Or.inl ⟨by rfl, ?hyB10⟩) (by assumption) ?reB10
      case hyB10 => (intro W hSw; (try dsimp only at hSw); go_simp; try with_reducible rfl)
      try simp only [Act.put, List.setIfInBounds_toArray, List.set_cons_zero, List.set_cons_succ]
      refine wpAnyJ_ready (rs := [10]) (by kernel_rfl) (by simp) ?_
      refine AllReadyJ.cons (o := { dst := some 156, op := Op.makeSlice 27 (Operand.tmp 155) (Operand.tmp 155), type := 27, pos := "law.go:205", after := #[{ on := 9, ground := Ground.data }, { on := 9, ground := Ground.data }], guard := none }) rfl (fun K hK => ?_) AllReadyJ.nil
      refine step_make_full _ rfl (.tmp 155) (.tmp 155) 27 rfl wr.heap.size 2 i2 (.int .i64 0) 1 Try.underlying27 hi2 hx0 hx1 .i64 .i64 _ _ nc (by simp [Act.eval]) (by simp [Act.eval]) rfl rfl (by rw [hx2]; omega) (by unfold maxLen; omega) (Nat.le_refl _) ?_
      intro w3 hown hgrow
      obtain ⟨ZZ, HM3⟩ := MK.out w3 hown hgrow
      clear hown hgrow
      refine hK.out _ _ (fun _ _ => ZZ) ?_
      clear hK K
      try simp only [Act.put, List.setIfInBounds_toArray, List.set_cons_zero, List.set_cons_succ]
      refine wpAnyJ_ready (rs := [11]) (by kernel_rfl) (by simp) ?_
      refine AllReadyJ.cons (o := { dst := some 157, op := Op.call { callee := Callee.value (Operand.func 21), args := #[Operand.tmp 146, Operand.tmp 150, Operand.tmp 156], argTypes := #[64, 32, 27] }, type := 4, pos := "law.go:205", after := #[{ on := 0, ground := Ground.data }, { on := 4, ground := Ground.data }, { on := 10, ground := Ground.data }], guard := none }) rfl (fun K hK => ?_) AllReadyJ.nil
      go_simp
      go_at_call 21
      refine HM3.out.mono ?_
      rintro e w4 ⟨rfl, HA4, ZZ4⟩
      go_simp
      refine hK.out _ _ (fun _ _ => ZZ4) ?_
      clear hK K
      try simp only [Act.put, List.setIfInBounds_toArray, List.set_cons_zero, List.set_cons_succ]
      refine' wpAnyJ_takeW (i := 12) (oi := { dst := some 18, op := Op.assign (Operand.tmp 157), type := 4, pos := "law.go:205", after := #[{ on := 11, ground := Ground.data }, { on := 11, ground := Ground.chain }, { on := 0, ground := Ground.phase }, { on := 1, ground := Ground.phase }, { on := 2, ground := Ground.phase }, { on := 3, ground := Ground.phase }, { on := 4, ground := Ground.phase }, { on := 5, ground := Ground.phase }, { on := 6, ground := Ground.phase }, { on := 7, ground := Ground.phase }, { on := 8, ground := Ground.phase }, { on := 9, ground := Ground.phase }, { on := 10, ground := Ground.phase }, { on := 11, ground := Ground.phase }], guard := none }) (v := _) rfl (by kernel_rfl) (by kernel_rfl) (by kernel_rfl) (fun _ _ _ h => h) (Or.inl ⟨by rfl, ?hyB11⟩) ?reB11
      case hyB11 => (intro W hSw; (try dsimp only at hSw); go_simp; try with_reducible rfl)
      try simp only [Act.put, List.setIfInBounds_toArray, List.set_cons_zero, List.set_cons_succ]
      refine wpAnyJ_done (by kernel_rfl) ?_ _
      refine NoPanic.normal ?_
      go_wp2_with fail
      go_roundw
      case rel => exact ⟨k + 1, by omega, by go_num, HA4⟩
      case measure => simp [intOf]; omega
    · obtain rfl : k = 205 := by omega
      have t1 : ¬ ((205 : Nat) : Int) < 205 := by omega
      have HZ : Hid (Gs w gw B (M + 700) (n + 1) (L.length + 4) wr) := by
        obtain ⟨own', st, a1, a2, a3⟩ := HA.out
        exact FIN.out wr own' st _ (by omega) a1 a2
      clear HA JA CS FIN
      go_wp2_with fail
      go_ret
      exact ⟨rfl, HZ.out⟩
end
end Go.Proofs.Ytlnjphfkinajdaa
