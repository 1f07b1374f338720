import Derived.Test.YtfbhoemfabgjpaaGreatMgBB
import Derived.Test.YtfbhoemfabgjpaaGreatMgAO
/-
  Buffer: Apply, of any commands.
-/
namespace Go.Proofs.YtfbhoemfabgjpaaGreat
open Go.RowKit
set_option maxRecDepth 100000
theorem info34 : (Tryz.prog.info? 34).map (fun i => (i.zero, i.size, i.bytes)) = some (some (.agg #[.int .i64 0, .int .i64 0]), 2, 16) := by kernel_rfl
/-- While commands are done. -/
structure AI (ks : List Kind) (σ0 : St) (a : List Cm) (N : Nat) (gw : Nat) (w1 : World) (own1 : Nat → Nat) (W : World) (i : Nat) (v : Value) (rf : Nat) (own' : Nat → Nat) (σ : St) (l : List (Int × Int)) : Prop where
  run : RunL ks σ0 (a.take i) σ l rf
  row : W.ownsRow w1.heap.size 34 2 v l.length (nz l)
  vo : ∀ k, v.ownBlock = some k → own' k = 0
  wn : Wn W own' gw (N + 4 * i) ks σ.1 σ.2.1 σ.2.2
  wk : Wk own1 own' w1 W
theorem AI.later {ks : List Kind} {σ0 : St} {a : List Cm} {N gw : Nat} {w1 W W' : World} {own1 own' : Nat → Nat} {i rf : Nat} {v : Value} {σ : St} {l : List (Int × Int)} (h : AI ks σ0 a N gw w1 own1 W i v rf own' σ l) (hb : Below W.heap.size W W') : AI ks σ0 a N gw w1 own1 W' i v rf (rel own' W 0) σ l where
  run := h.run
  row := own_later h.row hb
  vo := fun k e => by rw [rel_old (h.row.lt k e).2]; exact h.vo k e
  wn := h.wn.later hb
  wk := ⟨fun k hk => by rw [rel_old (by have := h.wk.2.size; omega)]; exact h.wk.1 k hk, h.wk.2.later hb⟩
theorem AI.pieces {ks : List Kind} {σ0 : St} {a : List Cm} {N gw : Nat} {w1 V w2 : World} {own1 own' : Nat → Nat} {i rf : Nat} {v : Value} {σ : St} {l : List (Int × Int)} {m : Int × Int} {z : Int} (h : AI ks σ0 a N gw w1 own1 V i v rf own' σ l) (hi : i < a.length) (hd : Dn ks σ a[i] own' gw (N + 4 * i) V w2 m z) :
    ∃ (σ' : St) (own2 : Nat → Nat), RunL ks σ0 (a.take (i + 1)) σ' (if z = 0 ∧ a[i].op = 1 then l ++ [m] else l) (if z = 0 then rf else rf + 1) ∧ w2.ownsRow w1.heap.size 34 2 v l.length (nz l) ∧ (∀ k, v.ownBlock = some k → own2 k = 0 ∧ k < w2.heap.size) ∧ Wn w2 own2 gw (N + 4 * (i + 1)) ks σ'.1 σ'.2.1 σ'.2.2 ∧ Wk own1 own2 w1 w2 := by
  obtain ⟨σ', own2, hs, hw, hk⟩ := hd
  refine ⟨σ', own2, ?_, hk.2.own h.row (fun k e e2 => e2.1 (h.vo k e)), fun k e => ?_, hw.up (by omega), h.wk.trans hk⟩
  · rw [List.take_succ_eq_append_getElem hi]
    exact h.run.snoc _ hs
  · have h1 := h.row.lt k e
    have h2 := hk.2.size
    exact ⟨by rw [hk.1 k h1.2]; exact h.vo k e, by omega⟩
/-- What Apply leaves. -/
def ApR (w : World) (ks : List Kind) (σ0 : St) (L : Int × Int → List Cm) (gw N : Nat) (own : Nat → Nat) (w' : World) (v : Value) (rf : Nat) : Prop :=
  ∃ (σ : St) (l : List (Int × Int)) (ss : List (Int × Int)) (own' : Nat → Nat), ((∀ x, x ∈ ss ↔ L x ≠ []) ∧ ss.Pairwise ltT) ∧ RunL ks σ0 (allL L ss) σ l rf ∧ (w'.ownsRow w.heap.size 34 2 v l.length (nz l) ∧ ∀ k, v.ownBlock = some k → own' k = 0) ∧ Wn w' own' gw (N + 8000) ks σ.1 σ.2.1 σ.2.2 ∧ Wk own own' w w'
set_option maxHeartbeats 16000000 in
theorem applyL_any {w : World} {S U : Nat → Prop} {gb gm n sz gw N : Nat} {f : Int × Int → Option Value} {L : Int × Int → List Cm} {own : Nat → Nat} {ks : List Kind} {gs fr : List Nat} {C : Co} (hB : Bg w S U gb gm n f L sz) (hsz : sz ≤ 2000) (h : Wn w own gw N ks gs fr C) (hN : N ≤ 700000) (hU : ∀ k, U k → own k = 0 ∧ k < w.heap.size) :
    Calls Tryz.prog 9 #[.pointer (some ⟨gb, 0, none⟩), .pointer (some ⟨gw, 0, none⟩)] w fun e w' => ∃ (v : Value) (rf : Nat), e = .returned (.tuple #[v, .int .i64 (rf : Int)]) ∧ ApR w ks (gs, fr, C) L gw N own w' v rf := by
  have g0 : w.cell? ⟨gb, 0, none⟩ = some (.map (some gm)) := by rw [cell_of_row w _ _ _ 55 (0, 0) hB.row]; rfl
  have JT : Hid (Calls Tryz.prog 18 #[.map (some gm), .func (.func 19) #[] #[]] w fun e w' => ∃ a m c ss, e = .returned (.slice a m c) ∧ (m = (allL L ss).length ∧ m ≤ 2000 ∧ m ≤ c ∧ (∀ x, x ∈ ss ↔ L x ≠ []) ∧ ss.Pairwise ltT) ∧ w'.ownsRow w.heap.size 38 6 (.slice a m c) m (czL (allL L ss)) ∧ Below w.heap.size w w') := by
    refine (together_any hB (by omega)).mono ?_
    rintro e w' ⟨v, ss, e1, k1, k2, k3, k4⟩
    obtain ⟨a, c, rfl⟩ := own_len k3
    have := hB.tot ss (nodup_lt k2)
    have hcap : (allL L ss).length ≤ c := by
      rcases k3.2 with ⟨e, h0⟩ | ⟨g, c', cur, e, -, -, hc, -⟩
      · rw [h0]
        exact Nat.zero_le _
      · injection e with _ _ e2
        rw [e2]
        exact hc
    unfold allL at *
    exact ⟨a, _, c, ss, e1, ⟨rfl, by omega, hcap, k1, k2⟩, k3, k4⟩
  have HCM : Hid (∀ ss, ∀ c ∈ allL L ss, CmOk True w U c) := fun ss c hc => by
    obtain ⟨x, hx⟩ := allL_mem hc
    exact hB.cs x c hx
  have HWN := hide h
  have HUO := hide hU
  obtain ⟨ie, hie, hez0, hez1, hez2⟩ := info_parts info34
  clear hB h hU hsz
  go_enter Tryz.func9, Tryz.ntmps9
  go_wp2_with fail
  refine JT.out.mono ?_
  rintro e w1 ⟨a, m, c, ss, rfl, hss, k1, b1⟩
  have HSS := hide hss
  have HO := hide k1
  have B1 := hide b1
  obtain ⟨l0, hl0⟩ : ∃ l, l = allL L ss := ⟨_, rfl⟩
  have HL0 := hide hl0
  have HM : Hid (m = l0.length ∧ m ≤ 2000) := ⟨by rw [hl0]; exact hss.1, hss.2.1⟩
  have hmc := hss.2.2.1
  have HO : Hid (w1.ownsRow w.heap.size 38 6 (.slice a m c) m (czL l0)) := by rw [hl0]; exact k1
  obtain ⟨own1, hown1⟩ : ∃ o, o = rel own w 0 := ⟨_, rfl⟩
  have HAI : Hid (AI ks (gs, fr, C) l0 N gw w1 own1 w1 0 (.slice none 0 0) 0 own1 (gs, fr, C) []) := ⟨⟨rfl, rfl, rfl⟩, World.ownsRow_nil _ _ _ _, fun k e => (by cases e), by rw [hown1]; exact HWN.out.later b1, Wk.refl _ _⟩
  have HCM1 : Hid (∀ c ∈ l0, CmOk True w1 U c) := fun c hc => by rw [hl0] at hc; exact (HCM.out ss c hc).frame (Mv.of_below b1 (fun _ => False)) (fun _ _ e => e)
  have HU1 : Hid (∀ k, U k → own1 k = 0 ∧ k < w1.heap.size) := fun k hk => by
    have h1 := HUO.out k hk
    have h2 := b1.size
    rw [hown1]
    exact ⟨by rw [rel_old h1.2]; exact h1.1, by omega⟩
  have HG1 : Hid (∀ k, (Value.slice a m c).ownBlock = some k → own1 k = 0) := fun k e => by
    rw [hown1]
    exact rel_new (k1.lt k e).1
  have tm : min (m : Int) 2000 = (m : Int) := by omega
  have tn : ((m : Int)).toNat = m := Int.toNat_natCast m
  have ts : IntKind.i64.wrap ((m : Int) - (m : Int)) = 0 := by rw [Int.sub_self]; rfl
  clear hss k1 b1 hl0 JT g0
  go_wp2_with fail
  go_loopw [4, 5, 29] (fun v4 v5 v29 W => ∃ (i rf : Nat) (σ : St) (l : List (Int × Int)) (own' : Nat → Nat), i ≤ m ∧ v5 = .int .i64 (rf : Int) ∧ v29 = .int .i64 (i : Int) ∧ Hid (AI ks (gs, fr, C) l0 N gw w1 own1 W i v4 rf own' σ l)) (fun _ _ v29 _ => m - (intOf v29).toNat)
  case atStart => exact ⟨0, 0, (gs, fr, C), [], own1, Nat.zero_le _, rfl, rfl, HAI.out⟩
  case round =>
    obtain ⟨i, rf, σ, l, own', him, rfl, rfl, HI⟩ := hrel
    by_cases hlt : i < m
    · have t1 : (i : Int) < (m : Int) := by omega
      have tw : IntKind.i64.wrap ((i : Int) + 1) = (i : Int) + 1 := by
        have := HM.out.2
        rw [IntKind.wrap_i64]
        omega
      have hai := HI.out
      have hrl := RunL.len _ hai.run
      rw [List.length_take] at hrl
      have tw3 : IntKind.i64.wrap ((rf : Int) + 1) = (rf : Int) + 1 := by
        have := HM.out.2
        rw [IntKind.wrap_i64]
        omega
      have hll : l.length ≤ 2000 := by have := HM.out.2; omega
      obtain ⟨a4, c4, rfl⟩ := own_len hai.row
      obtain ⟨g, rfl⟩ : ∃ g, a = some ⟨g, 0, none⟩ := by
        rcases HO.out.2 with ⟨e, -⟩ | ⟨g, c9, cur, e, -⟩
        · injection e with _ e2 _
          omega
        · injection e with e1
          exact ⟨g, e1⟩
      have hil : i < l0.length := by have := HM.out.1; omega
      have ho := hai.wk.2.own HO.out (fun k e e2 => e2.1 (HG1.out k e))
      obtain ⟨q0, q1, q2, q3, q4, q5⟩ := cz_at l0 i hil
      have hcz := czL_len l0
      rw [← ho.cellAt (i * 6) (by omega)] at q0
      rw [← ho.cellAt (i * 6 + 1) (by omega)] at q1
      rw [← ho.cellAt (i * 6 + 2) (by omega)] at q2
      rw [← ho.cellAt (i * 6 + 3) (by omega)] at q3
      rw [← ho.cellAt (i * 6 + 4) (by omega)] at q4
      rw [← ho.cellAt (i * 6 + 5) (by omega)] at q5
      have hok := (HCM1.out l0[i] (List.getElem_mem hil)).frame hai.wk.2 (fun k hk e => e.1 (HU1.out k hk).1)
      obtain ⟨qa, qn, qc, pa, pn, pc, e5, e6⟩ := hok.at2
      obtain ⟨op, hop⟩ : ∃ x, x = l0[i].op := ⟨_, rfl⟩
      obtain ⟨ix, hix⟩ : ∃ x, x = l0[i].ix := ⟨_, rfl⟩
      obtain ⟨gn, hgn⟩ : ∃ x, x = l0[i].gn := ⟨_, rfl⟩
      obtain ⟨kd, hkd⟩ : ∃ x, x = l0[i].kd := ⟨_, rfl⟩
      have ev : cmV l0[i] = .agg #[.int .i64 op, .int .i64 ix, .int .i64 gn, .int .i64 kd, .slice qa qn qc, .slice pa pn pc] := by
        unfold cmV cmL
        rw [e5, e6, hop, hix, hgn, hkd]
      rw [← hop] at q0
      rw [← hix] at q1
      rw [← hgn] at q2
      rw [← hkd] at q3
      rw [e5] at q4
      rw [e6] at q5
      obtain ⟨V1, hV1⟩ : ∃ X, X = wr.alloc (.cells #[.int .i64 op, .int .i64 ix, .int .i64 gn, .int .i64 kd, .slice qa qn qc, .slice pa pn pc] 38) := ⟨_, rfl⟩
      have bV : Below wr.heap.size wr V1 := hV1 ▸ below_alloc wr _
      obtain ⟨kc, hkc⟩ : ∃ k, k = wr.heap.size := ⟨_, rfl⟩
      have rc : V1.heap[kc]? = some (.cells #[.int .i64 op, .int .i64 ix, .int .i64 gn, .int .i64 kd, .slice qa qn qc, .slice pa pn pc] 38 (0, 0)) := by rw [hV1, hkc]; exact heap_alloc_new wr _
      have hav := hai.later bV
      have J := do_any hav.wn (by have := HM.out.2; omega) (hok.frame (Mv.of_below bV (fun _ => False)) (fun _ _ e => e)) (fun k hk => by
        have h1 := HU1.out k hk
        have h2 := hai.wk.2.size
        have h3 := bV.size
        exact ⟨by rw [rel_old (by omega), hai.wk.1 k h1.2]; exact h1.1, by omega⟩)
      rw [ev] at J
      have J := hide J
      have HAV := hide hav
      have hk0 : rel own' wr 0 kc = 0 := rel_new (by omega)
      have x0 : V1.cell? ⟨kc, 0, none⟩ = some (.int .i64 op) := by rw [cell_of_row V1 _ _ _ 38 (0, 0) rc]; rfl
      have x1 : V1.cell? ⟨kc, 1, none⟩ = some (.int .i64 ix) := by rw [cell_of_row V1 _ _ _ 38 (0, 0) rc]; rfl
      have x2 : V1.cell? ⟨kc, 2, none⟩ = some (.int .i64 gn) := by rw [cell_of_row V1 _ _ _ 38 (0, 0) rc]; rfl
      have x3 : V1.cell? ⟨kc, 3, none⟩ = some (.int .i64 kd) := by rw [cell_of_row V1 _ _ _ 38 (0, 0) rc]; rfl
      have x4 : V1.cell? ⟨kc, 4, none⟩ = some (.slice qa qn qc) := by rw [cell_of_row V1 _ _ _ 38 (0, 0) rc]; rfl
      have x5 : V1.cell? ⟨kc, 5, none⟩ = some (.slice pa pn pc) := by rw [cell_of_row V1 _ _ _ 38 (0, 0) rc]; rfl
      have HOP := hide hop
      have HK0 := hide hk0
      have RC := hide rc
      clear hai HI ho hok e5 e6 hix hgn hkd hop ev bV rc hk0 hav hcz hrl
      go_upto_region 7 with fail
      rw [← hV1, ← hkc]
      clear hV1 hkc q0 q1 q2 q3 q4 q5
      go_wp2_with fail
      refine J.out.mono ?_
      rintro e w2 ⟨x, y, z, rfl, hd⟩
      have hd' := hd
      obtain ⟨_, _, _, _, hkk⟩ := hd'
      have rc2 := hkk.2.at RC.out (fun e => e.1 HK0.out)
      obtain ⟨σ', own2, p1, p2, p3, p4, p5⟩ := HAV.out.pieces hil hd
      obtain ⟨W1, hW1⟩ : ∃ X, X = w2.alloc (.cells #[.int .i64 x, .int .i64 y] 34) := ⟨_, rfl⟩
      obtain ⟨ke, hke⟩ : ∃ k, k = w2.heap.size := ⟨_, rfl⟩
      have bW1 : Below w2.heap.size w2 W1 := by rw [hW1]; exact below_alloc w2 _
      have re : W1.heap[ke]? = some (.cells #[.int .i64 x, .int .i64 y] 34 (0, 0)) := by rw [hW1, hke]; exact heap_alloc_new w2 _
      have v0 : W1.cell? ⟨ke, 0, none⟩ = some (.int .i64 x) := by rw [cell_of_row W1 _ _ _ 34 (0, 0) re]; rfl
      have v1 : W1.cell? ⟨ke, 1, none⟩ = some (.int .i64 y) := by rw [cell_of_row W1 _ _ _ 34 (0, 0) re]; rfl
      have u0 : W1.cell? ⟨kc, 0, none⟩ = some (.int .i64 op) := by rw [cell_of_row W1 _ _ _ 38 (0, 0) ((bW1.block kc (lt_of_block rc2)).trans rc2)]; rfl
      have BW1 := hide bW1
      have P1 := hide p1
      have P2 := hide p2
      have P3 := hide p3
      have P4 := hide p4
      have P5 := hide p5
      clear hd hkk p1 p2 p3 p4 p5 J x0 x1 x2 x3 x4 x5 bW1 re RC rc2
      go_upto_region 8 with fail
      rw [← hW1, ← hke]
      have HKE := hide hke
      clear hW1 hke
      by_cases hz : z = 0
      · by_cases ho1 : op = 1
        · have hb1 : (op == 1) = true := by simp [ho1]
          have HR1 : Hid (RunL ks (gs, fr, C) (l0.take (i + 1)) σ' (l ++ [(x, y)]) rf) := by
            have hr := P1.out
            rw [if_pos ⟨hz, HOP.out.symm.trans ho1⟩, if_pos hz] at hr
            exact hr
          clear P1
          subst hz
          have b4 : Below w2.heap.size w2 (W1.alloc (.cells #[.int .i64 x, .int .i64 y] 34)) := below_on BW1.out (below_alloc W1 _)
          have HB4 := hide b4
          have HO4 := hide (own_later P2.out b4)
          clear b4
          go_wp2_with (at_builtin; refine wpList_append_own_at _ rfl _ _ 41 rfl w1.heap.size 34 ie (.agg #[.int .i64 0, .int .i64 0]) 2 16 Tryz.underlying41 hie hez0 hez1 hez2 rfl (by decide) _ l.length (nz l) rfl HO4.out ⟨W1.heap.size, 0, none⟩ 1 1 [.int .i64 x, .int .i64 y] rfl rfl ?news (by intro u hu; simp only [List.mem_cons, List.not_mem_nil, or_false] at hu; rcases hu with rfl | rfl <;> rfl) (by unfold maxLen; omega) (by omega) ?bas ?_)
          case bas => exact Nat.le_trans P5.out.2.size HB4.out.size
          case news =>
            intro j u hj
            have hr := heap_alloc_new W1 (.cells #[.int .i64 x, .int .i64 y] 34)
            rw [add_at, Nat.zero_add, cell_of_row _ _ _ _ 34 (0, 0) hr]
            simpa using hj
          intro v' w3 ho' hg' _ hblk
          obtain ⟨a', c', rfl⟩ := own_len ho'
          have HX : Hid (AI ks (gs, fr, C) l0 N gw w1 own1 w3 (i + 1) (.slice a' (l.length + 1) c') rf (rel (rel own2 w2 0) (W1.alloc (.cells #[.int .i64 x, .int .i64 y] 34)) 0) σ' (l ++ [(x, y)])) := by
            have hr := HR1.out
            have hs2 := HB4.out.size
            have hs1 := P5.out.2.size
            have hm3 : Mv (W1.alloc (.cells #[.int .i64 x, .int .i64 y] 34)) w3 (fun k => (Value.slice a4 l.length c4).ownBlock = some k) := (Mv.refl _ (fun k => (Value.slice a4 l.length c4).ownBlock = some k)).grown hg' (fun k _ e => e)
            refine ⟨hr, ?_, fun k e => ?_, (P4.out.later HB4.out).frame hm3 (fun k hk e => ?_), fun k hk => ?_, ?_⟩
            · rw [List.length_append, nz_push]
              exact ho'
            · rcases hblk with e2 | e2
              · rw [e2] at e
                have h3 := P3.out k e
                rw [rel_old (by omega), rel_old h3.2]
                exact h3.1
              · rw [e2] at e
                have e3 : W1.heap.size + 1 = k := Option.some.inj e
                refine rel_new ?_
                simp
                omega
            · have h3 := P3.out k e
              rw [rel_old h3.2]
              exact h3.1
            · rw [rel_old (by omega), rel_old (by omega)]
              exact P5.out.1 k hk
            · refine (P5.out.2.later HB4.out).trans hm3 (fun k hk e => ?_)
              have := (P2.out.lt k e).1
              omega
          clear ho' hg' hblk
          go_wp2_with fail
          go_roundw
          case rel => exact ⟨i + 1, rf, σ', l ++ [(x, y)], _, hlt, rfl, by go_num, HX.out⟩
          case measure => simp [intOf]; omega
        · have hb1 : (op == 1) = false := by simp [ho1]
          have HX : Hid (AI ks (gs, fr, C) l0 N gw w1 own1 W1 (i + 1) (.slice a4 l.length c4) rf (rel own2 w2 0) σ' l) := by
            have hr := P1.out
            rw [if_neg (fun e => ho1 (HOP.out.trans e.2)), if_pos hz] at hr
            exact AI.later ⟨hr, P2.out, fun k e => (P3.out k e).1, P4.out, P5.out⟩ BW1.out
          subst hz
          clear ho1
          go_wp2_with fail
          go_roundw
          case rel => exact ⟨i + 1, rf, σ', l, _, hlt, rfl, by go_num, HX.out⟩
          case measure => simp [intOf]; omega
      · have hzb : (z != 0) = true := by simp [hz]
        have HX : Hid (AI ks (gs, fr, C) l0 N gw w1 own1 W1 (i + 1) (.slice a4 l.length c4) (rf + 1) (rel own2 w2 0) σ' l) := by
          have hr := P1.out
          rw [if_neg (fun e => hz e.1), if_neg hz] at hr
          exact AI.later ⟨hr, P2.out, fun k e => (P3.out k e).1, P4.out, P5.out⟩ BW1.out
        clear hz
        go_wp2_with fail
        go_roundw
        case rel => exact ⟨i + 1, rf + 1, σ', l, _, hlt, by go_num, by go_num, HX.out⟩
        case measure => simp [intOf]; omega
    · have t1 : ¬ (i : Int) < (m : Int) := by omega
      obtain rfl : i = m := by omega
      obtain ⟨a4, c4, rfl⟩ := own_len HI.out.row
      have HR : Hid (RunL ks (gs, fr, C) (allL L ss) σ l rf) := by
        have hr := HI.out.run
        rw [List.take_of_length_le (by have := HM.out.1; omega), HL0.out] at hr
        exact hr
      have HW2 : Hid (Wk own own' w wr) := (show Wk own own1 w w1 by rw [hown1]; exact Wk.later B1.out).trans HI.out.wk
      have hrow := own_lower HI.out.row B1.out.size
      have HRW := hide hrow
      have HVO := hide HI.out.vo
      have HWW := hide (HI.out.wn.up (N' := N + 8000) (by have := HM.out.2; omega))
      clear hrow HI hown1
      go_wp2_with fail
      go_ret2
      exact ⟨_, rf, rfl, σ, l, ss, own', ⟨HSS.out.2.2.2.1, HSS.out.2.2.2.2⟩, HR.out, ⟨HRW.out, HVO.out⟩, HWW.out, HW2.out⟩
end Go.Proofs.YtfbhoemfabgjpaaGreat

/-
  Buffer: New.
-/
namespace Go.Proofs.YtfbhoemfabgjpaaGreat
open Go.RowKit
set_option maxRecDepth 100000
theorem bnew_any (w : World) : Calls Tryz.prog 5 #[] w fun e w' => ∃ gb gm, e = .returned (.pointer (some ⟨gb, 0, none⟩)) ∧ Bg w' (fun k => k = gb ∨ k = gm) (fun _ => False) gb gm 0 (fun _ => none) (fun _ => []) 0 ∧ (w.heap.size ≤ gb ∧ w.heap.size ≤ gm) ∧ Below w.heap.size w w' := by
  have hmm := @run_makeMap Tryz.prog
  obtain ⟨w1, hw1⟩ : ∃ X, X = w.alloc (.map #[] 0) := ⟨_, rfl⟩
  have hM : Mt w1 w.heap.size 0 (fun _ => none) := hw1 ▸ Mt.made w
  have b1 : Below w.heap.size w w1 := hw1 ▸ below_alloc w _
  have hs : w1.heap.size = w.heap.size + 1 := by rw [hw1]; simp
  obtain ⟨w2, hw2⟩ : ∃ X, X = w1.alloc (.cells #[.map (some w.heap.size), .int .i64 0] 55) := ⟨_, rfl⟩
  have b2 : Below w1.heap.size w1 w2 := hw2 ▸ below_alloc w1 _
  have hr : w2.heap[w1.heap.size]? = some (.cells #[.map (some w.heap.size), .int .i64 0] 55 (0, 0)) := hw2 ▸ heap_alloc_new w1 _
  have hs2 : w2.heap.size = w.heap.size + 2 := by rw [hw2]; simp [hs]
  have RES : Hid (Bg w2 (fun k => k = w1.heap.size ∨ k = w.heap.size) (fun _ => False) w1.heap.size w.heap.size 0 (fun _ => none) (fun _ => []) 0 ∧ (w.heap.size ≤ w1.heap.size ∧ w.heap.size ≤ w.heap.size) ∧ Below w.heap.size w w2) := by
    refine ⟨{
      row := hr
      mp := hM.same (b2.block _ (by omega))
      nn := Nat.le_refl _
      sb := .inl rfl
      sm := .inr rfl
      bs := fun k hk => by omega
      bu := fun k hk => hk.elim
      su := fun k hk => hk.elim
      no := fun _ _ => rfl
      yes := fun _ _ h => by cases h
      ap := fun _ _ _ _ _ h => by cases h
      cs := fun _ _ h => by cases h
      ib := fun _ h => absurd rfl h
      tot := fun ss _ => by
        have : ss.flatMap (fun _ : Int × Int => ([] : List Cm)) = [] := List.flatMap_eq_nil_iff.2 (fun _ _ => rfl)
        rw [this]
        exact Nat.le_refl _ }, ⟨by omega, Nat.le_refl _⟩, below_on b1 b2⟩
  clear hM b1 b2 hr hs2
  have HS := hide hs
  clear hs
  go_enter Tryz.func5, Tryz.ntmps5
  go_wp2_with fail
  go_ret
  have e := RES.out
  rw [hw2, hw1] at e
  exact ⟨_, _, by simp [], e⟩
end Go.Proofs.YtfbhoemfabgjpaaGreat

/-
  Buffer: the law's kinds.
-/
namespace Go.Proofs.YtfbhoemfabgjpaaGreat
open Go.RowKit
set_option maxRecDepth 100000
def bksK : List Kind := [(bs [80, 111, 115], [bs [120], bs [121]]), (bs [86, 101, 108], [bs [120]]), (bs [77, 97, 114, 107], [])]
theorem bks_kr {W : World} {g1 g2 g4 : Nat} (h1 : W.heap[g1]? = some (.cells #[.string (bs [120]), .string (bs [121])] 9 (0, 0))) (h2 : W.heap[g2]? = some (.cells #[.string (bs [120])] 9 (0, 0)))
    (h4 : W.heap[g4]? = some (.cells #[.string (bs [80, 111, 115]), .slice (some ⟨g1, 0, none⟩) 2 2, .string (bs [86, 101, 108]), .slice (some ⟨g2, 0, none⟩) 1 1, .string (bs [77, 97, 114, 107]), .slice none 0 0] 67 (0, 0))) : Kr W (.slice (some ⟨g4, 0, none⟩) 3 3) bksK := by
  have hc : ∀ j, W.cell? ⟨g4, j, none⟩ = _ := fun j => cell_of_row W g4 j _ 67 (0, 0) h4
  refine ⟨some ⟨g4, 0, none⟩, 3, rfl, Nat.le_refl _, by unfold maxLen; omega, fun i hi => ?_⟩
  have hi4 : i = 0 ∨ i = 1 ∨ i = 2 := by have : bksK.length = 3 := rfl; omega
  rcases hi4 with rfl | rfl | rfl
  · exact ⟨g4, 0, _, rfl, hc 0, hc 1, sr_of (l := [bs [120], bs [121]]) h1 (by decide) (fun j hj => by
      have : j = 0 ∨ j = 1 := by simp at hj; omega
      rcases this with rfl | rfl <;> rfl)⟩
  · exact ⟨g4, 0, _, rfl, hc 2, hc 3, sr_of (l := [bs [120]]) h2 (by decide) (fun j hj => by
      have : j = 0 := by simp at hj; omega
      subst this; rfl)⟩
  · exact ⟨g4, 0, _, rfl, hc 4, hc 5, ⟨none, 0, rfl, Nat.le_refl _, Nat.zero_le _, fun j hj => absurd hj (by simp [bksK])⟩⟩
theorem three_allocs (w : World) (a b c : Obj) : (((w.alloc a).alloc b).alloc c).heap[w.heap.size]? = some a ∧ (((w.alloc a).alloc b).alloc c).heap[w.heap.size + 1]? = some b ∧ (((w.alloc a).alloc b).alloc c).heap[w.heap.size + 1 + 1]? = some c := by
  have e1 := heap_alloc_new (w.alloc a) b
  have e2 := heap_alloc_new ((w.alloc a).alloc b) c
  simp only [World.size_alloc] at e1 e2
  refine ⟨?_, ?_, e2⟩
  · exact ((below_on (below_alloc (w.alloc a) b) (below_alloc _ c)).block w.heap.size (by simp)).trans (heap_alloc_new w a)
  · exact ((below_alloc ((w.alloc a).alloc b) c).block (w.heap.size + 1) (by simp)).trans e1
theorem bks_any (w : World) : Calls Tryz.prog 7 #[] w fun e w' => ∃ v, e = .returned v ∧ (∀ W, Below w'.heap.size w' W → Kr W v bksK) ∧ Below w.heap.size w w' := by
  go_enter Tryz.func7, Tryz.ntmps7
  go_wp2_with fail
  go_ret
  refine ⟨_, rfl, fun W hW => ?_, ?_⟩
  · have k1 : ∀ (a b c : Obj) (X : World), X = ((w.alloc a).alloc b).alloc c → X.heap[w.heap.size]? = some a ∧ X.heap[w.heap.size + 1]? = some b ∧ X.heap[w.heap.size + 1 + 1]? = some c := fun a b c X hX => by
      subst hX
      exact three_allocs w a b c
    obtain ⟨e1, e2, e4⟩ := k1 _ _ _ _ rfl
    exact bks_kr ((hW.block _ (lt_of_block e1)).trans e1) ((hW.block _ (lt_of_block e2)).trans e2) ((hW.block _ (lt_of_block e4)).trans e4)
  · exact below_on (below_on (below_alloc w _) (below_alloc _ _)) (below_alloc _ _)
theorem bks_may : mayB bksK := by
  refine ⟨by decide, by decide, fun k hk => ?_, ?_⟩
  · simp only [bksK, List.mem_cons, List.not_mem_nil, or_false] at hk
    rcases hk with rfl | rfl | rfl
    · refine ⟨by decide, fun x hx => ?_, by decide⟩
      simp only [List.mem_cons, List.not_mem_nil, or_false] at hx
      rcases hx with rfl | rfl
      · exact ⟨by decide, by decide, by decide, by decide⟩
      · exact ⟨by decide, by decide, by decide, by decide⟩
    · refine ⟨by decide, fun x hx => ?_, by decide⟩
      simp only [List.mem_cons, List.not_mem_nil, or_false] at hx
      rcases hx with rfl
      exact ⟨by decide, by decide, by decide, by decide⟩
    · exact ⟨by decide, fun x hx => absurd hx (by simp), by decide⟩
  · refine ⟨fun x hx => ?_, by decide⟩
    simp only [bksK, List.map_cons, List.map_nil, List.mem_cons, List.not_mem_nil, or_false] at hx
    rcases hx with rfl | rfl | rfl <;> exact ⟨by decide, by decide, by decide, by decide⟩
end Go.Proofs.YtfbhoemfabgjpaaGreat

/-
  Buffer: a buffer and its blocks.
-/
namespace Go.Proofs.YtfbhoemfabgjpaaGreat
open Go.RowKit
set_option maxRecDepth 100000
/-- A buffer whose blocks are of Q. -/
def Bf (W : World) (Q : Nat → Prop) (g gx : Nat) (L : Int × Int → List Cm) (sz : Nat) : Prop :=
  ∃ S U n f, Bg W S U g gx n f L sz ∧ (∀ k, S k → Q k) ∧ ∀ k, U k → Q k
/-- The same command, elsewhere. -/
def Alike (c' c : Cm) : Prop := c'.op = c.op ∧ c'.ix = c.ix ∧ c'.gn = c.gn ∧ c'.kd = c.kd ∧ c'.V = c.V ∧ c'.P = c.P
section
variable {W W' : World} {Q R : Nat → Prop} {g gx sz : Nat} {L : Int × Int → List Cm}
theorem Bf.frame (h : Bf W Q g gx L sz) (hm : Mv W W' R) (hR : ∀ k, k < W.heap.size → Q k → ¬ R k) : Bf W' Q g gx L sz := by
  obtain ⟨S, U, n, f, h1, h2, h3⟩ := h
  exact ⟨S, U, n, f, h1.frame hm (fun k hk => hR k (h1.bs k hk) (h2 k hk)) (fun k hk => hR k (h1.bu k hk) (h3 k hk)), h2, h3⟩
theorem Bf.later (h : Bf W Q g gx L sz) (hb : Below W.heap.size W W') : Bf W' Q g gx L sz := h.frame (Mv.of_below hb (fun _ => False)) (fun _ _ _ e => e)
theorem Bf.put {b : Prop} {P : Nat → Prop} {c : Cm} (h : Bf W Q g gx L sz) (x y g1 : Int) (he : InB (x, y)) (hc : CmOk b W P c) (hsz : sz < 100000) :
    Calls Tryz.prog 8 #[.pointer (some ⟨g, 0, none⟩), .int .i64 x, .agg #[.int .i64 y, .int .i64 g1], cmV c] W fun e w' => e = .returned (.int .i64 0) ∧ ∃ c', Alike c' c ∧ Bf w' (fun k => Q k ∨ W.heap.size ≤ k ∧ k < w'.heap.size) g gx (fun e => if e = (x, y) then L (x, y) ++ [c'] else L e) (sz + 1) ∧ Mv W w' Q := by
  obtain ⟨S, U, n, f, h1, h2, h3⟩ := h
  refine (bput_any h1 x y g1 he hc hsz).mono ?_
  rintro e w' ⟨rfl, S', U', n', f', c', hs, k1, k2, k3, k4⟩
  exact ⟨rfl, c', hs, ⟨S', U', n', f', k1, fun k hk => (k3 k hk).imp (h2 k) (fun h => ⟨h, k1.bs k hk⟩), fun k hk => (k4 k hk).imp (h3 k) (fun h => ⟨h, k1.bu k hk⟩)⟩, k2.mono (fun k _ hk => h2 k hk)⟩
/-- How many All has. -/
theorem Bf.all (h : Bf W Q g gx L sz) (hsz : sz ≤ 100000) :
    Calls Tryz.prog 11 #[.pointer (some ⟨g, 0, none⟩)] W fun e w' => ∃ (v : Value) (ss : List (Int × Int)) (l : List Cm), e = .returned v ∧ ((∀ x, x ∈ ss ↔ L x ≠ []) ∧ ss.Pairwise ltT) ∧ (l.length = (allL L ss).length ∧ ∀ j (h1 : j < l.length) (h2 : j < (allL L ss).length), l[j].op = (allL L ss)[j].op ∧ l[j].kd = (allL L ss)[j].kd) ∧ w'.ownsRow W.heap.size 38 6 v l.length (czL l) ∧ Below W.heap.size W w' := by
  obtain ⟨S, U, n, f, h1, h2, h3⟩ := h
  exact ball_any h1 hsz
theorem Bf.apply (h : Bf W Q g gx L sz) (hsz : sz ≤ 2000) {own : Nat → Nat} {gw N : Nat} {ks : List Kind} {gs fr : List Nat} {C : Co} (hw : Wn W own gw N ks gs fr C) (hN : N ≤ 700000) (hQ : ∀ k, k < W.heap.size → Q k → own k = 0) :
    Calls Tryz.prog 9 #[.pointer (some ⟨g, 0, none⟩), .pointer (some ⟨gw, 0, none⟩)] W fun e w' => ∃ (v : Value) (rf : Nat), e = .returned (.tuple #[v, .int .i64 (rf : Int)]) ∧ ApR W ks (gs, fr, C) L gw N own w' v rf := by
  obtain ⟨S, U, n, f, h1, h2, h3⟩ := h
  exact applyL_any h1 hsz hw hN (fun k hk => ⟨hQ k (h1.bu k hk) (h3 k hk), h1.bu k hk⟩)
theorem bf_new (w : World) : Calls Tryz.prog 5 #[] w fun e w' => ∃ gb gm, e = .returned (.pointer (some ⟨gb, 0, none⟩)) ∧ Bf w' (fun k => k = gb ∨ k = gm) gb gm (fun _ => []) 0 ∧ (w.heap.size ≤ gb ∧ w.heap.size ≤ gm ∧ gb < w'.heap.size ∧ gm < w'.heap.size) ∧ Below w.heap.size w w' := by
  refine (bnew_any w).mono ?_
  rintro e w' ⟨gb, gm, rfl, h1, h2, h3⟩
  exact ⟨gb, gm, rfl, ⟨_, _, _, _, h1, fun _ h => h, fun _ h => h.elim⟩, ⟨h2.1, h2.2, h1.bs gb h1.sb, h1.bs gm h1.sm⟩, h3⟩
end
theorem cm_lit1 (w : World) : CmOk False w (fun _ => False) ⟨2, 0, 1, 0, .slice none 0 0, .slice none 0 0, [], []⟩ := by
  refine ⟨⟨⟨none, 0, rfl, Nat.le_refl _, Nat.zero_le _, fun j hj => absurd hj (by simp)⟩, fun j e => by cases e⟩, ⟨[], ⟨none, 0, rfl, Nat.le_refl _, Nat.zero_le _, fun j hj => absurd hj (by simp)⟩, rfl, fun j e => (by cases e), fun i h1 => absurd h1 (by simp), fun h => h.elim⟩, ⟨by simp, by simp, by simp, by simp, by simp, ⟨by simp only; omega, by simp only; omega⟩⟩, fun h => h.elim⟩
theorem cm_lit2 (w : World) : CmOk False w (fun _ => False) ⟨1, 0, 0, 0, .slice none 0 0, .slice none 0 0, [], []⟩ := by
  refine ⟨⟨⟨none, 0, rfl, Nat.le_refl _, Nat.zero_le _, fun j hj => absurd hj (by simp)⟩, fun j e => by cases e⟩, ⟨[], ⟨none, 0, rfl, Nat.le_refl _, Nat.zero_le _, fun j hj => absurd hj (by simp)⟩, rfl, fun j e => (by cases e), fun i h1 => absurd h1 (by simp), fun h => h.elim⟩, ⟨by simp, by simp, by simp, by simp, by simp, ⟨by simp only; omega, by simp only; omega⟩⟩, fun h => h.elim⟩
theorem two_keys {L : Int × Int → List Cm} (h1 : L (0, 9) ≠ []) (h2 : L (1, 5) ≠ []) (h3 : ∀ x, x ≠ (0, 9) → x ≠ (1, 5) → L x = []) {ss : List (Int × Int)} (hm : ∀ x, x ∈ ss ↔ L x ≠ []) (hs : ss.Pairwise ltT) : ss = [(0, 9), (1, 5)] := by
  refine sorted_one hs (by simp [ltT]) (fun x => (hm x).trans ⟨fun h => ?_, fun h => ?_⟩)
  · by_cases e1 : x = (0, 9)
    · rw [e1]; simp
    · by_cases e2 : x = (1, 5)
      · rw [e2]; simp
      · exact absurd (h3 x e1 e2) h
  · simp only [List.mem_cons, List.not_mem_nil, or_false] at h
    rcases h with rfl | rfl
    · exact h1
    · exact h2
/-- The example's two commands: one is made, and taken away. -/
theorem run_two {c1 c2 : Cm} {σ : St} {l : List (Int × Int)} {rf : Nat} (h1 : c1.op = 1 ∧ c1.P = [(2, [7])]) (h2 : c2.op = 2 ∧ c2.ix = 0 ∧ c2.gn = 1) (h : RunL bksK ([], [], fun _ => none) [c1, c2] σ l rf) : l = [(0, 1)] ∧ rf = 0 ∧ σ.2.2 (0, 1) = none := by
  obtain ⟨σ1, m1, z1, k1, q1, s1, ⟨σ2, m2, z2, k2, q2, s2, ⟨e1, e2, e3⟩, e4, e5⟩, e6, e7⟩ := h
  unfold StepC at s1
  rw [if_pos h1.1] at s1
  have hc : comeM bksK 0 (mp c1.P) = 0 := by rw [h1.2]; rfl
  rw [if_pos hc, if_neg (by simp)] at s1
  obtain ⟨⟨vals, hs, -, -⟩, hm, hz⟩ := s1
  unfold StepC at s2
  rw [if_neg (by omega)] at s2
  obtain ⟨-, s2⟩ := s2
  rw [if_pos h2.1] at s2
  have hi : (σ1.2.2 (c2.ix, c2.gn)).isSome = true := by
    rw [hs, h2.2.1, h2.2.2]
    rfl
  rw [if_pos hi] at s2
  obtain ⟨hs2, hz2⟩ := s2
  subst e1 e2 e3
  rw [e6, e7, e4, e5, if_pos ⟨hz, h1.1⟩, if_neg (by omega), if_pos hz, if_pos hz2, hm]
  refine ⟨rfl, rfl, ?_⟩
  rw [hs2, h2.2.1, h2.2.2]
  rfl
end Go.Proofs.YtfbhoemfabgjpaaGreat
