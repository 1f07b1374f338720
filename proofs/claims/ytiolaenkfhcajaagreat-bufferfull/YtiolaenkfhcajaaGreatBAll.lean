/-
  Buffer: All.
-/
import Derived.Test.YtiolaenkfhcajaaGreatBTog
namespace Go.Proofs.YtiolaenkfhcajaaGreat
open Go.RowKit
set_option maxRecDepth 100000
theorem czL_set (c : Cm) : ∀ (l : List Cm) (i : Nat), i < l.length → (((((((czL l).set (i * 6) (.int .i64 c.op)).set (i * 6 + 1) (.int .i64 c.ix)).set (i * 6 + 2) (.int .i64 c.gn)).set (i * 6 + 3) (.int .i64 c.kd)).set (i * 6 + 4) c.vs).set (i * 6 + 5) c.ps) = czL (l.set i c)
  | x :: t, 0, _ => by simp [czL, cmL]
  | x :: t, i + 1, h => by
    have ih := czL_set c t i (by simpa using h)
    rw [show (i + 1) * 6 = i * 6 + 6 by omega]
    have e : ∀ (y : Cm) (s : List Cm), czL (y :: s) = .int .i64 y.op :: .int .i64 y.ix :: .int .i64 y.gn :: .int .i64 y.kd :: y.vs :: y.ps :: czL s := fun _ _ => rfl
    rw [List.set_cons_succ, e, e, ← ih]
    simp only [show ∀ k, i * 6 + 6 + k = i * 6 + k + 1 + 1 + 1 + 1 + 1 + 1 from fun k => by omega, show i * 6 + 6 = i * 6 + 1 + 1 + 1 + 1 + 1 + 1 from rfl, List.set_cons_succ]
theorem own_set6 {W : World} {B g n cp i : Nat} {l : List Cm} (h : W.ownsRow B 40 6 (.slice (some ⟨g, 0, none⟩) n cp) n (czL l)) (c : Cm) (hi : i < l.length) :
    ((((((W.setCell ⟨g, i * 6, none⟩ (.int .i64 c.op)).setCell ⟨g, i * 6 + 1, none⟩ (.int .i64 c.ix)).setCell ⟨g, i * 6 + 2, none⟩ (.int .i64 c.gn)).setCell ⟨g, i * 6 + 3, none⟩ (.int .i64 c.kd)).setCell ⟨g, i * 6 + 4, none⟩ c.vs).setCell ⟨g, i * 6 + 5, none⟩ c.ps).ownsRow B 40 6 (.slice (some ⟨g, 0, none⟩) n cp) n (czL (l.set i c)) := by
  rw [← czL_set c l i hi]
  exact (((((((h.stored (i * 6) _).1).stored (i * 6 + 1) _).1).stored (i * 6 + 2) _).1.stored (i * 6 + 3) _).1.stored (i * 6 + 4) _).1.stored (i * 6 + 5) _ |>.1
theorem cz_at : ∀ (l : List Cm) (i : Nat) (h : i < l.length), (czL l)[i * 6]? = some (.int .i64 l[i].op) ∧ (czL l)[i * 6 + 1]? = some (.int .i64 l[i].ix) ∧ (czL l)[i * 6 + 2]? = some (.int .i64 l[i].gn) ∧ (czL l)[i * 6 + 3]? = some (.int .i64 l[i].kd) ∧ (czL l)[i * 6 + 4]? = some l[i].vs ∧ (czL l)[i * 6 + 5]? = some l[i].ps
  | x :: t, 0, _ => ⟨rfl, rfl, rfl, rfl, rfl, rfl⟩
  | x :: t, i + 1, h => by
    have ih := cz_at t i (by simpa using h)
    rw [show (i + 1) * 6 = i * 6 + 1 + 1 + 1 + 1 + 1 + 1 by omega]
    have e : czL (x :: t) = .int .i64 x.op :: .int .i64 x.ix :: .int .i64 x.gn :: .int .i64 x.kd :: x.vs :: x.ps :: czL t := rfl
    rw [e]
    simpa only [show ∀ k, i * 6 + 1 + 1 + 1 + 1 + 1 + 1 + k = i * 6 + k + 1 + 1 + 1 + 1 + 1 + 1 from fun k => by omega, List.getElem?_cons_succ, List.getElem_cons_succ] using ih
theorem allL_mem {L : Int × Int → List Cm} {ss : List (Int × Int)} {c : Cm} (h : c ∈ allL L ss) : ∃ x, c ∈ L x := by
  obtain ⟨x, -, hx⟩ := List.mem_flatMap.1 h
  exact ⟨x, hx⟩
set_option maxHeartbeats 8000000 in
theorem ball_any {w : World} {S U : Nat → Prop} {gb gm n sz : Nat} {f : Int × Int → Option Value} {L : Int × Int → List Cm} (h : Bg w S U gb gm n f L sz) (hsz : sz ≤ 100000) :
    Calls Tryz.prog 12 #[.pointer (some ⟨gb, 0, none⟩)] w fun e w' => ∃ (v : Value) (ss : List (Int × Int)) (l : List Cm), e = .returned v ∧ ((∀ x, x ∈ ss ↔ L x ≠ []) ∧ ss.Pairwise ltT) ∧ (l.length = (allL L ss).length ∧ ∀ j (h1 : j < l.length) (h2 : j < (allL L ss).length), l[j].op = (allL L ss)[j].op ∧ l[j].kd = (allL L ss)[j].kd) ∧ w'.ownsRow w.heap.size 40 6 v l.length (czL l) ∧ Below w.heap.size w w' := by
  have g0 : w.cell? ⟨gb, 0, none⟩ = some (.map (some gm)) := by rw [cell_of_row w _ _ _ 54 (0, 0) h.row]; rfl
  have JT : Hid (Calls Tryz.prog 18 #[.map (some gm), .func (.func 19) #[] #[]] w fun e w' => ∃ a m c ss, e = .returned (.slice a m c) ∧ (m = (allL L ss).length ∧ m ≤ 100000 ∧ (∀ x, x ∈ ss ↔ L x ≠ []) ∧ ss.Pairwise ltT) ∧ w'.ownsRow w.heap.size 40 6 (.slice a m c) m (czL (allL L ss)) ∧ Below w.heap.size w w') := by
    refine (together_any h hsz).mono ?_
    rintro e w' ⟨v, ss, e1, k1, k2, k3, k4⟩
    obtain ⟨a, c, rfl⟩ := own_len k3
    have := h.tot ss (nodup_lt k2)
    unfold allL at *
    exact ⟨a, _, c, ss, e1, ⟨rfl, by omega, k1, k2⟩, k3, k4⟩
  have H := hide h
  clear h hsz
  go_enter Tryz.func12, Tryz.ntmps12
  go_wp2_with fail
  refine JT.out.mono ?_
  rintro e w1 ⟨a, m, c, ss, rfl, hss, k1, b1⟩
  have HSS := hide hss
  have HK := hide k1
  have B1 := hide b1
  obtain ⟨l0, hl0⟩ : ∃ l, l = allL L ss := ⟨_, rfl⟩
  have HL0 := hide hl0
  have HM : Hid (m = l0.length ∧ m ≤ 100000) := ⟨by rw [hl0]; exact hss.1, hss.2.1⟩
  have HC : Hid (∀ V, Below w.heap.size w V → ∀ c ∈ l0, CmOk V U c) := fun V hV c hc => by
    rw [hl0] at hc
    obtain ⟨x, hx⟩ := allL_mem hc
    exact (H.out.cs x c hx).frame (Mv.of_below hV (fun _ => False)) (fun _ _ e => e)
  have HK : Hid (w1.ownsRow w.heap.size 40 6 (.slice a m c) m (czL l0)) := by rw [hl0]; exact k1
  clear hss k1 b1 hl0 JT g0
  go_wp2_with fail
  go_loopw [13] (fun v13 W => ∃ (i : Nat) (l : List Cm), i ≤ m ∧ v13 = .int .i64 (i : Int) ∧ Hid ((l.length = m ∧ (∀ j (h1 : j < l.length) (h2 : j < l0.length), l[j].op = l0[j].op ∧ l[j].kd = l0[j].kd) ∧ ∀ j (h1 : j < l.length) (h2 : j < l0.length), i ≤ j → l[j] = l0[j]) ∧ W.ownsRow w.heap.size 40 6 (.slice a m c) m (czL l) ∧ Below w.heap.size w W)) (fun v13 _ => m - (intOf v13).toNat)
  case atStart => exact ⟨0, l0, Nat.zero_le _, rfl, ⟨HM.out.1.symm, fun _ _ _ => ⟨rfl, rfl⟩, fun _ _ _ _ => rfl⟩, HK.out, B1.out⟩
  case round =>
    obtain ⟨i, l, him, rfl, HI⟩ := hrel
    by_cases hlt : i < m
    · have t1 : (i : Int) < (m : Int) := by omega
      have tw : IntKind.i64.wrap ((i : Int) + 1) = (i : Int) + 1 := by
        have := HM.out.2
        rw [IntKind.wrap_i64]
        omega
      obtain ⟨⟨hl, hlo, hle⟩, ho, hb⟩ := HI.out
      obtain ⟨g, rfl⟩ : ∃ g, a = some ⟨g, 0, none⟩ := by
        rcases ho.2 with ⟨e, -⟩ | ⟨g, c9, cur, e, -⟩
        · injection e with _ e2 _
          omega
        · injection e with e1
          exact ⟨g, e1⟩
      have hil : i < l.length := by omega
      have hil0 : i < l0.length := by have := HM.out.1; omega
      obtain ⟨q0, q1, q2, q3, q4, q5⟩ := cz_at l i hil
      rw [← ho.cellAt (i * 6) (by omega)] at q0
      rw [← ho.cellAt (i * 6 + 1) (by omega)] at q1
      rw [← ho.cellAt (i * 6 + 2) (by omega)] at q2
      rw [← ho.cellAt (i * 6 + 3) (by omega)] at q3
      rw [← ho.cellAt (i * 6 + 4) (by omega)] at q4
      rw [← ho.cellAt (i * 6 + 5) (by omega)] at q5
      have hok := HC.out wr hb l0[i] (List.getElem_mem hil0)
      rw [← hle i hil hil0 (Nat.le_refl _)] at hok
      obtain ⟨pa, pn, pc, hcc⟩ := hok.at
      obtain ⟨cc, hcx⟩ : ∃ x, x = l[i] := ⟨_, rfl⟩
      have HCX := hide hcx
      rw [← hcx] at q0 q1 q2 q3 q4 q5 hok hcc
      obtain ⟨op, ix, gn, kd, vs, ps⟩ := cc
      injection hcc with _ _ _ _ e5 e6
      subst e5 e6
      dsimp only at q0 q1 q2 q3 q4 q5
      obtain ⟨W1, hW1⟩ : ∃ X, X = wr.alloc (.cells #[.int .i64 op, .int .i64 ix, .int .i64 gn, .int .i64 kd, .slice none 0 0, .slice pa pn pc] 40) := ⟨_, rfl⟩
      have bW : Below wr.heap.size wr W1 := hW1 ▸ below_alloc wr _
      have hb1 := below_on hb bW
      have HB1 := hide hb1
      have HBW := hide bW
      have JC : Hid (Calls Tryz.prog 17 #[.agg #[.int .i64 op, .int .i64 ix, .int .i64 gn, .int .i64 kd, .slice none 0 0, .slice pa pn pc]] W1 fun e w' => ∃ a' n' p', e = .returned (.agg #[.int .i64 op, .int .i64 ix, .int .i64 gn, .int .i64 kd, .slice none 0 0, .slice a' n' p']) ∧ Below W1.heap.size W1 w') := (clonec_any (hok.frame (Mv.of_below bW (fun _ => False)) (fun _ _ e => e))).mono fun e w' ⟨c', e1, ⟨e2, e3, e4, e5⟩, k1, _, _, k3⟩ => by
        obtain ⟨a', n', p', hcc⟩ := k1.at
        obtain ⟨op', ix', gn', kd', vs', ps'⟩ := c'
        injection hcc with _ _ _ _ e6 e7
        subst e6 e7
        have e2 : op' = op := e2
        have e3 : ix' = ix := e3
        have e4 : gn' = gn := e4
        have e5 : kd' = kd := e5
        subst e2 e3 e4 e5
        exact ⟨a', n', p', e1, k3⟩
      have HHL : Hid (l.length = m ∧ (∀ j (h1 : j < l.length) (h2 : j < l0.length), l[j].op = l0[j].op ∧ l[j].kd = l0[j].kd) ∧ ∀ j (h1 : j < l.length) (h2 : j < l0.length), i ≤ j → l[j] = l0[j]) := ⟨hl, hlo, hle⟩
      have HO := hide ho
      have HIL := hide hil
      clear hok ho hb hl hlo hle bW hb1 hcx hil0
      go_upto_region 5 with fail
      rw [← hW1]
      have kc : W1.heap[wr.heap.size]? = some (.cells #[.int .i64 op, .int .i64 ix, .int .i64 gn, .int .i64 kd, .slice none 0 0, .slice pa pn pc] 40 (0, 0)) := by rw [hW1]; exact heap_alloc_new wr _
      obtain ⟨kz, hkz⟩ : ∃ k, k = wr.heap.size := ⟨_, rfl⟩
      rw [← hkz] at kc
      rw [← hkz]
      clear hW1 hkz q0 q1 q2 q3 q4 q5
      have x0 : W1.cell? ⟨kz, 0, none⟩ = some (.int .i64 op) := by rw [cell_of_row W1 _ _ _ 40 (0, 0) kc]; rfl
      have x1 : W1.cell? ⟨kz, 1, none⟩ = some (.int .i64 ix) := by rw [cell_of_row W1 _ _ _ 40 (0, 0) kc]; rfl
      have x2 : W1.cell? ⟨kz, 2, none⟩ = some (.int .i64 gn) := by rw [cell_of_row W1 _ _ _ 40 (0, 0) kc]; rfl
      have x3 : W1.cell? ⟨kz, 3, none⟩ = some (.int .i64 kd) := by rw [cell_of_row W1 _ _ _ 40 (0, 0) kc]; rfl
      have x4 : W1.cell? ⟨kz, 4, none⟩ = some (.slice none 0 0) := by rw [cell_of_row W1 _ _ _ 40 (0, 0) kc]; rfl
      have x5 : W1.cell? ⟨kz, 5, none⟩ = some (.slice pa pn pc) := by rw [cell_of_row W1 _ _ _ 40 (0, 0) kc]; rfl
      clear kc
      go_wp2_with fail
      refine JC.out.mono ?_
      rintro e w2 ⟨a', n', p', rfl, b2⟩
      have ho2 := own_later HO.out (below_on HBW.out b2)
      have hb2 := below_on HB1.out b2
      have HO2 := hide ho2
      have HB2 := hide hb2
      obtain ⟨y0, y1, y2, y3, y4, y5⟩ := cz_at l i hil
      rw [← ho2.cellAt (i * 6) (by have := HHL.out.1; omega)] at y0
      rw [← ho2.cellAt (i * 6 + 1) (by have := HHL.out.1; omega)] at y1
      rw [← ho2.cellAt (i * 6 + 2) (by have := HHL.out.1; omega)] at y2
      rw [← ho2.cellAt (i * 6 + 3) (by have := HHL.out.1; omega)] at y3
      rw [← ho2.cellAt (i * 6 + 4) (by have := HHL.out.1; omega)] at y4
      rw [← ho2.cellAt (i * 6 + 5) (by have := HHL.out.1; omega)] at y5
      have z0 := ho2.frozenAt (i * 6)
      have z1 := ho2.frozenAt (i * 6 + 1)
      have z2 := ho2.frozenAt (i * 6 + 2)
      have z3 := ho2.frozenAt (i * 6 + 3)
      have z4 := ho2.frozenAt (i * 6 + 4)
      have z5 := ho2.frozenAt (i * 6 + 5)
      generalize l[i].op = u0 at y0
      generalize l[i].ix = u1 at y1
      generalize l[i].gn = u2 at y2
      generalize l[i].kd = u3 at y3
      generalize l[i].vs = u4 at y4
      generalize l[i].ps = u5 at y5
      obtain ⟨w3, hw3⟩ : ∃ X, X = (((((w2.setCell ⟨g, i * 6, none⟩ (.int .i64 op)).setCell ⟨g, i * 6 + 1, none⟩ (.int .i64 ix)).setCell ⟨g, i * 6 + 2, none⟩ (.int .i64 gn)).setCell ⟨g, i * 6 + 3, none⟩ (.int .i64 kd)).setCell ⟨g, i * 6 + 4, none⟩ (.slice none 0 0)).setCell ⟨g, i * 6 + 5, none⟩ (.slice a' n' p') := ⟨_, rfl⟩
      have HW : Hid (((l.set i ⟨op, ix, gn, kd, .slice none 0 0, .slice a' n' p'⟩).length = m ∧ (∀ j (h1 : j < (l.set i ⟨op, ix, gn, kd, .slice none 0 0, .slice a' n' p'⟩).length) (h2 : j < l0.length), (l.set i ⟨op, ix, gn, kd, .slice none 0 0, .slice a' n' p'⟩)[j].op = l0[j].op ∧ (l.set i ⟨op, ix, gn, kd, .slice none 0 0, .slice a' n' p'⟩)[j].kd = l0[j].kd) ∧ ∀ j (h1 : j < (l.set i ⟨op, ix, gn, kd, .slice none 0 0, .slice a' n' p'⟩).length) (h2 : j < l0.length), i + 1 ≤ j → (l.set i ⟨op, ix, gn, kd, .slice none 0 0, .slice a' n' p'⟩)[j] = l0[j]) ∧ w3.ownsRow w.heap.size 40 6 (.slice (some ⟨g, 0, none⟩) m c) m (czL (l.set i ⟨op, ix, gn, kd, .slice none 0 0, .slice a' n' p'⟩)) ∧ Below w.heap.size w w3) := by
        obtain ⟨hl, hlo, hle⟩ := HHL.out
        have hgl := (HO2.out.lt g rfl).1
        refine ⟨⟨by rw [List.length_set]; exact hl, fun j h1 h2 => ?_, fun j h1 h2 hj => ?_⟩, by rw [hw3]; exact own_set6 HO2.out ⟨op, ix, gn, kd, .slice none 0 0, .slice a' n' p'⟩ hil, ?_⟩
        · by_cases e : i = j
          · subst e
            rw [List.getElem_set_self]
            obtain ⟨k1, k2⟩ := hlo i hil h2
            rw [← HCX.out] at k1 k2
            exact ⟨k1, k2⟩
          · rw [List.getElem_set_ne e]
            exact hlo j (by rw [List.length_set] at h1; exact h1) h2
        · rw [List.getElem_set_ne (by omega)]
          exact hle j (by rw [List.length_set] at h1; exact h1) h2 (by omega)
        · rw [hw3]
          exact (((((HB2.out.setCell (by show _ ≤ g; omega) _).setCell (by show _ ≤ g; omega) _).setCell (by show _ ≤ g; omega) _).setCell (by show _ ≤ g; omega) _).setCell (by show _ ≤ g; omega) _).setCell (by show _ ≤ g; omega) _
      clear ho2 hb2 b2
      go_wp2_with fail
      rw [← hw3]
      clear hw3
      go_roundw
      case rel => exact ⟨i + 1, _, by omega, by go_num, HW⟩
      case measure => simp [intOf]; omega
    · have t1 : ¬ (i : Int) < (m : Int) := by omega
      go_wp2_with fail
      go_ret
      obtain ⟨⟨hl, hlo, -⟩, ho, hb⟩ := HI.out
      have e0 := HL0.out
      subst e0
      refine ⟨_, rfl, ss, ⟨fun x y => HSS.out.2.2.1 (x, y), HSS.out.2.2.2⟩, l, ⟨by rw [hl]; exact HSS.out.1, hlo⟩, by rw [hl]; exact ho, hb⟩
end Go.Proofs.YtiolaenkfhcajaaGreat
