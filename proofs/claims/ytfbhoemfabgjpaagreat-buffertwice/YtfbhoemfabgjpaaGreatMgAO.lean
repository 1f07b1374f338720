import Derived.Test.YtfbhoemfabgjpaaGreatMgAN
/-
  Buffer: all lists together.
-/
namespace Go.Proofs.YtfbhoemfabgjpaaGreat
open Go.RowKit
set_option maxRecDepth 100000
/-- The commands of some turns, one list behind the other. -/
def allL (L : Int × Int → List Cm) (ss : List (Int × Int)) : List Cm := ss.flatMap L
theorem allL_push (L : Int × Int → List Cm) (ss : List (Int × Int)) (i : Nat) (hi : i < ss.length) : allL L (ss.take (i + 1)) = allL L (ss.take i) ++ L ss[i] := by
  unfold allL
  rw [List.take_succ_eq_append_getElem hi, List.flatMap_append]
  simp
theorem czL_append (a b : List Cm) : czL (a ++ b) = czL a ++ czL b := by simp [czL]
theorem cm_one {w : World} {U : Nat → Prop} {l : List Cm} (h : ∀ c ∈ l, CmOk True w U c) : ∀ u ∈ czL l, u.oneCell' = true := fun u hu => by
  obtain ⟨c, hc, hu⟩ := List.mem_flatMap.1 hu
  obtain ⟨qa, qn, qc, pa, pn, pc, e5, e6⟩ := (h c hc).at2
  unfold cmL at hu
  rw [e5, e6] at hu
  simp only [List.mem_cons, List.not_mem_nil, or_false] at hu
  rcases hu with rfl | rfl | rfl | rfl | rfl | rfl <;> rfl
theorem nodup_lt {ss : List (Int × Int)} (h : ss.Pairwise ltT) : ss.Nodup := h.imp (fun {a b} h e => by subst e; unfold ltT at h; omega)
set_option maxHeartbeats 8000000 in
theorem together_any {w : World} {S U : Nat → Prop} {gb gm n sz : Nat} {f : Int × Int → Option Value} {L : Int × Int → List Cm} (h : Bg w S U gb gm n f L sz) (hsz : sz ≤ 100000) :
    Calls Tryz.prog 18 #[.map (some gm), .func (.func 19) #[] #[]] w fun e w' => ∃ (v : Value) (ss : List (Int × Int)), e = .returned v ∧ (∀ x, x ∈ ss ↔ L x ≠ []) ∧ ss.Pairwise ltT ∧ w'.ownsRow w.heap.size 38 6 v (allL L ss).length (czL (allL L ss)) ∧ Below w.heap.size w w' := by
  obtain ⟨ic, hic, hcz0, hcz1, hcz2⟩ := info_parts infoCm
  have H := hide h
  have HSZ := hide hsz
  have JK : Hid (∀ W, Calls Tryz.prog 36 #[.map (some gm)] W fun e w' => e = .returned (.func (.func 63) #[] #[.pointer (some ⟨W.heap.size, 0, none⟩)]) ∧ w' = W.alloc (.cells #[.map (some gm)] 53)) := fun W => keys_any gm W
  have JS : Hid (Calls Tryz.prog 35 #[.func (.func 63) #[] #[.pointer (some ⟨w.heap.size, 0, none⟩)], .func (.func 19) #[] #[]] (w.alloc (.cells #[.map (some gm)] 53)) fun e w' => ∃ a c ss, e = .returned (.slice a ss.length c) ∧ ((∀ x, x ∈ ss ↔ L x ≠ []) ∧ ss.Pairwise ltT ∧ ss.length ≤ sz) ∧ w'.ownsRow w.heap.size 69 2 (.slice a ss.length c) ss.length (ez ss) ∧ Below w.heap.size w w') := by
    refine (sorted_any (n := n) (f := f) (by simp) ((cell_of_row _ _ _ _ 53 (0, 0) (heap_alloc_new w _)).trans rfl) (h.mp.same ((below_alloc w _).block gm h.mp.lt)) (by have := h.nn; omega)).mono ?_
    rintro e w' ⟨v, ss, e1, k1, k2, k3, k4, k5⟩
    obtain ⟨a, c, rfl⟩ := own_len k4
    refine ⟨a, c, ss, e1, ⟨fun x => (k1 x).trans ⟨fun ⟨p, q⟩ => ?_, fun hx => ⟨h.ib x hx, ?_⟩⟩, k2, by have := h.nn; omega⟩, own_lower k4 (by simp), below_on (below_alloc w _) k5⟩
    · obtain ⟨v, hv⟩ := Option.isSome_iff_exists.1 q
      exact (h.yes x v hv).1
    · cases hf : f x with
      | none => exact absurd (h.no x hf) hx
      | some v => rfl
  clear h hsz
  go_enter Tryz.func18, Tryz.ntmps18
  go_wp2_with fail
  refine (JK.out _).mono ?_
  rintro e w1 ⟨rfl, rfl⟩
  go_wp2_with fail
  refine JS.out.mono ?_
  rintro e w2 ⟨ak, ck, ss, rfl, hss, k1, b2⟩
  have HSS := hide hss
  have HK := hide k1
  have B2 := hide b2
  clear hss k1 b2 JS JK
  go_wp2_with fail
  go_loopw [5, 13] (fun v5 v13 W => ∃ (i : Nat) (a : Option Addr) (c m : Nat), i ≤ ss.length ∧ v13 = .int .i64 (i : Int) ∧ v5 = .slice a m c ∧ Hid (m = (allL L (ss.take i)).length ∧ W.ownsRow w.heap.size 38 6 (.slice a m c) m (czL (allL L (ss.take i))) ∧ Below w.heap.size w W ∧ W.ownsRow w.heap.size 69 2 (.slice ak ss.length ck) ss.length (ez ss))) (fun _ v13 _ => ss.length - (intOf v13).toNat)
  case atStart => exact ⟨0, none, 0, 0, Nat.zero_le _, rfl, rfl, rfl, World.ownsRow_nil _ _ _ _, B2.out, HK.out⟩
  case round =>
    obtain ⟨i, a, c, m, hil, rfl, rfl, HI⟩ := hrel
    by_cases hlt : i < ss.length
    · have t1 : (i : Int) < (ss.length : Int) := by omega
      obtain ⟨m1, ho, hb, hk⟩ := HI.out
      obtain ⟨gk, rfl⟩ : ∃ g, ak = some ⟨g, 0, none⟩ := by
        rcases hk.2 with ⟨e, -⟩ | ⟨g, c9, cur, e, -⟩
        · injection e with _ e2 _
          omega
        · injection e with e1
          exact ⟨g, e1⟩
      obtain ⟨q0, q1⟩ : wr.cell? ⟨gk, i * 2, none⟩ = some (.int .i64 ss[i].1) ∧ wr.cell? ⟨gk, i * 2 + 1, none⟩ = some (.int .i64 ss[i].2) := by
        rw [hk.cellAt (i * 2) (by omega), hk.cellAt (i * 2 + 1) (by omega)]
        exact ez_at ss i hlt
      have hxm : L ss[i] ≠ [] := (HSS.out.1 _).1 (List.getElem_mem hlt)
      have hib := H.out.ib _ hxm
      obtain ⟨vx, hvx⟩ : ∃ v, f ss[i] = some v := by
        cases hf : f ss[i] with
        | none => exact absurd (H.out.no _ hf) hxm
        | some v => exact ⟨v, rfl⟩
      have hyx := (H.out.yes _ vx hvx).2.1
      obtain ⟨x, hx⟩ : ∃ x, x = ss[i] := ⟨_, rfl⟩
      have HX := hide hx
      rw [← hx] at q0 q1 hxm hib hvx hyx
      obtain ⟨gx, cx, rfl⟩ : ∃ g c, vx = .slice (some ⟨g, 0, none⟩) (L x).length c := by
        rcases hyx.2 with ⟨-, e⟩ | ⟨g, c9, cur, e, -⟩
        · exact absurd (List.eq_nil_of_length_eq_zero e) hxm
        · exact ⟨g, c9, e⟩
      obtain ⟨mx, hmx⟩ : ∃ k, k = (L x).length := ⟨_, rfl⟩
      rw [← hmx] at hvx hyx
      obtain ⟨x1, x2⟩ := x
      have HL : Hid (∀ V, Below w.heap.size w V → (Instr.lookup 53 (.map (some gm)) (.agg #[.int .i64 x1, .int .i64 x2]) false).run Tryz.prog V = .ok (.slice (some ⟨gx, 0, none⟩) mx cx) V) := fun V hV => by
        have := (H.out.mp.same (hV.block gm H.out.mp.lt)).look (x1, x2) hib
        rw [hvx] at this
        exact this
      have HY : Hid (∀ V, Below w.heap.size w V → V.ownsRow 0 38 6 (.slice (some ⟨gx, 0, none⟩) mx cx) mx (czL (L (x1, x2)))) := fun V hV => own_later hyx hV
      have HMX := hide hmx
      have HB := hide hb
      have HO := hide ho
      have HKK := hide hk
      have hl1 := HL.out (wr.alloc (.cells #[.int .i64 x1, .int .i64 x2] 69)) (below_on hb (below_alloc wr _))
      have hbd : m + mx ≤ 100000 := by
        have h1 := H.out.tot (ss.take (i + 1)) ((nodup_lt HSS.out.2.1).sublist (List.take_sublist _ _))
        have h2 := allL_push L ss i hlt
        have h3 := congrArg List.length h2
        rw [List.length_append, ← m1, ← hx, ← hmx] at h3
        unfold allL at h3
        have := HSZ.out
        omega
      have HM1 := hide m1
      have tw : IntKind.i64.wrap ((i : Int) + 1) = (i : Int) + 1 := by
        have := HSS.out.2.2
        have := HSZ.out
        rw [IntKind.wrap_i64]
        omega
      clear m1 ho hb hk hxm hib hvx hyx hx hmx
      go_wp2_with (at_builtin; refine wpList_append_own_at _ rfl _ _ 45 rfl w.heap.size 38 ic (.agg #[.int .i64 0, .int .i64 0, .int .i64 0, .int .i64 0, .slice none 0 0, .slice none 0 0]) 6 80 Tryz.underlying45 hic hcz0 hcz1 hcz2 rfl (by decide) _ m (czL (allL L (ss.take i))) rfl (own_later HO.out (below_alloc wr _)) ⟨gx, 0, none⟩ mx cx (czL (L (x1, x2))) rfl ?len ?news (cm_one (H.out.cs (x1, x2))) (by unfold maxLen; omega) (by omega) ?bas ?_)
      case len => rw [czL_len, ← HMX.out]
      case news =>
        intro j u hj
        have := HY.out (wr.alloc (.cells #[.int .i64 x1, .int .i64 x2] 69)) (below_on HB.out (below_alloc wr _))
        have hj2 := (List.getElem?_eq_some_iff.1 hj).1
        rw [this.cellAt j (by rw [czL_len, ← HMX.out] at hj2; exact hj2)]
        exact hj
      case bas => have := HB.out.size; simp; omega
      intro v' w' ho' hg' _ _
      obtain ⟨a', c', rfl⟩ := own_len ho'
      have HW : Hid (m + mx = (allL L (ss.take (i + 1))).length ∧ w'.ownsRow w.heap.size 38 6 (.slice a' (m + mx) c') (m + mx) (czL (allL L (ss.take (i + 1)))) ∧ Below w.heap.size w w' ∧ w'.ownsRow w.heap.size 69 2 (.slice (some ⟨gk, 0, none⟩) ss.length ck) ss.length (ez ss)) := by
        have e1 := allL_push L ss i hlt
        rw [← HX.out] at e1
        have hg : (wr.alloc (.cells #[.int .i64 x1, .int .i64 x2] 69)).grownBy w' (Value.slice a m c).ownBlock := hg'
        have hb0 := below_on HB.out (below_alloc wr (.cells #[.int .i64 x1, .int .i64 x2] 69))
        refine ⟨by rw [e1, List.length_append, ← HM1.out, ← HMX.out], by rw [e1, czL_append]; exact ho', hb0.grown hg hb0.size (fun k e => (HO.out.lt k e).1), ((Mv.refl _ (fun k => (Value.slice a m c).ownBlock = some k)).grown hg (fun k _ e => e)).own (own_later HKK.out (below_alloc wr _)) (fun j hj e => ?_)⟩
        obtain ⟨cs, h1⟩ := own_ty HKK.out hj
        obtain ⟨cs', h2⟩ := own_ty HO.out e
        rw [h1] at h2
        injection h2 with h2
        injection h2 with _ h3 _
        exact absurd h3 (by decide)
      clear ho' hg'
      go_wp2_with fail
      go_roundw
      case rel => exact ⟨i + 1, a', c', m + mx, by omega, by go_num, rfl, HW⟩
      case measure => simp [intOf]; omega
    · have t1 : ¬ (i : Int) < (ss.length : Int) := by omega
      obtain rfl : i = ss.length := by omega
      rw [List.take_length] at HI
      go_wp2_with fail
      go_ret
      obtain ⟨rfl, k1, k2, -⟩ := HI.out
      exact ⟨_, rfl, ss, fun a b => HSS.out.1 (a, b), HSS.out.2.1, k1, k2⟩
end Go.Proofs.YtfbhoemfabgjpaaGreat

/-
  Buffer: All.
-/
namespace Go.Proofs.YtfbhoemfabgjpaaGreat
open Go.RowKit
set_option maxRecDepth 100000
theorem czL_set (c : Cm) : ∀ (l : List Cm) (i : Nat), i < l.length → (((((((czL l).set (i * 6) (.int .i64 c.op)).set (i * 6 + 1) (.int .i64 c.ix)).set (i * 6 + 2) (.int .i64 c.gn)).set (i * 6 + 3) (.int .i64 c.kd)).set (i * 6 + 4) c.vs).set (i * 6 + 5) c.ps) = czL (l.set i c)
  | x :: t, 0, _ => by simp [czL, cmL]
  | x :: t, i + 1, h => by
    have ih := czL_set c t i (by simpa using h)
    rw [show (i + 1) * 6 = i * 6 + 6 by omega]
    have e : ∀ (y : Cm) (s : List Cm), czL (y :: s) = .int .i64 y.op :: .int .i64 y.ix :: .int .i64 y.gn :: .int .i64 y.kd :: y.vs :: y.ps :: czL s := fun _ _ => rfl
    rw [List.set_cons_succ, e, e, ← ih]
    simp only [show ∀ k, i * 6 + 6 + k = i * 6 + k + 1 + 1 + 1 + 1 + 1 + 1 from fun k => by omega, show i * 6 + 6 = i * 6 + 1 + 1 + 1 + 1 + 1 + 1 from rfl, List.set_cons_succ]
theorem own_set6 {W : World} {B g n cp i : Nat} {l : List Cm} (h : W.ownsRow B 38 6 (.slice (some ⟨g, 0, none⟩) n cp) n (czL l)) (c : Cm) (hi : i < l.length) :
    ((((((W.setCell ⟨g, i * 6, none⟩ (.int .i64 c.op)).setCell ⟨g, i * 6 + 1, none⟩ (.int .i64 c.ix)).setCell ⟨g, i * 6 + 2, none⟩ (.int .i64 c.gn)).setCell ⟨g, i * 6 + 3, none⟩ (.int .i64 c.kd)).setCell ⟨g, i * 6 + 4, none⟩ c.vs).setCell ⟨g, i * 6 + 5, none⟩ c.ps).ownsRow B 38 6 (.slice (some ⟨g, 0, none⟩) n cp) n (czL (l.set i c)) := by
  rw [← czL_set c l i hi]
  exact (((((((h.stored (i * 6) _).1).stored (i * 6 + 1) _).1).stored (i * 6 + 2) _).1.stored (i * 6 + 3) _).1.stored (i * 6 + 4) _).1.stored (i * 6 + 5) _ |>.1
theorem cz_at : ∀ (l : List Cm) (i : Nat) (h : i < l.length), (czL l)[i * 6]? = some (.int .i64 l[i].op) ∧ (czL l)[i * 6 + 1]? = some (.int .i64 l[i].ix) ∧ (czL l)[i * 6 + 2]? = some (.int .i64 l[i].gn) ∧ (czL l)[i * 6 + 3]? = some (.int .i64 l[i].kd) ∧ (czL l)[i * 6 + 4]? = some l[i].vs ∧ (czL l)[i * 6 + 5]? = some l[i].ps
  | x :: t, 0, _ => ⟨rfl, rfl, rfl, rfl, rfl, rfl⟩
  | x :: t, i + 1, h => by
    have ih := cz_at t i (by simpa using h)
    rw [show (i + 1) * 6 = i * 6 + 1 + 1 + 1 + 1 + 1 + 1 by omega]
    have e : czL (x :: t) = .int .i64 x.op :: .int .i64 x.ix :: .int .i64 x.gn :: .int .i64 x.kd :: x.vs :: x.ps :: czL t := rfl
    rw [e]
    simpa only [show ∀ k, i * 6 + 1 + 1 + 1 + 1 + 1 + 1 + k = i * 6 + k + 1 + 1 + 1 + 1 + 1 + 1 from fun k => by omega, List.getElem?_cons_succ, List.getElem_cons_succ] using ih
theorem allL_mem {L : Int × Int → List Cm} {ss : List (Int × Int)} {c : Cm} (h : c ∈ allL L ss) : ∃ x, c ∈ L x := by
  obtain ⟨x, -, hx⟩ := List.mem_flatMap.1 h
  exact ⟨x, hx⟩
set_option maxHeartbeats 8000000 in
theorem ball_any {w : World} {S U : Nat → Prop} {gb gm n sz : Nat} {f : Int × Int → Option Value} {L : Int × Int → List Cm} (h : Bg w S U gb gm n f L sz) (hsz : sz ≤ 100000) :
    Calls Tryz.prog 11 #[.pointer (some ⟨gb, 0, none⟩)] w fun e w' => ∃ (v : Value) (ss : List (Int × Int)) (l : List Cm), e = .returned v ∧ ((∀ x, x ∈ ss ↔ L x ≠ []) ∧ ss.Pairwise ltT) ∧ (l.length = (allL L ss).length ∧ ∀ j (h1 : j < l.length) (h2 : j < (allL L ss).length), l[j].op = (allL L ss)[j].op ∧ l[j].kd = (allL L ss)[j].kd) ∧ w'.ownsRow w.heap.size 38 6 v l.length (czL l) ∧ Below w.heap.size w w' := by
  have g0 : w.cell? ⟨gb, 0, none⟩ = some (.map (some gm)) := by rw [cell_of_row w _ _ _ 55 (0, 0) h.row]; rfl
  have JT : Hid (Calls Tryz.prog 18 #[.map (some gm), .func (.func 19) #[] #[]] w fun e w' => ∃ a m c ss, e = .returned (.slice a m c) ∧ (m = (allL L ss).length ∧ m ≤ 100000 ∧ (∀ x, x ∈ ss ↔ L x ≠ []) ∧ ss.Pairwise ltT) ∧ w'.ownsRow w.heap.size 38 6 (.slice a m c) m (czL (allL L ss)) ∧ Below w.heap.size w w') := by
    refine (together_any h hsz).mono ?_
    rintro e w' ⟨v, ss, e1, k1, k2, k3, k4⟩
    obtain ⟨a, c, rfl⟩ := own_len k3
    have := h.tot ss (nodup_lt k2)
    unfold allL at *
    exact ⟨a, _, c, ss, e1, ⟨rfl, by omega, k1, k2⟩, k3, k4⟩
  have H := hide h
  clear h hsz
  go_enter Tryz.func11, Tryz.ntmps11
  go_wp2_with fail
  refine JT.out.mono ?_
  rintro e w1 ⟨a, m, c, ss, rfl, hss, k1, b1⟩
  have HSS := hide hss
  have HK := hide k1
  have B1 := hide b1
  obtain ⟨l0, hl0⟩ : ∃ l, l = allL L ss := ⟨_, rfl⟩
  have HL0 := hide hl0
  have HM : Hid (m = l0.length ∧ m ≤ 100000) := ⟨by rw [hl0]; exact hss.1, hss.2.1⟩
  have HC : Hid (∀ V, Below w.heap.size w V → ∀ c ∈ l0, CmOk True V U c) := fun V hV c hc => by
    rw [hl0] at hc
    obtain ⟨x, hx⟩ := allL_mem hc
    exact (H.out.cs x c hx).frame (Mv.of_below hV (fun _ => False)) (fun _ _ e => e)
  have HK : Hid (w1.ownsRow w.heap.size 38 6 (.slice a m c) m (czL l0)) := by rw [hl0]; exact k1
  clear hss k1 b1 hl0 JT g0
  go_wp2_with fail
  go_loopw [13] (fun v13 W => ∃ (i : Nat) (l : List Cm), i ≤ m ∧ v13 = .int .i64 (i : Int) ∧ Hid ((l.length = m ∧ (∀ j (h1 : j < l.length) (h2 : j < l0.length), l[j].op = l0[j].op ∧ l[j].kd = l0[j].kd) ∧ ∀ j (h1 : j < l.length) (h2 : j < l0.length), i ≤ j → l[j] = l0[j]) ∧ W.ownsRow w.heap.size 38 6 (.slice a m c) m (czL l) ∧ Below w.heap.size w W)) (fun v13 _ => m - (intOf v13).toNat)
  case atStart => exact ⟨0, l0, Nat.zero_le _, rfl, ⟨HM.out.1.symm, fun _ _ _ => ⟨rfl, rfl⟩, fun _ _ _ _ => rfl⟩, HK.out, B1.out⟩
  case round =>
    obtain ⟨i, l, him, rfl, HI⟩ := hrel
    by_cases hlt : i < m
    · have t1 : (i : Int) < (m : Int) := by omega
      have tw : IntKind.i64.wrap ((i : Int) + 1) = (i : Int) + 1 := by
        have := HM.out.2
        rw [IntKind.wrap_i64]
        omega
      obtain ⟨⟨hl, hlo, hle⟩, ho, hb⟩ := HI.out
      obtain ⟨g, rfl⟩ : ∃ g, a = some ⟨g, 0, none⟩ := by
        rcases ho.2 with ⟨e, -⟩ | ⟨g, c9, cur, e, -⟩
        · injection e with _ e2 _
          omega
        · injection e with e1
          exact ⟨g, e1⟩
      have hil : i < l.length := by omega
      have hil0 : i < l0.length := by have := HM.out.1; omega
      obtain ⟨q0, q1, q2, q3, q4, q5⟩ := cz_at l i hil
      rw [← ho.cellAt (i * 6) (by omega)] at q0
      rw [← ho.cellAt (i * 6 + 1) (by omega)] at q1
      rw [← ho.cellAt (i * 6 + 2) (by omega)] at q2
      rw [← ho.cellAt (i * 6 + 3) (by omega)] at q3
      rw [← ho.cellAt (i * 6 + 4) (by omega)] at q4
      rw [← ho.cellAt (i * 6 + 5) (by omega)] at q5
      have hok := HC.out wr hb l0[i] (List.getElem_mem hil0)
      rw [← hle i hil hil0 (Nat.le_refl _)] at hok
      obtain ⟨qa, qn, qc, pa, pn, pc, e5, e6⟩ := hok.at2
      obtain ⟨cc, hcx⟩ : ∃ x, x = l[i] := ⟨_, rfl⟩
      have HCX := hide hcx
      rw [← hcx] at q0 q1 q2 q3 q4 q5 hok e5 e6
      obtain ⟨op, ix, gn, kd, vs, ps, cV, cP⟩ := cc
      have e5 : vs = .slice qa qn qc := e5
      have e6 : ps = .slice pa pn pc := e6
      subst e5 e6
      dsimp only at q0 q1 q2 q3 q4 q5
      obtain ⟨W1, hW1⟩ : ∃ X, X = wr.alloc (.cells #[.int .i64 op, .int .i64 ix, .int .i64 gn, .int .i64 kd, .slice qa qn qc, .slice pa pn pc] 38) := ⟨_, rfl⟩
      have bW : Below wr.heap.size wr W1 := hW1 ▸ below_alloc wr _
      have hb1 := below_on hb bW
      have HB1 := hide hb1
      have HBW := hide bW
      have JC : Hid (Calls Tryz.prog 17 #[.agg #[.int .i64 op, .int .i64 ix, .int .i64 gn, .int .i64 kd, .slice qa qn qc, .slice pa pn pc]] W1 fun e w' => ∃ d' m' q' a' n' p', e = .returned (.agg #[.int .i64 op, .int .i64 ix, .int .i64 gn, .int .i64 kd, .slice d' m' q', .slice a' n' p']) ∧ Below W1.heap.size W1 w') := (clonec_any (hok.frame (Mv.of_below bW (fun _ => False)) (fun _ _ e => e))).mono fun e w' ⟨c', e1, ⟨e2, e3, e4, e5, _, _⟩, k1, k3⟩ => by
        obtain ⟨d', m', q', a', n', p', e6, e7⟩ := k1.at2
        obtain ⟨op', ix', gn', kd', vs', ps', V', P'⟩ := c'
        have e6 : vs' = .slice d' m' q' := e6
        have e7 : ps' = .slice a' n' p' := e7
        subst e6 e7
        have e2 : op' = op := e2
        have e3 : ix' = ix := e3
        have e4 : gn' = gn := e4
        have e5 : kd' = kd := e5
        subst e2 e3 e4 e5
        exact ⟨d', m', q', a', n', p', e1, k3⟩
      have HHL : Hid (l.length = m ∧ (∀ j (h1 : j < l.length) (h2 : j < l0.length), l[j].op = l0[j].op ∧ l[j].kd = l0[j].kd) ∧ ∀ j (h1 : j < l.length) (h2 : j < l0.length), i ≤ j → l[j] = l0[j]) := ⟨hl, hlo, hle⟩
      have HO := hide ho
      have HIL := hide hil
      clear hok ho hb hl hlo hle bW hb1 hcx hil0
      go_upto_region 5 with fail
      rw [← hW1]
      have kc : W1.heap[wr.heap.size]? = some (.cells #[.int .i64 op, .int .i64 ix, .int .i64 gn, .int .i64 kd, .slice qa qn qc, .slice pa pn pc] 38 (0, 0)) := by rw [hW1]; exact heap_alloc_new wr _
      obtain ⟨kz, hkz⟩ : ∃ k, k = wr.heap.size := ⟨_, rfl⟩
      rw [← hkz] at kc
      rw [← hkz]
      clear hW1 hkz q0 q1 q2 q3 q4 q5
      have x0 : W1.cell? ⟨kz, 0, none⟩ = some (.int .i64 op) := by rw [cell_of_row W1 _ _ _ 38 (0, 0) kc]; rfl
      have x1 : W1.cell? ⟨kz, 1, none⟩ = some (.int .i64 ix) := by rw [cell_of_row W1 _ _ _ 38 (0, 0) kc]; rfl
      have x2 : W1.cell? ⟨kz, 2, none⟩ = some (.int .i64 gn) := by rw [cell_of_row W1 _ _ _ 38 (0, 0) kc]; rfl
      have x3 : W1.cell? ⟨kz, 3, none⟩ = some (.int .i64 kd) := by rw [cell_of_row W1 _ _ _ 38 (0, 0) kc]; rfl
      have x4 : W1.cell? ⟨kz, 4, none⟩ = some (.slice qa qn qc) := by rw [cell_of_row W1 _ _ _ 38 (0, 0) kc]; rfl
      have x5 : W1.cell? ⟨kz, 5, none⟩ = some (.slice pa pn pc) := by rw [cell_of_row W1 _ _ _ 38 (0, 0) kc]; rfl
      clear kc
      go_wp2_with fail
      refine JC.out.mono ?_
      rintro e w2 ⟨d', m', q', a', n', p', rfl, b2⟩
      have ho2 := own_later HO.out (below_on HBW.out b2)
      have hb2 := below_on HB1.out b2
      have HO2 := hide ho2
      have HB2 := hide hb2
      obtain ⟨y0, y1, y2, y3, y4, y5⟩ := cz_at l i hil
      rw [← ho2.cellAt (i * 6) (by have := HHL.out.1; omega)] at y0
      rw [← ho2.cellAt (i * 6 + 1) (by have := HHL.out.1; omega)] at y1
      rw [← ho2.cellAt (i * 6 + 2) (by have := HHL.out.1; omega)] at y2
      rw [← ho2.cellAt (i * 6 + 3) (by have := HHL.out.1; omega)] at y3
      rw [← ho2.cellAt (i * 6 + 4) (by have := HHL.out.1; omega)] at y4
      rw [← ho2.cellAt (i * 6 + 5) (by have := HHL.out.1; omega)] at y5
      have z0 := ho2.frozenAt (i * 6)
      have z1 := ho2.frozenAt (i * 6 + 1)
      have z2 := ho2.frozenAt (i * 6 + 2)
      have z3 := ho2.frozenAt (i * 6 + 3)
      have z4 := ho2.frozenAt (i * 6 + 4)
      have z5 := ho2.frozenAt (i * 6 + 5)
      generalize l[i].op = u0 at y0
      generalize l[i].ix = u1 at y1
      generalize l[i].gn = u2 at y2
      generalize l[i].kd = u3 at y3
      generalize l[i].vs = u4 at y4
      generalize l[i].ps = u5 at y5
      obtain ⟨w3, hw3⟩ : ∃ X, X = (((((w2.setCell ⟨g, i * 6, none⟩ (.int .i64 op)).setCell ⟨g, i * 6 + 1, none⟩ (.int .i64 ix)).setCell ⟨g, i * 6 + 2, none⟩ (.int .i64 gn)).setCell ⟨g, i * 6 + 3, none⟩ (.int .i64 kd)).setCell ⟨g, i * 6 + 4, none⟩ (.slice d' m' q')).setCell ⟨g, i * 6 + 5, none⟩ (.slice a' n' p') := ⟨_, rfl⟩
      have HW : Hid (((l.set i ⟨op, ix, gn, kd, .slice d' m' q', .slice a' n' p', cV, cP⟩).length = m ∧ (∀ j (h1 : j < (l.set i ⟨op, ix, gn, kd, .slice d' m' q', .slice a' n' p', cV, cP⟩).length) (h2 : j < l0.length), (l.set i ⟨op, ix, gn, kd, .slice d' m' q', .slice a' n' p', cV, cP⟩)[j].op = l0[j].op ∧ (l.set i ⟨op, ix, gn, kd, .slice d' m' q', .slice a' n' p', cV, cP⟩)[j].kd = l0[j].kd) ∧ ∀ j (h1 : j < (l.set i ⟨op, ix, gn, kd, .slice d' m' q', .slice a' n' p', cV, cP⟩).length) (h2 : j < l0.length), i + 1 ≤ j → (l.set i ⟨op, ix, gn, kd, .slice d' m' q', .slice a' n' p', cV, cP⟩)[j] = l0[j]) ∧ w3.ownsRow w.heap.size 38 6 (.slice (some ⟨g, 0, none⟩) m c) m (czL (l.set i ⟨op, ix, gn, kd, .slice d' m' q', .slice a' n' p', cV, cP⟩)) ∧ Below w.heap.size w w3) := by
        obtain ⟨hl, hlo, hle⟩ := HHL.out
        have hgl := (HO2.out.lt g rfl).1
        refine ⟨⟨by rw [List.length_set]; exact hl, fun j h1 h2 => ?_, fun j h1 h2 hj => ?_⟩, by rw [hw3]; exact own_set6 HO2.out ⟨op, ix, gn, kd, .slice d' m' q', .slice a' n' p', cV, cP⟩ hil, ?_⟩
        · by_cases e : i = j
          · subst e
            rw [List.getElem_set_self]
            obtain ⟨k1, k2⟩ := hlo i hil h2
            rw [← HCX.out] at k1 k2
            exact ⟨k1, k2⟩
          · rw [List.getElem_set_ne e]
            exact hlo j (by rw [List.length_set] at h1; exact h1) h2
        · rw [List.getElem_set_ne (by omega)]
          exact hle j (by rw [List.length_set] at h1; exact h1) h2 (by omega)
        · rw [hw3]
          exact (((((HB2.out.setCell (by show _ ≤ g; omega) _).setCell (by show _ ≤ g; omega) _).setCell (by show _ ≤ g; omega) _).setCell (by show _ ≤ g; omega) _).setCell (by show _ ≤ g; omega) _).setCell (by show _ ≤ g; omega) _
      clear ho2 hb2 b2
      go_wp2_with fail
      rw [← hw3]
      clear hw3
      go_roundw
      case rel => exact ⟨i + 1, _, by omega, by go_num, HW⟩
      case measure => simp [intOf]; omega
    · have t1 : ¬ (i : Int) < (m : Int) := by omega
      go_wp2_with fail
      go_ret
      obtain ⟨⟨hl, hlo, -⟩, ho, hb⟩ := HI.out
      have e0 := HL0.out
      subst e0
      refine ⟨_, rfl, ss, ⟨fun x y => HSS.out.2.2.1 (x, y), HSS.out.2.2.2⟩, l, ⟨by rw [hl]; exact HSS.out.1, hlo⟩, by rw [hl]; exact ho, hb⟩
end Go.Proofs.YtfbhoemfabgjpaaGreat
