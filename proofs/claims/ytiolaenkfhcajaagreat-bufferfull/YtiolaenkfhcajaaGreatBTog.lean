/-
  Buffer: all lists together.
-/
import Derived.Test.YtiolaenkfhcajaaGreatBKeys
namespace Go.Proofs.YtiolaenkfhcajaaGreat
open Go.RowKit
set_option maxRecDepth 100000
/-- The commands of some turns, one list behind the other. -/
def allL (L : Int × Int → List Cm) (ss : List (Int × Int)) : List Cm := ss.flatMap L
theorem allL_push (L : Int × Int → List Cm) (ss : List (Int × Int)) (i : Nat) (hi : i < ss.length) : allL L (ss.take (i + 1)) = allL L (ss.take i) ++ L ss[i] := by
  unfold allL
  rw [List.take_succ_eq_append_getElem hi, List.flatMap_append]
  simp
theorem czL_append (a b : List Cm) : czL (a ++ b) = czL a ++ czL b := by simp [czL]
theorem cm_one {w : World} {U : Nat → Prop} {l : List Cm} (h : ∀ c ∈ l, CmOk w U c) : ∀ u ∈ czL l, u.oneCell' = true := fun u hu => by
  obtain ⟨c, hc, hu⟩ := List.mem_flatMap.1 hu
  obtain ⟨a, n, cp, e⟩ := (h c hc).at
  rw [e] at hu
  simp only [cmL, List.mem_cons, List.not_mem_nil, or_false] at hu
  rcases hu with rfl | rfl | rfl | rfl | rfl | rfl <;> rfl
theorem nodup_lt {ss : List (Int × Int)} (h : ss.Pairwise ltT) : ss.Nodup := h.imp (fun {a b} h e => by subst e; unfold ltT at h; omega)
set_option maxHeartbeats 8000000 in
theorem together_any {w : World} {S U : Nat → Prop} {gb gm n sz : Nat} {f : Int × Int → Option Value} {L : Int × Int → List Cm} (h : Bg w S U gb gm n f L sz) (hsz : sz ≤ 100000) :
    Calls Tryz.prog 18 #[.map (some gm), .func (.func 19) #[] #[]] w fun e w' => ∃ (v : Value) (ss : List (Int × Int)), e = .returned v ∧ (∀ x, x ∈ ss ↔ L x ≠ []) ∧ ss.Pairwise ltT ∧ w'.ownsRow w.heap.size 40 6 v (allL L ss).length (czL (allL L ss)) ∧ Below w.heap.size w w' := by
  obtain ⟨ic, hic, hcz0, hcz1, hcz2⟩ := info_parts infoCm
  have H := hide h
  have HSZ := hide hsz
  have JK : Hid (∀ W, Calls Tryz.prog 32 #[.map (some gm)] W fun e w' => e = .returned (.func (.func 50) #[] #[.pointer (some ⟨W.heap.size, 0, none⟩)]) ∧ w' = W.alloc (.cells #[.map (some gm)] 52)) := fun W => keys_any gm W
  have JS : Hid (Calls Tryz.prog 31 #[.func (.func 50) #[] #[.pointer (some ⟨w.heap.size, 0, none⟩)], .func (.func 19) #[] #[]] (w.alloc (.cells #[.map (some gm)] 52)) fun e w' => ∃ a c ss, e = .returned (.slice a ss.length c) ∧ ((∀ x, x ∈ ss ↔ L x ≠ []) ∧ ss.Pairwise ltT ∧ ss.length ≤ sz) ∧ w'.ownsRow w.heap.size 68 2 (.slice a ss.length c) ss.length (ez ss) ∧ Below w.heap.size w w') := by
    refine (sorted_any (n := n) (f := f) (by simp) ((cell_of_row _ _ _ _ 52 (0, 0) (heap_alloc_new w _)).trans rfl) (h.mp.same ((below_alloc w _).block gm h.mp.lt)) (by have := h.nn; omega)).mono ?_
    rintro e w' ⟨v, ss, e1, k1, k2, k3, k4, k5⟩
    obtain ⟨a, c, rfl⟩ := own_len k4
    refine ⟨a, c, ss, e1, ⟨fun x => (k1 x).trans ⟨fun ⟨p, q⟩ => ?_, fun hx => ⟨h.ib x hx, ?_⟩⟩, k2, by have := h.nn; omega⟩, own_lower k4 (by simp), below_on (below_alloc w _) k5⟩
    · obtain ⟨v, hv⟩ := Option.isSome_iff_exists.1 q
      exact (h.yes x v hv).1
    · cases hf : f x with
      | none => exact absurd (h.no x hf) hx
      | some v => rfl
  clear h hsz
  go_enter Tryz.func18, Tryz.ntmps18
  go_wp2_with fail
  refine (JK.out _).mono ?_
  rintro e w1 ⟨rfl, rfl⟩
  go_wp2_with fail
  refine JS.out.mono ?_
  rintro e w2 ⟨ak, ck, ss, rfl, hss, k1, b2⟩
  have HSS := hide hss
  have HK := hide k1
  have B2 := hide b2
  clear hss k1 b2 JS JK
  go_wp2_with fail
  go_loopw [5, 13] (fun v5 v13 W => ∃ (i : Nat) (a : Option Addr) (c m : Nat), i ≤ ss.length ∧ v13 = .int .i64 (i : Int) ∧ v5 = .slice a m c ∧ Hid (m = (allL L (ss.take i)).length ∧ W.ownsRow w.heap.size 40 6 (.slice a m c) m (czL (allL L (ss.take i))) ∧ Below w.heap.size w W ∧ W.ownsRow w.heap.size 68 2 (.slice ak ss.length ck) ss.length (ez ss))) (fun _ v13 _ => ss.length - (intOf v13).toNat)
  case atStart => exact ⟨0, none, 0, 0, Nat.zero_le _, rfl, rfl, rfl, World.ownsRow_nil _ _ _ _, B2.out, HK.out⟩
  case round =>
    obtain ⟨i, a, c, m, hil, rfl, rfl, HI⟩ := hrel
    by_cases hlt : i < ss.length
    · have t1 : (i : Int) < (ss.length : Int) := by omega
      obtain ⟨m1, ho, hb, hk⟩ := HI.out
      obtain ⟨gk, rfl⟩ : ∃ g, ak = some ⟨g, 0, none⟩ := by
        rcases hk.2 with ⟨e, -⟩ | ⟨g, c9, cur, e, -⟩
        · injection e with _ e2 _
          omega
        · injection e with e1
          exact ⟨g, e1⟩
      obtain ⟨q0, q1⟩ : wr.cell? ⟨gk, i * 2, none⟩ = some (.int .i64 ss[i].1) ∧ wr.cell? ⟨gk, i * 2 + 1, none⟩ = some (.int .i64 ss[i].2) := by
        rw [hk.cellAt (i * 2) (by omega), hk.cellAt (i * 2 + 1) (by omega)]
        exact ez_at ss i hlt
      have hxm : L ss[i] ≠ [] := (HSS.out.1 _).1 (List.getElem_mem hlt)
      have hib := H.out.ib _ hxm
      obtain ⟨vx, hvx⟩ : ∃ v, f ss[i] = some v := by
        cases hf : f ss[i] with
        | none => exact absurd (H.out.no _ hf) hxm
        | some v => exact ⟨v, rfl⟩
      have hyx := (H.out.yes _ vx hvx).2.1
      obtain ⟨x, hx⟩ : ∃ x, x = ss[i] := ⟨_, rfl⟩
      have HX := hide hx
      rw [← hx] at q0 q1 hxm hib hvx hyx
      obtain ⟨gx, cx, rfl⟩ : ∃ g c, vx = .slice (some ⟨g, 0, none⟩) (L x).length c := by
        rcases hyx.2 with ⟨-, e⟩ | ⟨g, c9, cur, e, -⟩
        · exact absurd (List.eq_nil_of_length_eq_zero e) hxm
        · exact ⟨g, c9, e⟩
      obtain ⟨mx, hmx⟩ : ∃ k, k = (L x).length := ⟨_, rfl⟩
      rw [← hmx] at hvx hyx
      obtain ⟨x1, x2⟩ := x
      have HL : Hid (∀ V, Below w.heap.size w V → (Instr.lookup 52 (.map (some gm)) (.agg #[.int .i64 x1, .int .i64 x2]) false).run Tryz.prog V = .ok (.slice (some ⟨gx, 0, none⟩) mx cx) V) := fun V hV => by
        have := (H.out.mp.same (hV.block gm H.out.mp.lt)).look (x1, x2) hib
        rw [hvx] at this
        exact this
      have HY : Hid (∀ V, Below w.heap.size w V → V.ownsRow 0 40 6 (.slice (some ⟨gx, 0, none⟩) mx cx) mx (czL (L (x1, x2)))) := fun V hV => own_later hyx hV
      have HMX := hide hmx
      have HB := hide hb
      have HO := hide ho
      have HKK := hide hk
      have hl1 := HL.out (wr.alloc (.cells #[.int .i64 x1, .int .i64 x2] 68)) (below_on hb (below_alloc wr _))
      have hbd : m + mx ≤ 100000 := by
        have h1 := H.out.tot (ss.take (i + 1)) ((nodup_lt HSS.out.2.1).sublist (List.take_sublist _ _))
        have h2 := allL_push L ss i hlt
        have h3 := congrArg List.length h2
        rw [List.length_append, ← m1, ← hx, ← hmx] at h3
        unfold allL at h3
        have := HSZ.out
        omega
      have HM1 := hide m1
      have tw : IntKind.i64.wrap ((i : Int) + 1) = (i : Int) + 1 := by
        have := HSS.out.2.2
        have := HSZ.out
        rw [IntKind.wrap_i64]
        omega
      clear m1 ho hb hk hxm hib hvx hyx hx hmx
      go_wp2_with (at_builtin; refine wpList_append_own_at _ rfl _ _ 46 rfl w.heap.size 40 ic (.agg #[.int .i64 0, .int .i64 0, .int .i64 0, .int .i64 0, .slice none 0 0, .slice none 0 0]) 6 80 Tryz.underlying46 hic hcz0 hcz1 hcz2 rfl (by decide) _ m (czL (allL L (ss.take i))) rfl (own_later HO.out (below_alloc wr _)) ⟨gx, 0, none⟩ mx cx (czL (L (x1, x2))) rfl ?len ?news (cm_one (H.out.cs (x1, x2))) (by unfold maxLen; omega) (by omega) ?bas ?_)
      case len => rw [czL_len, ← HMX.out]
      case news =>
        intro j u hj
        have := HY.out (wr.alloc (.cells #[.int .i64 x1, .int .i64 x2] 68)) (below_on HB.out (below_alloc wr _))
        have hj2 := (List.getElem?_eq_some_iff.1 hj).1
        rw [this.cellAt j (by rw [czL_len, ← HMX.out] at hj2; exact hj2)]
        exact hj
      case bas => have := HB.out.size; simp; omega
      intro v' w' ho' hg' _ _
      obtain ⟨a', c', rfl⟩ := own_len ho'
      have HW : Hid (m + mx = (allL L (ss.take (i + 1))).length ∧ w'.ownsRow w.heap.size 40 6 (.slice a' (m + mx) c') (m + mx) (czL (allL L (ss.take (i + 1)))) ∧ Below w.heap.size w w' ∧ w'.ownsRow w.heap.size 68 2 (.slice (some ⟨gk, 0, none⟩) ss.length ck) ss.length (ez ss)) := by
        have e1 := allL_push L ss i hlt
        rw [← HX.out] at e1
        have hg : (wr.alloc (.cells #[.int .i64 x1, .int .i64 x2] 68)).grownBy w' (Value.slice a m c).ownBlock := hg'
        have hb0 := below_on HB.out (below_alloc wr (.cells #[.int .i64 x1, .int .i64 x2] 68))
        refine ⟨by rw [e1, List.length_append, ← HM1.out, ← HMX.out], by rw [e1, czL_append]; exact ho', hb0.grown hg hb0.size (fun k e => (HO.out.lt k e).1), ((Mv.refl _ (fun k => (Value.slice a m c).ownBlock = some k)).grown hg (fun k _ e => e)).own (own_later HKK.out (below_alloc wr _)) (fun j hj e => ?_)⟩
        obtain ⟨cs, h1⟩ := own_ty HKK.out hj
        obtain ⟨cs', h2⟩ := own_ty HO.out e
        rw [h1] at h2
        injection h2 with h2
        injection h2 with _ h3 _
        exact absurd h3 (by decide)
      clear ho' hg'
      go_wp2_with fail
      go_roundw
      case rel => exact ⟨i + 1, a', c', m + mx, by omega, by go_num, rfl, HW⟩
      case measure => simp [intOf]; omega
    · have t1 : ¬ (i : Int) < (ss.length : Int) := by omega
      obtain rfl : i = ss.length := by omega
      rw [List.take_length] at HI
      go_wp2_with fail
      go_ret
      obtain ⟨rfl, k1, k2, -⟩ := HI.out
      exact ⟨_, rfl, ss, fun a b => HSS.out.1 (a, b), HSS.out.2.1, k1, k2⟩
end Go.Proofs.YtiolaenkfhcajaaGreat
