/-
  The document's GetRow (function 27): it is what GetRow tells.
-/
import Derived.Test.YtoccbeefmagklaaRefSame
namespace Go.Proofs.Ytoccbeefmagklaa
open Go.RowKit

set_option maxHeartbeats 4000000 in
set_option maxRecDepth 100000 in
theorem rgetRow_any (v : Value) (l : List UInt8) (most : Int) (w : World) (h : Bs w v l) (h0 : -9223372036854775808 ≤ most) (h1 : most ≤ 9223372036854775807) :
    Calls Try.prog 27 #[v, .int .i64 most] w fun e w' => GotRow w w' e (Rd.row l most) ∧ Below w.heap.size w w' := by
  have hg0 := rget_any v l w h
  have hle0 := Dec.getN_le l
  have hlt0 := Dec.getN_lt l
  have hten := Dec.getN_ten l
  obtain ⟨n, k, hp⟩ : ∃ n k, Dec.getN l = (n, k) := ⟨_, _, rfl⟩
  rw [hp] at hg0 hle0 hlt0 hten
  simp only at hg0 hle0 hlt0 hten
  have R := hide hp
  clear hp
  by_cases hbad : k = 0 ∨ most < 0 ∨ min most 100000 < (n : Int)
  · have E := hide (show Rd.row l most = ([], 0) by unfold Rd.row; rw [R.out]; simp only; rw [if_pos hbad])
    clear R
    obtain ⟨ao, c, rfl, hlc, hm, hcc⟩ := h
    clear hcc
    unfold maxLen at hm
    rcases (show (k = 0 ∧ most ≤ 100000) ∨ (k = 0 ∧ ¬ most ≤ 100000) ∨ (k ≠ 0 ∧ most < 0 ∧ most ≤ 100000) ∨ (k ≠ 0 ∧ ¬ most < 0 ∧ most ≤ 100000 ∧ most < (n : Int)) ∨ (k ≠ 0 ∧ ¬ most < 0 ∧ ¬ most ≤ 100000 ∧ 100000 < (n : Int)) by omega) with ⟨a, b⟩ | ⟨a, b⟩ | ⟨a, b, d⟩ | ⟨a, b, d, e⟩ | ⟨a, b, d, e⟩
    · have z1 : ((k : Int) == 0) = true := by simp [a]
      clear a hbad
      go_enter Try.func27, Try.ntmps27
      go_wp2_with fail
      refine hg0.mono ?_
      rintro e w1 ⟨rfl, rfl⟩
      go_wp2
      go_ret2
      rw [E.out]
      exact ⟨got_none, Below.refl _ _⟩
    · have z1 : ((k : Int) == 0) = true := by simp [a]
      clear a hbad
      go_enter Try.func27, Try.ntmps27
      go_wp2_with fail
      refine hg0.mono ?_
      rintro e w1 ⟨rfl, rfl⟩
      go_wp2
      go_ret2
      rw [E.out]
      exact ⟨got_none, Below.refl _ _⟩
    all_goals
      have z1 : ((k : Int) == 0) = false := by simp [a]
      clear a hbad
      go_enter Try.func27, Try.ntmps27
      go_wp2_with fail
      refine hg0.mono ?_
      rintro e w1 ⟨rfl, rfl⟩
      go_wp2
      go_ret2
      rw [E.out]
      exact ⟨got_none, Below.refl _ _⟩
  · have z1 : ((k : Int) == 0) = false := by simp; omega
    have hmost : ¬ most < 0 := by omega
    have hn : n ≤ 100000 := by omega
    have hnm : (n : Int) ≤ most := by omega
    by_cases hn0 : n = 0
    · have E := hide (show Rd.row l most = ([], k) by unfold Rd.row; rw [R.out]; simp only; rw [if_neg hbad, if_pos hn0])
      obtain ⟨ao, c, rfl, hlc, hm, hcc⟩ := h
      clear hcc
      unfold maxLen at hm
      have z2 : ((n : Int) == 0) = true := by simp [hn0]
      clear R hbad hn0
      rcases (show most ≤ 100000 ∨ ¬ most ≤ 100000 by omega) with b | b
      all_goals
        go_enter Try.func27, Try.ntmps27
        go_wp2_with fail
        refine hg0.mono ?_
        rintro e w1 ⟨rfl, rfl⟩
        go_wp2
        go_ret2
        rw [E.out]
        exact ⟨⟨_, rfl, World.ownsRow_nil _ _ _ _⟩, Below.refl _ _⟩
    · have z2 : ((n : Int) == 0) = false := by simp [hn0]
      by_cases hkl : k = l.length
      · have E := hide (show Rd.row l most = ([], 0) by unfold Rd.row; rw [R.out]; simp only; rw [if_neg hbad, if_neg hn0, if_pos (.inl hkl)])
        obtain ⟨ao, c, rfl, hlc, hm, hcc⟩ := h
        clear hcc
        unfold maxLen at hm
        have z3 : (l.length : Int) ≤ (k : Int) := by omega
        clear R hbad hn0 hkl
        rcases (show most ≤ 100000 ∨ ¬ most ≤ 100000 by omega) with b | b
        all_goals
          go_enter Try.func27, Try.ntmps27
          go_wp2_with fail
          refine hg0.mono ?_
          rintro e w1 ⟨rfl, rfl⟩
          go_wp2
          go_ret2
          rw [E.out]
          exact ⟨got_none, Below.refl _ _⟩
      · have hklt : k < l.length := by omega
        have e1 : (k : Int) < (l.length : Int) := by omega
        have z3 : ¬ (l.length : Int) ≤ (k : Int) := by omega
        rcases h.parts with ⟨ao, c, rfl, rfl⟩ | ⟨g, o, c, rfl, hpos, hlc, hm, hc⟩
        · simp at hklt
        have hgw : g < w.heap.size := World.block_lt_of_cell? w _ (hc 0 hpos)
        have hgd : l.getD k 0 = l[k] := by rw [List.getD_eq_getElem?_getD, List.getElem?_eq_getElem hklt]; rfl
        have hb256 := (l[k]).toNat_lt
        have HM := hide hm
        have HC := hide hc
        unfold maxLen at hm
        have E3 := hide (fun (hf3 : 3 ≤ l[k].toNat) => show Rd.row l most = ([], 0) by unfold Rd.row; rw [R.out]; simp only; rw [if_neg hbad, if_neg hn0, if_pos (.inr (by rw [hgd]; exact hf3))])
        have E := hide (fun (hf3 : ¬ 3 ≤ l[k].toNat) => show Rd.row l most = match Rd.form (l.drop (k + 1)) l[k].toNat n with | none => ([], 0) | some (zs, s) => if Rw.best zs ≠ l[k].toNat then ([], 0) else (zs, k + 1 + s) by
            unfold Rd.row; rw [R.out]; simp only; rw [if_neg hbad, if_neg hn0, if_neg (by rw [hgd]; omega), hgd]; rfl)
        have hck : w.cell? ⟨g, o + k, none⟩ = some (.int .u8 l[k].toNat) := hc k hklt
        have KT := hide (fun (t : Nat) (ht : k + 1 + t ≤ l.length) => show (l.drop k).take (1 + t) = UInt8.ofNat l[k].toNat :: (l.drop (k + 1)).take t by
          rw [UInt8.ofNat_toNat, List.drop_eq_getElem_cons hklt, Nat.add_comm 1 t, List.take_succ_cons])
        clear R hbad hc hgd
        generalize l[k].toNat = f at *
        have HAD : Hid (∀ j, (⟨g, o + k, none⟩ : Addr).add j = ⟨g, o + (k + j), none⟩) := fun j => by simp [Addr.add, Nat.add_assoc]
        obtain ⟨sv, hsv⟩ : ∃ sv, sv = (if k + 1 = c then Value.slice (some ⟨g, o, none⟩) 0 0 else Value.slice (some ⟨g, o + (k + 1), none⟩) (l.length - (k + 1)) (c - (k + 1))) := ⟨_, rfl⟩
        have RR : Hid (∀ W : World, (Below w.heap.size w W ∧ W.cell? ⟨g, o + k, none⟩ = some (.int .u8 f)) → Calls Try.prog 45 #[sv, .int .i64 n, .int .u8 f] W fun e w' => ∃ v t, e = .returned (.tuple #[v, .int .i64 (t : Nat)]) ∧ Hid (RfVal W w' v t (l.drop (k + 1)) f n ∧ w.heap.size ≤ W.heap.size) ∧ Below w.heap.size w w' ∧ w'.cell? ⟨g, o + k, none⟩ = some (.int .u8 f)) := by
          rintro W ⟨hW, _⟩
          have hcW := bcells_below HC.out hW hgw
          have hsW := hW.size
          have G : ∀ {e : Ending} {w' : World}, (∃ v t, e = .returned (.tuple #[v, .int .i64 (t : Nat)]) ∧ RfVal W w' v t (l.drop (k + 1)) f n ∧ Below W.heap.size W w') → ∃ v t, e = .returned (.tuple #[v, .int .i64 (t : Nat)]) ∧ Hid (RfVal W w' v t (l.drop (k + 1)) f n ∧ w.heap.size ≤ W.heap.size) ∧ Below w.heap.size w w' ∧ w'.cell? ⟨g, o + k, none⟩ = some (.int .u8 f) := by
            rintro e w' ⟨v, t, rfl, h1, h2⟩
            have hb : Below w.heap.size w w' := hW.trans (h2.mono hsW)
            exact ⟨v, t, rfl, ⟨h1, hsW⟩, hb, (hb.cell (p := ⟨g, o + k, none⟩) hgw).trans hck⟩
          rw [hsv]
          by_cases hkc : k + 1 = c
          · rw [if_pos hkc]
            have hnil : l.drop (k + 1) = [] := List.drop_eq_nil_of_le (by omega)
            refine (rrow_any g o 0 n f [] W (by omega) hn hb256 (by simp) (by simp [maxLen]) (fun j hj => absurd hj (by simp)) (by omega)).mono fun _ _ h => ?_
            rw [← hnil] at h
            exact G h
          · rw [if_neg hkc, ← List.length_drop]
            refine (rrow_any g (o + (k + 1)) (c - (k + 1)) n f (l.drop (k + 1)) W (by omega) hn hb256 (by simp; omega) (by have := HM.out; omega) (fun j hj => ?_) (by omega)).mono fun _ _ h => G h
            have := hcW (k + 1 + j) (by simp at hj; omega)
            rw [← Nat.add_assoc] at this
            rw [this]
            simp
        by_cases hkc : k + 1 = c
        · rw [if_pos hkc] at hsv
          subst hkc
          subst hsv
          have e0 : (0 : Int) ≤ (k : Int) := by omega
          have en : IntKind.i64.wrap (n : Int) = (n : Int) := by rw [IntKind.wrap_i64]; omega
          have ew : IntKind.i64.wrap ((k : Int) + 1) = (k : Int) + 1 := by rw [IntKind.wrap_i64]; omega
          have e2 : (k : Int) + 1 ≤ l.length := by omega
          have e3 : (l.length : Int) ≤ (k : Int) + 1 := by omega
          have e4 : l.length - (k + 1) = 0 := by omega
          rcases (show most ≤ 100000 ∨ ¬ most ≤ 100000 by omega) with b | b
          all_goals
            go_enter Try.func27, Try.ntmps27
            go_wp2_with fail
            refine hg0.mono ?_
            rintro e w1 ⟨rfl, rfl⟩
            go_wp2
            have e5 : ((0 : Int) ≤ (k : Int) + 1) = True := eq_true (Int.add_nonneg (Int.natCast_nonneg k) (by decide))
            go_region_held3 (fun W => Below w1.heap.size w1 W ∧ W.cell? ⟨g, o + k, none⟩ = some (.int .u8 f)) (first | exact ⟨hb2, hc2⟩ | exact ⟨⟨rfl, rfl, rfl, Nat.le_refl _, fun _ _ => rfl⟩, hck⟩) (first | (go_at_call 45; refine (RR.out w1.drew ⟨⟨rfl, rfl, rfl, Nat.le_refl _, fun _ _ => rfl⟩, hck⟩).mono ?_; rintro e w2 ⟨v2, t2, rfl, HV, hb2, hc2⟩))
            rcases HV.out.1 with ⟨hv, ht, hno⟩ | ⟨zs, hf2, ht0, htl, hzl, hz, hown, hfm⟩
            · subst hv
              subst ht
              clear HV
              go_wp2
              go_ret2
              have ER : Rd.row l most = ([], 0) := by
                rcases hno with hno | hno
                · exact E3.out hno
                · by_cases hf3 : 3 ≤ f
                  · exact E3.out hf3
                  · rw [E.out hf3, hno]
              rw [ER]
              exact ⟨got_none, hb2⟩
            · exfalso
              rw [List.length_drop] at htl
              omega
        · rw [if_neg hkc] at hsv
          have hkc' : ¬ (k : Int) + 1 = c := by omega
          have hkc2 : ¬ c = k + 1 := by omega
          subst hsv
          have e0 : (0 : Int) ≤ (k : Int) := by omega
          have en : IntKind.i64.wrap (n : Int) = (n : Int) := by rw [IntKind.wrap_i64]; omega
          have ew : IntKind.i64.wrap ((k : Int) + 1) = (k : Int) + 1 := by rw [IntKind.wrap_i64]; omega
          have e2 : (k : Int) + 1 ≤ l.length := by omega
          have e3 : (l.length : Int) ≤ c := by omega
          rcases (show most ≤ 100000 ∨ ¬ most ≤ 100000 by omega) with b | b
          all_goals
            go_enter Try.func27, Try.ntmps27
            go_wp2_with fail
            refine hg0.mono ?_
            rintro e w1 ⟨rfl, rfl⟩
            go_wp2
            have e5 : ((0 : Int) ≤ (k : Int) + 1) = True := eq_true (Int.add_nonneg (Int.natCast_nonneg k) (by decide))
            go_region_held3 (fun W => Below w1.heap.size w1 W ∧ W.cell? ⟨g, o + k, none⟩ = some (.int .u8 f)) (first | exact ⟨hb2, hc2⟩ | exact ⟨⟨rfl, rfl, rfl, Nat.le_refl _, fun _ _ => rfl⟩, hck⟩) (first | (go_at_call 45; refine (RR.out w1.drew ⟨⟨rfl, rfl, rfl, Nat.le_refl _, fun _ _ => rfl⟩, hck⟩).mono ?_; rintro e w2 ⟨v2, t2, rfl, HV, hb2, hc2⟩))
            rcases HV.out.1 with ⟨hv, ht, hno⟩ | ⟨zs, hf2, ht0, htl, hzl, hz, hown, hfm⟩
            · subst hv
              subst ht
              clear HV
              go_wp2
              go_ret2
              have ER : Rd.row l most = ([], 0) := by
                rcases hno with hno | hno
                · exact E3.out hno
                · by_cases hf3 : 3 ≤ f
                  · exact E3.out hf3
                  · rw [E.out hf3, hno]
              rw [ER]
              exact ⟨got_none, hb2⟩
            · have z5 : ((t2 : Int) == 0) = false := by simp [ht0]
              rw [List.length_drop] at htl
              have HS := hide (rshort_any v2 zs w2 hown.ns hz (by omega))
              have SB := hide (same_best (b := l.drop (k + 1)) (f := f) (n := n) (t := t2) hf2 hzl hn hz hfm)
              have EE := hide (E.out (by omega))
              have HO := hide hown
              have HZ := hide hzl
              have HFM := hide hfm
              clear HV RR hown hzl hfm hz
              go_wp2_with fail
              refine HS.out.mono ?_
              rintro e w3 ⟨v3, rfl, ⟨hb3, hn3⟩, hbel⟩
              clear HS hn3
              have cv1 := fun m : Nat => conv_bs (w := w3.drewN m) hb3
              have hb13 : Below w1.heap.size w1 w3 := hb2.trans (hbel.mono hb2.size)
              obtain ⟨q, hq⟩ : ∃ q : Nat, q = k + 1 + t2 := ⟨_, rfl⟩
              have cv2 : ∀ m : Nat, (convert 22 9 (.slice (some ⟨g, o + k, none⟩) (q - k) (c - k))).run Try.prog (w3.drewN m) = .ok (.string ⟨(UInt8.ofNat f :: (l.drop (k + 1)).take t2).toArray⟩) (w3.drewN m) := fun m => by
                have := conv_row (w3.drewN m) ⟨g, o + k, none⟩ (c - k) ((l.drop k).take (1 + t2)) (fun j hj => by
                  simp at hj
                  rw [HAD.out j]
                  show w3.cell? _ = _
                  rw [(bcells_below HC.out hb13 hgw) (k + j) (by omega)]
                  simp)
                rw [show ((l.drop k).take (1 + t2)).length = q - k by simp; omega, KT.out t2 (by omega)] at this
                exact this
              have LK : Hid (tagged zs (Rw.best zs) = UInt8.ofNat f :: (l.drop (k + 1)).take t2 ∨ ¬ tagged zs (Rw.best zs) = UInt8.ofNat f :: (l.drop (k + 1)).take t2) := Decidable.em _
              generalize hS1 : tagged zs (Rw.best zs) = S1 at *
              generalize hS2 : UInt8.ofNat f :: (l.drop (k + 1)).take t2 = S2 at *
              have HS1 := hide hS1
              have HS2 := hide hS2
              have ew2 : IntKind.i64.wrap ((k : Int) + 1 + t2) = (q : Int) := by rw [IntKind.wrap_i64]; omega
              have e7 : (k : Int) ≤ q := by omega
              have e8 : (q : Int) ≤ c := by omega
              have e9 : ¬ c = k := by omega
              have HQ := hide hq
              clear hq
              clear hS1 hS2
              go_wp2
              rcases LK.out with hk | hk
              · have zz : (S1 == S2) = true := by rw [beq_iff_eq]; exact hk
                have ER := hide (SB.out.1 hk)
                clear hk
                go_quiet (fail)
                go_wp2
                go_ret2
                have ER2 : Rd.row l most = (zs, q) := by
                  rw [EE.out, ER.out.1]
                  simp only
                  rw [if_neg (by simpa using ER.out.2), HQ.out]
                rw [ER2]
                exact ⟨⟨_, rfl, owns_drew' (own_later HO.out hbel) ⟨nq, rfl⟩⟩, hb13.trans (below_drew' ⟨nq, rfl⟩)⟩
              · have zz : (S1 == S2) = false := by rw [beq_eq_false_iff_ne]; exact hk
                have HK := hide hk
                clear hk
                go_quiet (fail)
                go_wp2
                go_ret2
                have ER2 : Rd.row l most = ([], 0) := by
                  rw [EE.out]
                  rcases HFM.out with hf0 | hf0
                  · rw [hf0]
                  · rw [hf0]
                    simp only
                    rw [if_pos (fun hb => HK.out (SB.out.2 ⟨hf0, hb⟩))]
                rw [ER2]
                exact ⟨got_none, hb13.trans (below_drew' ⟨nq, rfl⟩)⟩
end Go.Proofs.Ytoccbeefmagklaa
