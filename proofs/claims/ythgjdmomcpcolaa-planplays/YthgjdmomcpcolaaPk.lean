/-
  Plan's law: picked: picks that may be.
-/
import Derived.Test.YthgjdmomcpcolaaOr
import Derived.Test.YthgjdmomcpcolaaLi
namespace Go.Proofs.Ythgjdmomcpcolaa
open Go.RowKit
set_option maxRecDepth 100000
/-! ### Plain: picks of each stage -/
/-- So many picks from a stage's end on. -/
def okTo (ps : List Int) (m : Nat) : Prop := ∀ i (h : i < ps.length), 0 ≤ ps[i] ∧ ps[i] < (m : Int) - i
theorem okP_of : ∀ (ps : List Int) (m : Nat), ps.length ≤ m → okTo ps m → okP ps m
  | [], _, _, _ => trivial
  | k :: ks, m, hl, h => by
    have h0 := h 0 (by simp)
    simp only [List.length_cons] at hl
    refine ⟨⟨h0.1, by have := h0.2; simp at this; omega⟩, okP_of ks (m - 1) (by omega) (fun i hi => ?_)⟩
    have := h (i + 1) (by simpa using hi)
    simp only [List.getElem_cons_succ] at this
    refine ⟨this.1, ?_⟩
    have := this.2
    omega
/-- Picks of the first stages, and of those behind. -/
theorem okPs_add : ∀ (sts : List (List Nat)) (ps : List Int) (st : List Nat) (qs : List Int), ps.length = sts.flatten.length → okPs sts ps → qs.length = st.length → okTo qs st.length → okPs (sts ++ [st]) (ps ++ qs)
  | [], ps, st, qs, h1, _, h3, h4 => by
    have : ps = [] := List.eq_nil_of_length_eq_zero (by simpa using h1)
    subst this
    simp only [List.nil_append, okPs]
    rw [← h3, List.take_length]
    exact ⟨okP_of qs _ (Nat.le_refl _) (h3 ▸ h4), trivial⟩
  | s :: sts, ps, st, qs, h1, h2, h3, h4 => by
    rw [List.flatten_cons, List.length_append] at h1
    simp only [okPs] at h2
    simp only [List.cons_append, okPs]
    rw [List.take_append_of_le_length (by omega), List.drop_append_of_le_length (by omega)]
    exact ⟨h2.1, okPs_add sts _ st qs (by rw [List.length_drop]; omega) h2.2 h3 h4⟩
set_option maxHeartbeats 8000000 in
theorem picked_any {w : World} {B g : Nat} {L : List Sy} {vr : Value} {raw : List Int} (h : Pl w B g L) (hr : Rl w vr raw) (hraw : ∀ x ∈ raw, InI x) : Calls Try.prog 20 #[.pointer (some ⟨g, 0, none⟩), vr] w fun e w' => ∃ v sts ps, e = .returned v ∧ StOf L L.length sts ∧ Rw w' w.heap.size v ps ∧ okPs sts ps ∧ ps.length = L.length ∧ Below w.heap.size w w' := by
  have JS := hide (stages_any h)
  have hL : L.length ≤ 1000 := by
    obtain ⟨va, vs, vt, rs, sts, -, -, -, -, -, h6, -⟩ := h
    exact h6
  have HL := hide hL
  have HR := hide hr
  have HRW := hide hraw
  obtain ⟨ar, cr, rfl, hr1, hr2, -⟩ := hr
  obtain ⟨i0, hi0, hz0, hz1, hz2⟩ := info_parts info3
  clear h hL hraw
  go_enter Try.func20, Try.ntmps20
  go_wp2_with fail
  refine JS.out.mono ?_
  rintro e w1 ⟨v1, rs, sts, rfl, hS, hSt, b1⟩
  have hrl := hS.2.1
  obtain ⟨a1, c1, rfl⟩ := own_len hS.1
  obtain ⟨hc1, hc2⟩ := own_cap hS.1
  have HS := hide hS
  have HST := hide hSt
  have HB1 := hide b1
  have HRL := hide hrl
  clear hS hSt b1 hrl JS
  go_wp2_with fail
  go_loopw [5, 7] (fun v5 v7 W => ∃ (s : Nat) (ps : List Int), s ≤ rs.length ∧ v7 = .int .i64 (s : Int) ∧ Hid (Rw W w1.heap.size v5 ps ∧ ps.length = (sts.take s).flatten.length ∧ okPs (sts.take s) ps ∧ Below w1.heap.size w1 W)) (fun _ v7 _ => rs.length - (intOf v7).toNat)
  case atStart => exact ⟨0, [], Nat.zero_le _, rfl, Rw.nil _ _, by simp, trivial, Below.refl _ _⟩
  case round =>
    obtain ⟨s, ps, hs, rfl, HP⟩ := hrel
    obtain ⟨wo, rfl⟩ : ∃ X, X = wr := ⟨_, rfl⟩
    by_cases hlt : s < rs.length
    · have t1 : (s : Int) < (rs.length : Int) := by omega
      have hss : s < sts.length := by have := HRL.out; omega
      obtain ⟨h1, h2, h3, h4⟩ := HP.out
      have hSW := HS.out.later h4
      obtain ⟨gv, cv', e0, -⟩ := own_form hSW.1 (by omega)
      simp only [Value.slice.injEq] at e0
      obtain ⟨rfl, -, rfl⟩ := e0
      have e1 := hSW.1.cellAt s (by omega)
      rw [List.getElem?_eq_getElem hlt] at e1
      have hrow := hSW.2.2.1 s hlt hss
      obtain ⟨ax, cx, hv⟩ := own_len hrow
      rw [hv, up_len] at e1
      have hlen : sts[s].length ≤ 1000 := Nat.le_trans (HST.out.short hss) HL.out
      have hflat : ∀ k ≤ sts[s].length, (sts.take s).flatten.length + k ≤ 1000 := fun k hk => by
        have h9 := HST.out.flat_len
        have : (sts.take (s + 1)).flatten.length ≤ sts.flatten.length := by
          conv => rhs; rw [← List.take_append_drop (s + 1) sts, List.flatten_append, List.length_append]
          omega
        rw [List.take_succ_eq_append_getElem hss, List.flatten_append, List.length_append, List.flatten_cons, List.flatten_nil, List.append_nil] at this
        have := HL.out
        omega
      have HFL := hide hflat
      have HLN := hide hlen
      obtain ⟨a5, c5, rfl⟩ := own_len h1
      obtain ⟨m, hm⟩ : ∃ m, m = sts[s].length := ⟨_, rfl⟩
      rw [← hm] at e1 HFL HLN
      have HM := hide hm
      have Q0 : Hid (Rw wo w1.heap.size (.slice a5 ps.length c5) (ps ++ []) ∧ okTo [] m ∧ Below w1.heap.size w1 wo) := ⟨by rw [List.append_nil]; exact h1, fun i hi => by simp at hi, h4⟩
      have HH : Hid (ps.length = (sts.take s).flatten.length ∧ okPs (sts.take s) ps) := ⟨h2, h3⟩
      clear hSW hrow hv hlen hflat hm h1 h2 h3 h4 HP
      go_wp2_with fail
      go_loopw [5, 8] (fun v5 v8 W => ∃ (n : Nat) (qs : List Int), n ≤ m ∧ qs.length = m - n ∧ v8 = .int .i64 (n : Int) ∧ Hid (Rw W w1.heap.size v5 (ps ++ qs) ∧ okTo qs m ∧ Below w1.heap.size w1 W)) (fun _ v8 _ => (intOf v8).toNat)
      case atStart => exact ⟨m, [], Nat.le_refl _, by simp, rfl, Q0.out⟩
      case round =>
        obtain ⟨n, qs, hn, hql, rfl, HQ⟩ := hrel
        clear Q0
        by_cases hn0 : 0 < n
        · have t2 : (n : Int) > 0 := by omega
          obtain ⟨h5, h6, h7⟩ := HQ.out
          obtain ⟨T, hT⟩ : ∃ T, T = ps ++ qs := ⟨_, rfl⟩
          rw [← hT] at h5
          obtain ⟨a6, c6, rfl⟩ := own_len h5
          have HT6 : Hid (Rw wr w1.heap.size (.slice a6 T.length c6) T ∧ Below w1.heap.size w1 wr) := ⟨h5, h7⟩
          have HTE := hide hT
          have HTB : Hid (T.length ≤ 1000) := by
            have h8 := HFL.out qs.length (by omega)
            have h9 := HH.out.1
            unfold Hid
            rw [hT, List.length_append]
            omega
          have HOK := hide h6
          have HQL := hide hql
          have HNM := hide hn
          obtain ⟨hc6a, hc6b⟩ := own_cap h5
          clear h5 h6 h7 HQ hT hql hn
          by_cases hr0 : 0 < raw.length
          · have t3 : (raw.length : Int) > 0 := by omega
            obtain ⟨ar', cr', er, -, -, hrc⟩ := HR.out.later (below_on HB1.out HT6.out.2)
            simp only [Value.slice.injEq, true_and] at er
            obtain ⟨rfl, rfl⟩ := er
            obtain ⟨gr, orr, rfl, hcell⟩ := hrc hr0
            have hix : T.length % raw.length < raw.length := Nat.mod_lt _ hr0
            have e2 := hcell _ hix
            have hmod : (T.length : Int) % (raw.length : Int) = ((T.length % raw.length : Nat) : Int) := (Int.natCast_emod _ _).symm
            have JP := hide (pick_any raw[T.length % raw.length] n wr hn0 (by have := HLN.out; have := HNM.out; omega) (HRW.out _ (List.getElem_mem hix)))
            have HKN : Hid (pickN raw[T.length % raw.length] n < n) := pickN_lt _ hn0
            obtain ⟨ix, hixe⟩ : ∃ x, x = T.length % raw.length := ⟨_, rfl⟩
            obtain ⟨rx, hrx⟩ : ∃ x, x = raw[T.length % raw.length] := ⟨_, rfl⟩
            rw [← hrx] at e2 JP HKN
            rw [← hixe] at e2 hmod hix
            have hixI : (ix : Int) < (raw.length : Int) := by omega
            have hrn : ¬ (raw.length : Int) = 0 := by omega
            obtain ⟨kk, hkk⟩ : ∃ x, x = pickN rx n := ⟨_, rfl⟩
            rw [← hkk] at JP HKN
            clear hcell hrc hixe hrx hkk
            go_wp2_with fail
            refine JP.out.mono ?_
            rintro e w5 ⟨rfl, rfl⟩
            go_wp2_with (at_builtin; refine wpList_append_nums rfl _ _ rfl w1.heap.size (.slice a6 T.length c6) T.length (zc T) rfl (own_later HT6.out.1 (below_alloc w5 _)) (.slice (some ⟨w5.heap.size, 0, none⟩) 1 1) [(kk : Int)] rfl (Rl.lit w5 _) ?pA1 ?pA2 ?_)
            case pA1 => have := HTB.out; simp; omega
            case pA2 => have := HT6.out.2.size; simp; omega
            intro v9 w9 h9 hg9 _
            have HN : Hid (Rw w9 w1.heap.size v9 (ps ++ (qs ++ [(kk : Int)])) ∧ okTo (qs ++ [(kk : Int)]) m ∧ Below w1.heap.size w1 w9) := by
              refine ⟨?_, fun i hi => ?_, ?_⟩
              · rw [← List.append_assoc, ← HTE.out]
                unfold Rw
                rw [zc_append, List.length_append]
                exact h9
              · by_cases c : i < qs.length
                · rw [List.getElem_append_left c]
                  exact HOK.out i c
                · have : i = qs.length := by simp at hi; omega
                  subst this
                  rw [List.getElem_append_right (Nat.le_refl _)]
                  simp only [Nat.sub_self, List.getElem_cons_zero]
                  have := HKN.out
                  have := HQL.out
                  have := HNM.out
                  omega
              · have hb := below_on HT6.out.2 (below_alloc w5 (.cells #[.int .i64 (kk : Int)] 3))
                exact hb.grown hg9 hb.size (fun k e => (HT6.out.1.lt k e).1)
            obtain ⟨a9, c9, rfl⟩ := own_len h9
            have hnn : (n : Int) - 1 = ((n - 1 : Nat) : Int) := by omega
            have HNN := hide hnn
            have hbn : n ≤ 9223372036854775807 := by have := HLN.out; have := HNM.out; omega
            clear h9 hg9 hnn
            go_wp2_with fail
            go_roundw
            case rel => exact ⟨n - 1, qs ++ [(kk : Int)], by have := HNM.out; omega, by rw [List.length_append, List.length_singleton, HQL.out]; have := HNM.out; omega, by rw [HNN.out], HN.out⟩
            case measure => simp only [intOf]; rw [HNN.out]; omega
          · have t3 : ¬ (raw.length : Int) > 0 := by omega
            have HKN : Hid ((0 : Int) < n) := by unfold Hid; omega
            go_wp2_with (at_builtin; refine wpList_append_nums rfl _ _ rfl w1.heap.size (.slice a6 T.length c6) T.length (zc T) rfl (own_later HT6.out.1 (below_alloc wr _)) (.slice (some ⟨wr.heap.size, 0, none⟩) 1 1) [(0 : Int)] rfl (Rl.lit wr _) ?pB1 ?pB2 ?_)
            case pB1 => have := HTB.out; simp; omega
            case pB2 => have := HT6.out.2.size; simp; omega
            intro v9 w9 h9 hg9 _
            have HN : Hid (Rw w9 w1.heap.size v9 (ps ++ (qs ++ [(0 : Int)])) ∧ okTo (qs ++ [(0 : Int)]) m ∧ Below w1.heap.size w1 w9) := by
              refine ⟨?_, fun i hi => ?_, ?_⟩
              · rw [← List.append_assoc, ← HTE.out]
                unfold Rw
                rw [zc_append, List.length_append]
                exact h9
              · by_cases c : i < qs.length
                · rw [List.getElem_append_left c]
                  exact HOK.out i c
                · have : i = qs.length := by simp at hi; omega
                  subst this
                  rw [List.getElem_append_right (Nat.le_refl _)]
                  simp only [Nat.sub_self, List.getElem_cons_zero]
                  have := HKN.out
                  have := HQL.out
                  have := HNM.out
                  omega
              · have hb := below_on HT6.out.2 (below_alloc wr (.cells #[.int .i64 (0 : Int)] 3))
                exact hb.grown hg9 hb.size (fun k e => (HT6.out.1.lt k e).1)
            obtain ⟨a9, c9, rfl⟩ := own_len h9
            have hnn : (n : Int) - 1 = ((n - 1 : Nat) : Int) := by omega
            have HNN := hide hnn
            have hbn : n ≤ 9223372036854775807 := by have := HLN.out; have := HNM.out; omega
            clear h9 hg9 hnn
            go_wp2_with fail
            go_roundw
            case rel => exact ⟨n - 1, qs ++ [(0 : Int)], by have := HNM.out; omega, by rw [List.length_append, List.length_singleton, HQL.out]; have := HNM.out; omega, by rw [HNN.out], HN.out⟩
            case measure => simp only [intOf]; rw [HNN.out]; omega
        · obtain rfl : n = 0 := by omega
          have HNX : Hid (Rw wr w1.heap.size u5 (ps ++ qs) ∧ (ps ++ qs).length = (sts.take (s + 1)).flatten.length ∧ okPs (sts.take (s + 1)) (ps ++ qs) ∧ Below w1.heap.size w1 wr) := by
            obtain ⟨h5, h6, h7⟩ := HQ.out
            have hm := HM.out
            refine ⟨h5, ?_, ?_, h7⟩
            · rw [List.take_succ_eq_append_getElem hss, List.flatten_append, List.length_append, List.length_append, List.flatten_cons, List.flatten_nil, List.append_nil, HH.out.1]
              omega
            · rw [List.take_succ_eq_append_getElem hss]
              exact okPs_add _ _ _ _ HH.out.1 HH.out.2 (by omega) (hm ▸ h6)
          clear HQ
          go_wp2_with fail
          go_roundw
          case rel => exact ⟨s + 1, ps ++ qs, by omega, rfl, HNX.out⟩
          case measure => simp only [intOf]; omega
    · have t1 : ¬ (s : Int) < (rs.length : Int) := by omega
      obtain rfl : s = rs.length := by omega
      obtain ⟨h1, h2, h3, h4⟩ := HP.out
      rw [HRL.out, List.take_length] at h2 h3
      have HFN : Hid (Rw wo w1.heap.size u5 ps ∧ ps.length = L.length ∧ okPs sts ps ∧ Below w1.heap.size w1 wo) := ⟨h1, by rw [h2, HST.out.flat_len], h3, h4⟩
      obtain ⟨a5, c5, rfl⟩ := own_len h1
      clear h1 h2 h3 h4 HP
      go_wp2_with fail
      go_ret
      exact ⟨_, rfl, sts, HST.out, ps, own_lower HFN.out.1 HB1.out.size, HFN.out.2.2.1, HFN.out.2.1, below_on HB1.out HFN.out.2.2.2⟩
end Go.Proofs.Ythgjdmomcpcolaa
