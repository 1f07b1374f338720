import Derived.Test.YtpolajoephjdhaaGreatDoorLmD
import Derived.Test.YtpolajoephjdhaaGreatDoorLsO
import Derived.BigQuiet
import Derived.Test.YtpolajoephjdhaaGreatDoorDeG
import Derived.Test.YtpolajoephjdhaaGreatDoorShM
import Derived.Test.YtpolajoephjdhaaGreatDoorLmC
import Derived.Test.YtpolajoephjdhaaGreatDoorShD
import Derived.Test.YtpolajoephjdhaaGreatDoorBkN
/-
  The law's instrs, at one list.
-/
namespace Go.Proofs.YtpolajoephjdhaaGreatDoor
open Go.RowKit
set_option maxRecDepth 100000
def mkM : Ins := ⟨-1000, 0⟩
def marI (l : List Ins) (k : Nat) : List Ins := List.replicate k mkM ++ l.drop k
theorem marI_len (l : List Ins) (k : Nat) (hk : k ≤ l.length) : (marI l k).length = l.length := by simp [marI]; omega
theorem marI_set (l : List Ins) (k : Nat) (hk : k < l.length) : (marI l k).set k mkM = marI l (k + 1) := by
  unfold marI
  rw [List.set_append_right _ _ (by simp), List.length_replicate, Nat.sub_self, List.drop_eq_getElem_cons hk, List.set_cons_zero, List.replicate_succ', List.append_assoc]
  rfl
theorem marI_end (l : List Ins) : marI l l.length = List.replicate l.length mkM := by simp [marI]
theorem insC_rep (n : Nat) : insC (List.replicate n mkM) ++ [.int .i64 (-1000), .int .i64 0] = insC (List.replicate (n + 1) mkM) := by
  rw [List.replicate_succ', insC_append]
  rfl
theorem rep_six (n : Nat) : ∀ i ∈ List.replicate n mkM, I6 i.op ∧ I6 i.a := fun i hi => by
  rw [List.mem_replicate] at hi
  rw [hi.2]
  exact ⟨⟨by decide, by decide⟩, ⟨by decide, by decide⟩⟩
theorem infoLI : (Tryz.prog.info? 43).map (fun i => (i.zero, i.size, i.bytes)) = some (some (.slice none 0 0), 1, 24) := by kernel_rfl
/-- A list that reads as marks. -/
def RdM (w : World) (v : Value) (n : Nat) : Prop := ∃ ao c, v = .slice ao n c ∧ n ≤ c ∧ c ≤ 9223372036854775807 ∧ (0 < n → ∃ g, ao = some ⟨g, 0, none⟩ ∧ ∀ k, k < n → w.cell? ⟨g, k * 2, none⟩ = some (.int .i64 (-1000)) ∧ w.cell? ⟨g, k * 2 + 1, none⟩ = some (.int .i64 0))
theorem own_rdm {w : World} {N n : Nat} {v : Value} (h : w.ownsRow N 56 2 v n (insC (List.replicate n mkM))) : RdM w v n := by
  have h' := h
  obtain ⟨-, ⟨rfl, rfl⟩ | ⟨g, cap, cur, rfl, hB, hg, h1, h2, -⟩⟩ := h
  · exact ⟨none, 0, rfl, Nat.le_refl _, by omega, fun e => by omega⟩
  · refine ⟨_, _, rfl, h1, by unfold maxLen at h2; omega, fun _ => ⟨g, rfl, fun k hk => ?_⟩⟩
    obtain ⟨a, b⟩ := insC_at (List.replicate n mkM) k (by simpa using hk)
    rw [List.getElem_replicate] at a b
    exact ⟨(h'.cellAt (k * 2) (by omega)).trans a, (h'.cellAt (k * 2 + 1) (by omega)).trans b⟩
theorem RdM.mv {w w' : World} {v : Value} {n : Nat} {S : Nat → Prop} (h : RdM w v n) (hm : Mv w w' S) (hs : ∀ j, v.ownBlock = some j → ¬ S j) : RdM w' v n := by
  obtain ⟨ao, c, rfl, h1, h2, h3⟩ := h
  refine ⟨ao, c, rfl, h1, h2, fun h0 => ?_⟩
  obtain ⟨g, rfl, h4⟩ := h3 h0
  refine ⟨g, rfl, fun k hk => ?_⟩
  obtain ⟨a, b⟩ := h4 k hk
  exact ⟨hm.cell a (hs g rfl), hm.cell b (hs g rfl)⟩
theorem RdM.later {w w' : World} {v : Value} {n : Nat} (h : RdM w v n) (hb : Below w.heap.size w w') : RdM w' v n := h.mv (Mv.of_below hb (fun _ => False)) (fun _ _ e => e)
/-- What is appended behind leaves it as it reads. -/
theorem RdM.keep {w w' : World} {v u : Value} {n k : Nat} (h : RdM w v n) (hg : w.grownBy w' u.ownBlock) (hu : ∀ g j, u.ownBlock = some g → j < k * 2 → w'.cell? ⟨g, j, none⟩ = w.cell? ⟨g, j, none⟩) (hk : n ≤ k) : RdM w' v n := by
  obtain ⟨ao, c, rfl, h1, h2, h3⟩ := h
  refine ⟨ao, c, rfl, h1, h2, fun h0 => ?_⟩
  obtain ⟨g, rfl, h4⟩ := h3 h0
  refine ⟨g, rfl, fun j hj => ?_⟩
  obtain ⟨a, b⟩ := h4 j hj
  by_cases e : u.ownBlock = some g
  · exact ⟨(hu g (j * 2) e (by omega)).trans a, (hu g (j * 2 + 1) e (by omega)).trans b⟩
  · have m := (Mv.refl w (fun q => u.ownBlock = some q)).grown hg (fun _ _ e => e)
    exact ⟨m.cell a e, m.cell b e⟩
theorem RdM.at {w : World} {v : Value} {n k : Nat} (h : RdM w v n) (hk : k < n) : ∃ g c, v = .slice (some ⟨g, 0, none⟩) n c ∧ w.cell? ⟨g, k * 2, none⟩ = some (.int .i64 (-1000)) ∧ w.cell? ⟨g, k * 2 + 1, none⟩ = some (.int .i64 0) := by
  obtain ⟨ao, c, rfl, h1, h2, h3⟩ := h
  obtain ⟨g, rfl, h4⟩ := h3 (by omega)
  obtain ⟨a, b⟩ := h4 k hk
  exact ⟨g, c, rfl, a, b⟩
set_option maxHeartbeats 8000000 in
theorem instrs_one {W : World} {q N : Nat} {v : Value} {l : List Ins} (hq : W.heap[q]? = some (.cells #[v] 43 (0, 0))) (ho : W.ownsRow N 56 2 v l.length (insC l)) (hN : N ≤ W.heap.size) (hm : l.length ≤ 2000) : Calls Tryz.prog 22 #[.slice (some ⟨q, 0, none⟩) 1 1] W fun e w' => e = .returned (.bool true) ∧ Mv W w' (fun j => j = q ∨ v.ownBlock = some j) := by
  have hvq : ∀ j, v.ownBlock = some j → j ≠ q := fun j e1 e2 => by
    subst e2
    obtain ⟨-, ⟨rfl, -⟩ | ⟨g, cap, cur, rfl, hB, hg, -⟩⟩ := ho
    · cases e1
    · have : g = j := by simpa [Value.ownBlock] using e1
      subst this
      rw [hg] at hq
      simp at hq
  have HVQ := hide hvq
  obtain ⟨ao, c, rfl⟩ := own_len ho
  obtain ⟨m, hml⟩ : ∃ m, m = l.length := ⟨_, rfl⟩
  rw [← hml] at ho hm hq hvq HVQ ⊢
  have HML := hide hml
  have HQ := hide hq
  have HO := hide ho
  have HNN := hide hN
  obtain ⟨ic, hi, hz0, hz1, hz2⟩ := info_parts infoI
  obtain ⟨idl, ki, kz0, kz1, kz2⟩ := info_parts infoLI
  have VQ : Hid (∀ wr, Mv W wr (fun j => (Value.slice ao m c).ownBlock = some j) → wr.cell? ⟨q, 0, none⟩ = some (.slice ao m c)) := fun wr hmv => by
    have := hmv.at HQ.out (fun e => HVQ.out q e rfl)
    rw [cell_of_row wr _ _ _ 43 (0, 0) this]
    rfl
  clear hq ho hN hvq hml
  go_enter Tryz.func22, Tryz.ntmps22
  go_wp2_with fail
  go_loopw [4] (fun v4 wr => ∃ i : Nat, v4 = .int .i64 (i : Int) ∧ i ≤ 1 ∧ Hid (wr.ownsRow N 56 2 (.slice ao m c) m (insC (if i = 0 then l else List.replicate m mkM))) ∧ Hid (Mv W wr (fun j => (Value.slice ao m c).ownBlock = some j))) (fun v4 _ => 1 - (intOf v4).toNat)
  case atStart => exact ⟨0, rfl, by omega, HO.out, Mv.refl _ _⟩
  case round =>
    obtain ⟨i, rfl, hi1, hown, hmv⟩ := hrel
    by_cases hlt : i < 1
    · obtain rfl : i = 0 := by omega
      rw [if_pos rfl] at hown
      go_wp2_with fail
      go_loopw [5] (fun v5 wx => ∃ k : Nat, v5 = .int .i64 (k : Int) ∧ k ≤ m ∧ Hid (wx.ownsRow N 56 2 (.slice ao m c) m (insC (marI l k))) ∧ Hid (Mv W wx (fun j => (Value.slice ao m c).ownBlock = some j))) (fun v5 _ => m - (intOf v5).toNat)
      case atStart => exact ⟨0, rfl, by omega, hown.out, hmv.out⟩
      case round => as_aux_lemma =>
        obtain ⟨k, rfl, hk, ho, hm2⟩ := hrel
        have y0 := VQ.out wr hm2.out
        by_cases hk2 : k < m
        · obtain ⟨g, c', e, hc⟩ := own_some ho.out (by omega)
          injection e with e1 e2 e3
          subst e1 e3
          have hkl : k < (marI l k).length := by rw [marI_len l k (by rw [← HML.out]; omega), ← HML.out]; exact hk2
          obtain ⟨a1, a2⟩ := insC_at (marI l k) k hkl
          have d0 := (hc (k * 2) (by omega)).trans a1
          have d1 := (hc (k * 2 + 1) (by omega)).trans a2
          have z0 := ho.out.frozenAt (k * 2)
          have z1 := ho.out.frozenAt (k * 2 + 1)
          have st1 := (ho.out.stored (k * 2) (.int .i64 (-1000))).1
          have st2 := (st1.stored (k * 2 + 1) (.int .i64 0)).1
          have NX : Hid (((wr.setCell ⟨g, k * 2, none⟩ (.int .i64 (-1000))).setCell ⟨g, k * 2 + 1, none⟩ (.int .i64 0)).ownsRow N 56 2 (.slice (some ⟨g, 0, none⟩) m c) m (insC (marI l (k + 1)))) := by
            unfold Hid
            rw [← marI_set l k (by rw [← HML.out]; exact hk2), insC_set _ _ _ hkl]
            exact st2
          have MX : Hid (Mv W ((wr.setCell ⟨g, k * 2, none⟩ (.int .i64 (-1000))).setCell ⟨g, k * 2 + 1, none⟩ (.int .i64 0)) (fun j => (Value.slice (some ⟨g, 0, none⟩) m c).ownBlock = some j)) := hm2.out.trans (setR_mv _ _) (fun j _ e => by rw [e]; rfl)
          clear hc a1 a2 st1 st2 e2
          go_wp2_with fail
          exact ⟨⟨k + 1, by go_num, by omega, NX.out, MX.out⟩, by simp [intOf]; omega⟩
        · obtain rfl : k = m := by omega
          have FN : Hid (wr.ownsRow N 56 2 (.slice ao k c) k (insC (List.replicate k mkM))) := by
            have h1 := ho.out
            have h2 := marI_end l
            rw [← HML.out] at h2
            rw [h2] at h1
            exact h1
          go_wp2_with fail
          exact ⟨⟨1, rfl, by omega, FN.out, hm2.out⟩, by simp [intOf]⟩
    · obtain rfl : i = 1 := by omega
      rw [if_neg (by omega)] at hown
      rw [show ((1 : Nat) : Int) = 1 from rfl]
      go_wp2_with fail
      go_loopw [6, 0] (fun v6 vl wr => ∃ i : Nat, v6 = .int .i64 (i : Int) ∧ i ≤ 1 ∧ Hid ((i = 0 ∧ vl = .slice (some ⟨q, 0, none⟩) 1 1 ∧ wr.ownsRow N 56 2 (.slice ao m c) m (insC (List.replicate m mkM)) ∧ Mv W wr (fun j => (Value.slice ao m c).ownBlock = some j)) ∨ (i = 1 ∧ Mv W wr (fun j => j = q ∨ (Value.slice ao m c).ownBlock = some j) ∧ ∃ q' c' v', vl = .slice (some ⟨q', 0, none⟩) 2 c' ∧ wr.cell? ⟨q', 0, none⟩ = some (.slice ao m c) ∧ wr.cell? ⟨q', 1, none⟩ = some v' ∧ RdM wr (.slice ao m c) m ∧ RdM wr v' (m + 100)))) (fun v6 _ _ => 1 - (intOf v6).toNat)
      case atStart => exact ⟨0, rfl, by omega, .inl ⟨rfl, rfl, hown.out, hmv.out⟩⟩
      case round =>
        obtain ⟨i, rfl, hi1, hst⟩ := hrel
        rcases hst.out with ⟨rfl, rfl, hown, hmv⟩ | ⟨rfl, hmv, q', c', v', rfl, k0, k1, m0, m1⟩
        · have y0 := VQ.out wr hmv
          have OW := hide hown
          have MV := hide hmv
          clear hst hown hmv
          rw [show ((0 : Nat) : Int) = 0 from rfl]
          go_wp2_with fail
          go_loopw [8, 7] (fun v8 v7 wx => ∃ k : Nat, v8 = .int .i64 (k : Int) ∧ k ≤ 100 ∧ Hid (wx.ownsRow N 56 2 v7 (m + k) (insC (List.replicate (m + k) mkM))) ∧ Hid (Mv W wx (fun j => (Value.slice ao m c).ownBlock = some j)) ∧ Hid (RdM wx (.slice ao m c) m) ∧ Hid (∀ j, v7.ownBlock = some j → W.heap.size ≤ j ∨ (Value.slice ao m c).ownBlock = some j)) (fun v8 _ _ => 100 - (intOf v8).toNat)
          case atStart => exact ⟨0, rfl, by omega, OW.out, MV.out, own_rdm OW.out, fun j e => .inr e⟩
          case round => as_aux_lemma =>
            obtain ⟨k, rfl, hk, ho, hm2, hrd, hbl⟩ := hrel
            have hNs : N ≤ wr.heap.size := Nat.le_trans HNN.out hm2.out.size
            by_cases hk2 : k < 100
            · have o1 := ho.out
              have hmk : m + k ≤ 2100 := by omega
              clear y0
              go_wp2_with (at_builtin; refine wpList_append_keep rfl _ _ 43 rfl N 56 ic (.agg #[.int .i64 0, .int .i64 0]) 2 16 Tryz.underlying43 hi hz0 hz1 hz2 rfl (by decide) _ _ _ rfl (o1.alloc _) ⟨wr.heap.size, 0, none⟩ 1 1 [.int .i64 (-1000), .int .i64 0] rfl rfl ?c1 ?c2 ?c3 ?c4 ?c5 ?_)
              case c1 =>
                intro j u hj
                match j, hj with
                | 0, hj => simp at hj; subst hj; simp [Addr.add]
                | 1, hj => simp at hj; subst hj; simp [Addr.add]
              case c2 => intro u hu; simp at hu; rcases hu with rfl | rfl <;> rfl
              case c3 => unfold maxLen; omega
              case c4 => omega
              case c5 => simp; omega
              intro v' w8 hown' hgrow hblk hkeep
              rw [insC_rep] at hown'
              have O8 := hide hown'
              have M8 : Hid (Mv W w8 (fun j => (Value.slice ao m c).ownBlock = some j)) := (hm2.out.alloc _).grown hgrow (fun j hj e => by
                rcases hbl.out j e with h | h
                · omega
                · exact h)
              have R8 : Hid (RdM w8 (.slice ao m c) m) := (hrd.out.later (below_alloc wr _)).keep hgrow hkeep (by omega)
              have BL8 : Hid (∀ j, v'.ownBlock = some j → W.heap.size ≤ j ∨ (Value.slice ao m c).ownBlock = some j) := fun j e => by
                rcases hblk with h | h
                · exact hbl.out j (h ▸ e)
                · rw [e] at h
                  injection h with h
                  have := hm2.out.size
                  omega
              clear hown' hgrow hblk hkeep o1
              go_wp2_with fail
              exact ⟨⟨k + 1, by go_num, by omega, O8.out, M8.out, R8.out, BL8.out⟩, by simp [intOf]; omega⟩
            · obtain rfl : k = 100 := by omega
              have q1 := hide (hm2.out.at HQ.out (fun e => HVQ.out q e rfl))
              have OQ : Hid (wr.ownsRow q 43 1 (.slice (some ⟨q, 0, none⟩) 1 1) 1 [.slice ao m c]) := ⟨rfl, .inr ⟨q, 1, #[.slice ao m c], rfl, Nat.le_refl _, q1.out, Nat.le_refl _, by decide, rfl, rfl⟩⟩
              have hqs := lt_of_block q1.out
              have hqW := lt_of_block HQ.out
              have o1 := OQ.out
              have RV := hide (own_rdm ho.out)
              obtain ⟨a7, c7, rfl⟩ := own_len ho.out
              clear y0
              go_wp2_with (at_builtin; refine wpList_append_own _ rfl _ _ 40 rfl q 43 idl (.slice none 0 0) 1 24 Tryz.underlying40 ki kz0 kz1 kz2 rfl (by decide) _ _ _ rfl (o1.alloc _) ⟨wr.heap.size, 0, none⟩ 1 1 [.slice a7 (m + 100) c7] rfl rfl ?c1 ?c2 ?c3 ?c4 ?c5 ?_)
              case c1 =>
                intro j u hj
                match j, hj with
                | 0, hj => simp at hj; subst hj; simp [Addr.add]
              case c2 => intro u hu; simp at hu; subst hu; rfl
              case c3 => decide
              case c4 => decide
              case c5 => simp; omega
              intro v2 w9 hown9 hgrow9 _
              obtain ⟨q', c', rfl, hc9⟩ := own_some hown9 (by omega)
              have M9 : Hid (Mv W w9 (fun j => j = q ∨ (Value.slice ao m c).ownBlock = some j)) := ((hm2.out.mono (S' := fun j => j = q ∨ (Value.slice ao m c).ownBlock = some j) (fun _ _ e => .inr e)).alloc _).grown hgrow9 (fun j _ e => by
                simp [Value.ownBlock] at e
                exact .inl e.symm)
              have mg := (Mv.of_below (below_alloc wr (.cells #[.slice a7 (m + 100) c7] 43)) (fun j => j = q)).grown hgrow9 (fun j _ e => by simp [Value.ownBlock] at e; exact e.symm)
              have T0 : Hid (w9.cell? ⟨q', 0, none⟩ = some (.slice ao m c)) := (hc9 0 (by omega)).trans rfl
              have T1 : Hid (w9.cell? ⟨q', 1, none⟩ = some (.slice a7 (m + 100) c7)) := (hc9 1 (by omega)).trans rfl
              have T2 : Hid (RdM w9 (.slice ao m c) m) := hrd.out.mv mg (fun j e e2 => HVQ.out j e e2)
              have T3 : Hid (RdM w9 (.slice a7 (m + 100) c7) (m + 100)) := RV.out.mv mg (fun j e e2 => by
                rcases hbl.out j e with h | h
                · omega
                · exact HVQ.out j h e2)
              clear hc9 mg hown9 hgrow9 o1
              go_wp2_with fail
              exact ⟨⟨1, rfl, by omega, .inr ⟨rfl, M9.out, q', c', _, rfl, T0.out, T1.out, T2.out, T3.out⟩⟩, by simp [intOf]⟩
        · have MV := hide hmv
          have FW : Hid (∀ w', Below wr.heap.size wr w' → ∀ i, i < 2 → ∃ u n, w'.cell? ⟨q', i, none⟩ = some u ∧ RdM w' u n) := fun w' hb i hi => by
            have cc := fun (a : Addr) (x : Value) (h : wr.cell? a = some x) => (hb.cell (World.block_lt_of_cell? wr _ h)).trans h
            rcases (show i = 0 ∨ i = 1 by omega) with rfl | rfl
            · exact ⟨_, _, cc _ _ k0, m0.later hb⟩
            · exact ⟨_, _, cc _ _ k1, m1.later hb⟩
          clear hst hmv k0 k1 m0 m1
          rw [show ((1 : Nat) : Int) = 1 from rfl]
          go_wp2_with fail
          go_loopw [9] (fun v9 wx => ∃ i : Nat, v9 = .int .i64 (i : Int) ∧ i ≤ 2 ∧ Hid (Below wr.heap.size wr wx)) (fun v9 _ => 2 - (intOf v9).toNat)
          case atStart => exact ⟨0, rfl, by omega, Below.refl _ _⟩
          case round =>
            obtain ⟨i, rfl, hi2, hb⟩ := hrel
            by_cases hlt2 : i < 2
            · obtain ⟨u, nn, cu, ru⟩ := FW.out wr hb.out i hlt2
              have RU := hide ru
              have CU : Hid (∀ w', Below wr.heap.size wr w' → w'.cell? ⟨q', i, none⟩ = some u) := fun w' h => (h.cell (World.block_lt_of_cell? wr _ cu)).trans cu
              obtain ⟨au, cc, rfl, hn1, hn2, -⟩ := RU.out
              clear ru cu
              have i1 : (i : Int) < 2 := by omega
              go_wp2_with fail
              go_loopw [10] (fun v10 wy => ∃ k : Nat, v10 = .int .i64 (k : Int) ∧ k ≤ nn ∧ Hid (Below wr.heap.size wr wy)) (fun v10 _ => nn - (intOf v10).toNat)
              case atStart => exact ⟨0, rfl, by omega, Below.refl _ _⟩
              case round => as_aux_lemma =>
                obtain ⟨k, rfl, hk, hb2⟩ := hrel
                have cu := CU.out wr hb2.out
                by_cases hk2 : k < nn
                · obtain ⟨g, c2, e, d0, d1⟩ := (RU.out.later hb2.out).at hk2
                  injection e with e1 e2 e3
                  subst e1 e3
                  clear e2
                  have k1 : (k : Int) < (nn : Int) := by omega
                  go_upto_region 24 with fail
                  go_quiet (fail)
                  have B3 := hide (below_on hb2.out (below_drawn wr nq))
                  go_wp2_with fail
                  exact ⟨⟨k + 1, by go_num, by omega, B3.out⟩, by simp [intOf]; omega⟩
                · obtain rfl : k = nn := by omega
                  have B3 := hide (below_on hb.out hb2.out)
                  go_wp2_with fail
                  exact ⟨⟨i + 1, by go_num, by omega, B3.out⟩, by simp [intOf]; omega⟩
            · obtain rfl : i = 2 := by omega
              go_wp2_with fail
              go_ret
              exact ⟨rfl, MV.out.later hb.out⟩
end Go.Proofs.YtpolajoephjdhaaGreatDoor

/-
  CodeLists: what it calls, at its inputs.
-/
namespace Go.Proofs.YtpolajoephjdhaaGreatDoor
open Go.RowKit
set_option maxRecDepth 100000
def mk24 : Ins := ⟨24, 0⟩
def stpI (l : List Ins) (k : Nat) : List Ins := List.replicate k mk24 ++ l.drop k
theorem stpI_len (l : List Ins) (k : Nat) (hk : k ≤ l.length) : (stpI l k).length = l.length := by simp [stpI]; omega
theorem stpI_set (l : List Ins) (k : Nat) (hk : k < l.length) : (stpI l k).set k mk24 = stpI l (k + 1) := by
  unfold stpI
  rw [List.set_append_right _ _ (by simp), List.length_replicate, Nat.sub_self, List.drop_eq_getElem_cons hk, List.set_cons_zero, List.replicate_succ', List.append_assoc]
  rfl
theorem stpI_end (l : List Ins) : stpI l l.length = List.replicate l.length mk24 := by simp [stpI]
theorem rep24_six (n : Nat) : ∀ i ∈ List.replicate n mk24, I6 i.op ∧ I6 i.a := fun i hi => by
  rw [List.mem_replicate] at hi
  rw [hi.2]
  exact ⟨⟨by decide, by decide⟩, ⟨by decide, by decide⟩⟩
theorem own_litI (w : World) : (w.alloc (.cells #[] 56)).ownsRow w.heap.size 56 2 (.slice (some ⟨w.heap.size, 0, none⟩) 0 0) 0 [] :=
  ⟨rfl, .inr ⟨w.heap.size, 0, #[], rfl, Nat.le_refl _, heap_alloc_new w _, Nat.le_refl _, Nat.zero_le _, rfl, rfl⟩⟩
/-- What a text is read as: nothing, if it is wrong. -/
def rtR (x : Nat ⊕ Rt) : Rt := match x with
  | .inl _ => ⟨⟨#[]⟩, 0, 0, []⟩
  | .inr r => r
def atR (x : Nat ⊕ Rt) : Int := match x with
  | .inl a => (a : Int)
  | .inr _ => 0
def erR (x : Nat ⊕ Rt) : Int := match x with
  | .inl _ => 130
  | .inr _ => 0
def okR (x : Nat ⊕ Rt) : Bool := match x with
  | .inl _ => false
  | .inr _ => true
/-- An error that Read hands back. -/
def ErV (w : World) (x : Nat ⊕ Rt) (ev : Value) : Prop := match x with
  | .inl a => ∃ N, ev = .iface 74 (.pointer (some ⟨N, 0, none⟩)) ∧ w.heap[N]? = some (.cells #[.int .i64 (a : Int), .int .i64 130] 76 (0, 0))
  | .inr _ => ev = .nilIface
theorem ErV.later {w w' : World} {x : Nat ⊕ Rt} {ev : Value} (h : ErV w x ev) (hb : Below w.heap.size w w') : ErV w' x ev := by
  cases x with
  | inl a =>
    obtain ⟨N, h1, h2⟩ := h
    exact ⟨N, h1, (hb.block N (lt_of_block h2)).trans h2⟩
  | inr r => exact h
theorem ErV.fault {w : World} {x : Nat ⊕ Rt} {ev : Value} (h : ErV w x ev) : Calls Tryz.prog 8 #[ev] w fun e w' => e = .returned (.tuple #[.int .i64 (atR x), .int .i64 (erR x), .bool true]) ∧ Below w.heap.size w w' := by
  cases x with
  | inl a =>
    obtain ⟨N, rfl, h2⟩ := h
    exact fault_some (a := a) (er := 130) h2 (by decide)
  | inr r =>
    obtain rfl : ev = .nilIface := h
    refine (fault_none w).mono ?_
    rintro e w' ⟨rfl, rfl⟩
    exact ⟨rfl, Below.refl _ _⟩
theorem ErV.nil {w : World} {x : Nat ⊕ Rt} {ev : Value} (h : ErV w x ev) : (okR x = true ∧ ev = .nilIface) ∨ (okR x = false ∧ ∃ N, ev = .iface 74 (.pointer (some ⟨N, 0, none⟩))) := by
  cases x with
  | inl a =>
    obtain ⟨N, rfl, -⟩ := h
    exact .inr ⟨rfl, N, rfl⟩
  | inr r => exact .inl ⟨rfl, h⟩
theorem rd_all {W : World} {x : Nat ⊕ Rt} {e : Ending} {w' : World} (h : RdOut W x e w') : Below W.heap.size W w' ∧ ∃ ao c ev, e = .returned (.tuple #[.agg #[.string (rtR x).name, .int .i64 (rtR x).pa, .int .i64 (rtR x).lo, .slice ao (rtR x).code.length c], ev]) ∧ w'.ownsRow W.heap.size 56 2 (.slice ao (rtR x).code.length c) (rtR x).code.length (insC (rtR x).code) ∧ ErV w' x ev := by
  obtain ⟨h1, h2⟩ := h
  cases x with
  | inl a =>
    obtain ⟨N, h3, -, h4⟩ := h2
    exact ⟨h1, none, 0, _, h3, ⟨rfl, .inl ⟨rfl, rfl⟩⟩, N, rfl, h4⟩
  | inr r =>
    obtain ⟨vc, h3, h4⟩ := h2
    obtain ⟨ao, c, rfl⟩ := own_len h4
    exact ⟨h1, ao, c, _, h3, h4, rfl⟩
theorem dr_all {W : World} {x : Nat ⊕ Rt} {e : Ending} {w' : World} (h : DrOut W x e w') : Below W.heap.size W w' ∧ ∃ ao c, e = .returned (.tuple #[.agg #[.string (rtR x).name, .int .i64 (rtR x).pa, .int .i64 (rtR x).lo, .slice ao (rtR x).code.length c], .int .i64 (atR x), .int .i64 (erR x)]) ∧ w'.ownsRow W.heap.size 56 2 (.slice ao (rtR x).code.length c) (rtR x).code.length (insC (rtR x).code) := by
  obtain ⟨h1, h2⟩ := h
  cases x with
  | inl a => exact ⟨h1, none, 0, h2, ⟨rfl, .inl ⟨rfl, rfl⟩⟩⟩
  | inr r =>
    obtain ⟨vc, h3, h4⟩ := h2
    obtain ⟨ao, c, rfl⟩ := own_len h4
    exact ⟨h1, ao, c, h3, h4⟩
theorem rtR_ok (L : List UInt8) : (rtR (readF L)).code.length ≤ 2000 ∧ ∀ i ∈ (rtR (readF L)).code, I6 i.op ∧ I6 i.a := by
  cases h : readF L with
  | inl a => exact ⟨by simp [rtR], fun i hi => by simp [rtR] at hi⟩
  | inr r =>
    obtain ⟨-, -, -, h4, h5⟩ := list_read h
    exact ⟨(lstOk_code h5).1, h4⟩
end Go.Proofs.YtpolajoephjdhaaGreatDoor
