/-
  The owner's fill (function 19): all are written full with a mark of their own, then all are grown.
-/
import Derived.Test.YtoccbeefmagklaaFillLaws
import Derived.Deep.RegionLaw
namespace Go.Proofs.Ytoccbeefmagklaa
open Go.RowKit

set_option maxHeartbeats 4000000 in
set_option maxRecDepth 100000 in
theorem fill_any (go gk ck N B : Nat) (vs : Nat → Value) (ns : Nat → Nat) (w : World) (hN : N ≤ 100) (hNk : N ≤ ck) (hck : ck ≤ maxLen) (hB : B ≤ w.heap.size)
    (hgo : B ≤ go) (hgol : go < w.heap.size) (hgk : B ≤ gk) (hgkl : gk < w.heap.size) (hgg : go ≠ gk)
    (ho : w.cell? ⟨go, 0, none⟩ = some (.slice none 0 0)) (hof : w.heap[go]? = some (.cells #[.slice none 0 0] 29 (0, 0)))
    (hk : ∀ j, j < N → w.cell? ⟨gk, j, none⟩ = some (vs j))
    (hv : ∀ j, j < N → ∃ xs, w.ownsRow B 5 1 (vs j) (ns j) xs) (hns : ∀ j, j < N → ns j ≤ 140737488351232)
    (hvo : ∀ j, j < N → (vs j).ownBlock ≠ some go ∧ (vs j).ownBlock ≠ some gk) (hvv : ∀ i j, i < N → j < N → i ≠ j → Ap (vs i) (vs j)) :
    Calls Try.prog 19 #[.pointer (some ⟨go, 0, none⟩), .slice (some ⟨gk, 0, none⟩) N ck] w fun e w' => e = .returned (.tuple #[]) ∧ Filled w w' B go gk N vs ns := by
  obtain ⟨i0, hi0, hz0, hz1, hz2⟩ := info_parts info65
  obtain ⟨i5, hi5, h50, h51, h52⟩ := info_parts info5
  have HO := hide ho
  have HK := hide hk
  have HV := hide hv
  have HNS := hide hns
  have HVO := hide hvo
  have HVV := hide hvv
  have HOF := hide hof
  clear hk hv hns hvo hvv hof
  unfold maxLen at hck
  go_enter Try.func19, Try.ntmps19
  go_wp2
  clear ho
  go_loopw [5] (fun v5 wr => ∃ (i : Nat) (vo : Value), i ≤ N ∧ v5 = .int .i64 i ∧ Hid (Rest w wr B go gk i vs (· + 1) vo) ∧ Hid (∀ j, j < N → ∃ xs, wr.ownsRow B 5 1 (vs j) (ns j) xs ∧ (j < i → xs = List.replicate (ns j) (Value.int .u8 (j + 1 : Nat)))) ∧ Hid (∀ j, j < N → Ap (vs j) vo)) (fun v5 _ => N - (intOf v5).toNat)
  case atStart => exact ⟨0, .slice none 0 0, Nat.zero_le _, rfl, ⟨World.ownsRow_nil _ _ _ _, HOF.out, rfl, Below.refl _ _, by simp [Value.ownBlock], by simp [Value.ownBlock]⟩, fun j hj => by obtain ⟨xs, hx⟩ := HV.out j hj; exact ⟨xs, hx, by omega⟩, fun j hj g hg he => by simp [Value.ownBlock] at he⟩
  case round =>
    obtain ⟨i, vo, hi, rfl, Or, Oa, Op⟩ := hrel
    obtain ⟨aoo, co, hvo, hvl, hvc⟩ : ∃ ao c, vo = .slice ao i c ∧ i ≤ c ∧ c ≤ maxLen := by
      rcases Or.out.1.2 with ⟨rfl, h0⟩ | ⟨g, cap, cur, rfl, h1, h2, h3, h4, h5⟩
      · exact ⟨none, 0, by rw [h0], by omega, Nat.zero_le _⟩
      · exact ⟨_, _, rfl, h3, h4⟩
    by_cases hlt : i < N
    · have hkc : wr.cell? ⟨gk, i, none⟩ = some (vs i) := (World.cell?_of_block Or.out.2.2.1).trans (HK.out i hlt)
      have e1 : (i : Int) < (N : Int) := by omega
      have hcc : wr.cell? ⟨go, 0, none⟩ = some vo := by rw [cell_of_row wr go 0 _ 29 (0, 0) Or.out.2.1]; rfl
      rw [hvo] at hcc
      have HVo := hide hvo
      clear hvo
      obtain ⟨xs, hx, hxf⟩ := Oa.out i hlt
      obtain ⟨aov, cv, hvs, hvsl, hvsc, hvsg⟩ : ∃ ao c, vs i = .slice ao (ns i) c ∧ ns i ≤ c ∧ c ≤ maxLen ∧ (0 < ns i → ∃ g, ao = some ⟨g, 0, none⟩ ∧ B ≤ g) := by
        rcases hx.2 with ⟨h, h0⟩ | ⟨g, cap, cur, h, h1, h2, h3, h4, h5⟩
        · exact ⟨none, 0, by rw [h, h0], by omega, Nat.zero_le _, by omega⟩
        · exact ⟨_, _, h, h3, h4, fun _ => ⟨g, rfl, h1⟩⟩
      have hni := HNS.out i hlt
      unfold maxLen at hvsc hvc
      rw [hvs] at hkc hx
      have HX := hide hx
      have hxl := hx.1
      have HVG := hide hvsg
      have HVS := hide hvs
      clear hx hxf hvsg hvs
      go_wp2
      go_loopw [7] (fun v7 wr' => ∃ k : Nat, k ≤ ns i ∧ v7 = .int .i64 k ∧ Hid (Rest w wr' B go gk i vs (· + 1) vo) ∧ Hid (∀ j, j < N → j ≠ i → ∃ xs, wr'.ownsRow B 5 1 (vs j) (ns j) xs ∧ (j < i → xs = List.replicate (ns j) (Value.int .u8 (j + 1 : Nat)))) ∧ Hid (wr'.ownsRow B 5 1 (.slice aov (ns i) cv) (ns i) (List.replicate k (Value.int .u8 (i + 1 : Nat)) ++ xs.drop k))) (fun v7 _ => ns i - (intOf v7).toNat)
      case atStart => exact ⟨0, Nat.zero_le _, rfl, Or.out, fun j hj _ => Oa.out j hj, by rw [List.replicate_zero, List.nil_append, List.drop_zero]; exact HX.out⟩
      case round =>
        clear Or Oa HX hkc hcc
        obtain ⟨k, hk, rfl, Or, Oa, HX⟩ := hrel
        have hkc : wr.cell? ⟨gk, i, none⟩ = some (.slice aov (ns i) cv) := by rw [← HVS.out]; exact (World.cell?_of_block Or.out.2.2.1).trans (HK.out i hlt)
        by_cases hkl : k < ns i
        · obtain ⟨g, rfl, hBg⟩ := HVG.out (by omega)
          have hcl := HX.out.cellAt k (by omega)
          have hfz := HX.out.frozenAt k
          obtain ⟨y, hy⟩ : ∃ y, (List.replicate k (Value.int .u8 (i + 1 : Nat)) ++ xs.drop k)[k]? = some y := ⟨_, List.getElem?_eq_getElem (by simp; omega)⟩
          rw [hy] at hcl
          have hst := hide (HX.out.stored k (.int .u8 (i + 1 : Nat))).1
          rw [fill8_step xs (i + 1) (by omega)] at hst
          have e2 : (k : Int) < (ns i : Int) := by omega
          have hob : (vs i).ownBlock = some g := by rw [HVS.out]; rfl
          have R' := hide (Or.out.set (g := g) (k := k) hBg (fun e => (HVO.out i hlt).1 (by rw [hob, e])) (fun e => (HVO.out i hlt).2 (by rw [hob, e])) (Op.out i hlt g hob) (.int .u8 (i + 1 : Nat)))
          have A' : Hid (∀ j, j < N → j ≠ i → ∃ xs, (wr.setCell ⟨g, k, none⟩ (.int .u8 (i + 1 : Nat))).ownsRow B 5 1 (vs j) (ns j) xs ∧ (j < i → xs = List.replicate (ns j) (Value.int .u8 (j + 1 : Nat)))) := fun j hj hne => by
            obtain ⟨ys, h1, h2⟩ := Oa.out j hj hne
            exact ⟨ys, ownsRow_setCell_other h1 (HVV.out i j hlt hj (Ne.symm hne) g hob) _, h2⟩
          clear hy Or Oa HX
          have en : ((i + 1 : Nat) : Int) = (i : Int) + 1 := rfl
          rw [en] at hst R' A'
          go_wp2
          go_roundw
          case rel => exact ⟨k + 1, by omega, by go_num, R'.out, A'.out, hst.out⟩
          case measure => simp [intOf]; omega
        · obtain rfl : ns i = k := by omega
          have hcc : wr.cell? ⟨go, 0, none⟩ = some vo := by rw [cell_of_row wr go 0 _ 29 (0, 0) Or.out.2.1]; rfl
          have hfz : wr.frozen? ⟨go, 0, none⟩ = false := frozen_of_row wr go 0 _ 29 Or.out.2.1
          have e2 : ¬ (ns i : Int) < (ns i : Int) := by omega
          go_wp2
          have hsw := Or.out.2.2.2.1.size
          have hgw : go < wr.heap.size := by omega
          have K9 : Hid (∀ w9 : World, World.grownBy (wr.drew.alloc (.cells #[.slice aov (ns i) cv, .int .u8 ((i : Int) + 1)] 65)) w9 vo.ownBlock → w9.heap[go]? = some (.cells #[vo] 29 (0, 0))) := fun w9 hg =>
            (hg.block go (Nat.lt_of_lt_of_le hgw (by simp)) (fun e => Or.out.2.2.2.2.1 e.symm)).trans ((Go.heap_alloc_old wr.drew _ hgw).trans Or.out.2.1)
          have hvon := hide (World.ownsRow.alloc (w := wr.drew) Or.out.1 (.cells #[.slice aov (ns i) cv, .int .u8 ((i : Int) + 1)] 65))
          go_region_law (refine step_append_lies _ rfl (.tmp 50) (.tmp 57) 27 rfl B 65 i0 (.agg #[.slice none 0 0, .int .u8 0]) 2 32 Try.underlying27 hi0 hz0 hz1 hz2 rfl (by decide) vo i (ents vs (· + 1) i) (by simp [Act.eval]) hvon.out ⟨wr.heap.size, 0, none⟩ 1 1 [.slice aov (ns i) cv, .int .u8 ((i : Int) + 1)] (by simp [Act.eval]) rfl (by intro j u hj; match j, hj with | 0, hj => simp at hj; subst hj; simp [Addr.add] | 1, hj => simp at hj; subst hj; simp [Addr.add]) (by intro u hu; simp at hu; rcases hu with rfl | rfl <;> rfl) (by omega) (by unfold maxLen; omega) (by omega) (by simp; omega) _ rfl ?_; intro g9 cap9 w9 hown9 hgrow9 hat9 hlt9; have h9 := hide (K9.out w9 hgrow9); have hc9 : w9.cell? ⟨go, 0, none⟩ = some vo := (cell_of_row w9 go 0 _ 29 (0, 0) h9.out).trans rfl; have hf9 : w9.frozen? ⟨go, 0, none⟩ = false := frozen_of_row w9 go 0 _ 29 h9.out)
          all_goals
            have HW : Hid (Rest w (w9.setCell ⟨go, 0, none⟩ (.slice (some ⟨g9, 0, none⟩) (i + 1) cap9)) B go gk (i + 1) vs (· + 1) (.slice (some ⟨g9, 0, none⟩) (i + 1) cap9) ∧ (∀ j, j < N → ∃ xs, (w9.setCell ⟨go, 0, none⟩ (.slice (some ⟨g9, 0, none⟩) (i + 1) cap9)).ownsRow B 5 1 (vs j) (ns j) xs ∧ (j < i + 1 → xs = List.replicate (ns j) (Value.int .u8 (j + 1 : Nat)))) ∧ ∀ j, j < N → Ap (vs j) (.slice (some ⟨g9, 0, none⟩) (i + 1) cap9)) := by
              have R := Or.out
              have hn9 : ∀ x, vo.ownBlock ≠ some x → x < wr.heap.size → g9 ≠ x := fun x h1 h2 h3 => by
                rcases hat9 with h | h
                · exact h1 (h3 ▸ h)
                · simp at h
                  omega
              have ng := hn9 go R.2.2.2.2.1 hgw
              have nk := hn9 gk R.2.2.2.2.2 (by omega)
              have keep : ∀ (j n : Nat) (xs : List Value), j < N → wr.ownsRow B 5 1 (vs j) n xs → (w9.setCell ⟨go, 0, none⟩ (.slice (some ⟨g9, 0, none⟩) (i + 1) cap9)).ownsRow B 5 1 (vs j) n xs := fun j n xs hj h =>
                ownsRow_setCell_other ((Op.out j hj).kept (World.ownsRow.alloc (w := wr.drew) h _) hgrow9) (HVO.out j hj).1 _
              have hob : ∀ j, j < N → ∃ xs, wr.ownsRow B 5 1 (vs j) (ns j) xs ∧ (j < i + 1 → xs = List.replicate (ns j) (Value.int .u8 (j + 1 : Nat))) := fun j hj => by
                by_cases hji : j = i
                · subst hji
                  refine ⟨_, by rw [HVS.out]; exact HX.out, fun _ => ?_⟩
                  rw [List.drop_eq_nil_of_le (by omega), List.append_nil]
                · obtain ⟨ys, h1, h2⟩ := Oa.out j hj hji
                  exact ⟨ys, h1, fun h => h2 (by omega)⟩
              refine ⟨⟨?_, ?_, ?_, ?_, ?_, ?_⟩, ?_, ?_⟩
              · refine ownsRow_setCell_other ?_ (by simp [Value.ownBlock]; exact ng) _
                have e : ents vs (· + 1) (i + 1) = ents vs (· + 1) i ++ [.slice aov (ns i) cv, .int .u8 ((i : Int) + 1)] := by
                  rw [← HVS.out]
                  rfl
                rw [e]
                exact hown9
              · rw [heap_setCell_same w9 go 0 _ 29 _ h9.out]
                rfl
              · exact (heap_setCell_other w9 ⟨go, 0, none⟩ gk _ (Ne.symm hgg)).trans ((hgrow9.block gk (Nat.lt_of_lt_of_le (show gk < wr.heap.size by omega) (by simp)) (fun e => R.2.2.2.2.2 e.symm)).trans ((Go.heap_alloc_old wr.drew _ (show gk < wr.heap.size by omega)).trans R.2.2.1))
              · exact ((((R.2.2.2.1.trans (⟨rfl, rfl, rfl, Nat.le_refl _, fun _ _ => rfl⟩ : Below B wr wr.drew)).alloc (show B ≤ wr.heap.size by omega) _).grown hgrow9 (Nat.le_trans (show B ≤ wr.heap.size by omega) (by simp)) (fun q hq => (R.1.lt q hq).1)).setCell (p := ⟨go, 0, none⟩) hgo _)
              · simp [Value.ownBlock]
                exact ng
              · simp [Value.ownBlock]
                exact nk
              · intro j hj
                obtain ⟨ys, h1, h2⟩ := hob j hj
                exact ⟨ys, keep j _ _ hj h1, h2⟩
              · intro j hj
                obtain ⟨ys, h1, h2⟩ := hob j hj
                refine (Op.out j hj).next (H := (wr.drew.alloc (.cells #[.slice aov (ns i) cv, .int .u8 ((i : Int) + 1)] 65)).heap.size) (fun g hg => Nat.lt_of_lt_of_le (h1.lt g hg).2 (by simp)) ?_
                rcases hat9 with h | h
                · exact .inl h.symm
                · exact .inr (by rw [h]; rfl)
            clear Or Oa Op HX h9 hown9 hgrow9 hat9 K9 hvon
            go_wp2
            go_roundw
            case rel => exact ⟨i + 1, _, by omega, by go_num, HW.out.1, HW.out.2.1, HW.out.2.2⟩
            case measure => simp [intOf]; omega
    · obtain rfl : N = i := by omega
      have hcc : wr.cell? ⟨go, 0, none⟩ = some vo := by rw [cell_of_row wr go 0 _ 29 (0, 0) Or.out.2.1]; rfl
      rw [hvo] at hcc
      have HA : Hid (All2 w wr B go gk N 0 vs ns vs (· + 1) vo) := by
        have full : ∀ j, j < N → Full8 wr B (vs j) (ns j) (j + 1) := fun j hj => by
          obtain ⟨xs, h1, h2⟩ := Oa.out j hj
          rw [h2 hj] at h1
          exact h1
        exact ⟨Or.out, fun j hj => (full j hj).read, fun j _ hj => full j hj, fun j hj => by omega, Op.out, fun j hj => by omega, fun j hj => by omega, fun j hj => by omega, fun j hj g hg => ((full j hj).lt g hg).2, fun j _ => ⟨rfl, rfl⟩, fun j hj => by omega⟩
      have e1 : ¬ (N : Int) < (N : Int) := by omega
      clear Or Oa Op hvo
      unfold maxLen at hvc
      go_wp2
      clear hcc
      go_loopw [9] (fun v9 wr' => ∃ (i : Nat) (vo : Value) (ev : Nat → Value) (em : Nat → Nat), i ≤ N ∧ v9 = .int .i64 i ∧ Hid (All2 w wr' B go gk N i vs ns ev em vo)) (fun v9 _ => N - (intOf v9).toNat)
      case atStart => exact ⟨0, vo, vs, (· + 1), Nat.zero_le _, rfl, HA.out⟩
      case round =>
        clear HA hvl hvc
        obtain ⟨i, vo, ev, em, hi, rfl, HA⟩ := hrel
        by_cases hlt : i < N
        · have e2 : (i : Int) < (N : Int) := by omega
          obtain ⟨gv, cv, hvo, hBv, hcl, hcm⟩ : ∃ g c, vo = .slice (some ⟨g, 0, none⟩) (N + i) c ∧ B ≤ g ∧ N + i ≤ c ∧ c ≤ maxLen := by
            rcases HA.out.1.1.2 with ⟨_, h0⟩ | ⟨g, cap, cur, h, h1, h2, h3, h4, h5⟩
            · omega
            · exact ⟨g, cap, h, h1, h3, h4⟩
          have hcc : wr.cell? ⟨go, 0, none⟩ = some vo := by rw [cell_of_row wr go 0 _ 29 (0, 0) HA.out.1.2.1]; rfl
          have hen := ents_at ev em (N + i) i (by omega)
          have hown := HA.out.1.1
          rw [hvo] at hcc hown
          have hc1 := hown.cellAt (i * 2) (by omega)
          have hc2 := hown.cellAt (i * 2 + 1) (by omega)
          rw [hen.1, (HA.out.2.2.2.2.2.2.2.2.2.1 i hlt).1] at hc1
          rw [hen.2, (HA.out.2.2.2.2.2.2.2.2.2.1 i hlt).2] at hc2
          unfold maxLen at hcm
          have HVo := hide hvo
          obtain ⟨aov, cvs, hvs, hvsl, hvsc⟩ : ∃ ao c, vs i = .slice ao (ns i) c ∧ ns i ≤ c ∧ c ≤ maxLen := by
            rcases (HA.out.2.2.1 i (Nat.le_refl _) hlt).2 with ⟨h, h0⟩ | ⟨g, cap, cur, h, h1, h2, h3, h4, h5⟩
            · exact ⟨none, 0, by rw [h, h0], by omega, Nat.zero_le _⟩
            · exact ⟨_, _, h, h3, h4⟩
          rw [hvs] at hc1
          unfold maxLen at hvsc
          have HVS := hide hvs
          have hni := HNS.out i hlt
          clear hen hown hvo hvs
          go_wp2
          have hsz := HA.out.1.2.2.2.1.size
          have F1 : Hid (∀ j, j < N → ∀ g, (vs j).ownBlock = some g → g < wr.heap.size) := HA.out.2.2.2.2.2.2.2.2.1
          have F2 : Hid (∀ j, j < i → ∀ g, (ev (N + j)).ownBlock = some g → g < wr.heap.size) := fun j hj g hg => ((HA.out.2.2.2.1 j hj).lt g hg).2
          have F3 : Hid (∀ g, vo.ownBlock = some g → g < wr.heap.size) := fun g hg => (HA.out.1.1.lt g hg).2
          have O0 := hide ((HA.out.oth hlt HVO.out HVV.out).alloc (by omega) (by omega) (by omega) (.cells #[.slice aov (ns i) cvs, .int .u8 ((i : Int) + 1)] 65))
          have G0 : Hid ((wr.alloc (.cells #[.slice aov (ns i) cvs, .int .u8 ((i : Int) + 1)] 65)).heap[wr.heap.size]? = some (.cells #[vs i, .int .u8 ((i : Int) + 1)] 65 (0, 0))) := by rw [HVS.out]; exact heap_alloc_new wr _
          have L0 : Hid (Full8 (wr.alloc (.cells #[.slice aov (ns i) cvs, .int .u8 ((i : Int) + 1)] 65)) B (vs i) (ns i) (i + 1)) := World.ownsRow.alloc (HA.out.2.2.1 i (Nat.le_refl _) hlt) _
          have S0 : wr.heap.size < (wr.alloc (.cells #[.slice aov (ns i) cvs, .int .u8 ((i : Int) + 1)] 65)).heap.size := by simp
          have hgo2 : go < wr.heap.size := by omega
          have hgk2 : gk < wr.heap.size := by omega
          have hB2 : B ≤ wr.heap.size := by omega
          generalize hW0 : (wr.alloc (.cells #[.slice aov (ns i) cvs, .int .u8 ((i : Int) + 1)] 65)) = W0 at *
          clear hW0
          have F5 : Hid (∀ j, j < i → (ev (N + j)).ownBlock ≠ some go ∧ (ev (N + j)).ownBlock ≠ some gk) := HA.out.2.2.2.2.2.2.2.1
          have F6 : Hid (∀ j, j < i → ∀ k, i ≤ k → k < N → Ap (vs k) (ev (N + j))) := HA.out.2.2.2.2.2.2.1
          have F7 : Hid (∀ j, j < N → Ap (vs j) vo) := HA.out.2.2.2.2.1
          have F8 : Hid (∀ j, j < i → Ap (ev (N + j)) vo) := HA.out.2.2.2.2.2.1
          have F9 : Hid ((∀ j, j < N → ev j = vs j ∧ em j = j + 1) ∧ (∀ j, j < i → em (N + j) = j + 1)) := ⟨HA.out.2.2.2.2.2.2.2.2.2.1, HA.out.2.2.2.2.2.2.2.2.2.2⟩
          clear HA hcc hc1 hc2
          generalize wr.heap.size = gw at *
          go_loopw [11] (fun v11 wr' => ∃ (k : Nat) (y : Value), k ≤ 70 ∧ v11 = .int .i64 k ∧ Hid (Oth w wr' B go gk N i vs ns ev em vo y) ∧ Hid (wr'.heap[gw]? = some (.cells #[y, .int .u8 ((i : Int) + 1)] 65 (0, 0))) ∧ Hid (Full8 wr' B y (ns i + k) (i + 1)) ∧ Hid (Read8 wr' (vs i) (ns i) (i + 1)) ∧ Hid (y.ownBlock ≠ some gw) ∧ gw < wr'.heap.size) (fun v11 _ => 70 - (intOf v11).toNat)
          case atStart => exact ⟨0, vs i, Nat.zero_le _, rfl, O0.out, G0.out, L0.out, L0.out.read, fun he => by have := F1.out i hlt gw he; omega, S0⟩
          case round =>
            clear O0 G0 L0 S0
            obtain ⟨k, y, hk, rfl, O1, G1, L1, R1, Y1, S1⟩ := hrel
            have hy0 : wr.cell? ⟨gw, 0, none⟩ = some y := by rw [cell_of_row wr gw 0 _ 65 (0, 0) G1.out]; rfl
            have hy1 : wr.cell? ⟨gw, 1, none⟩ = some (.int .u8 ((i : Int) + 1)) := by rw [cell_of_row wr gw 1 _ 65 (0, 0) G1.out]; rfl
            by_cases hk7 : k < 70
            · have e3 : (k : Int) < 70 := by omega
              have L2 : wr.ownsRow B 5 1 y (ns i + k) (List.replicate (ns i + k) (Value.int .u8 ((i + 1 : Nat) : Int))) := L1.out
              go_wp2_with (at_builtin; refine wpList_append_keep rfl _ _ 22 rfl B 5 i5 (.int .u8 0) 1 1 Try.underlying22 hi5 h50 h51 h52 rfl (by decide) _ _ _ rfl (L2.alloc _) ⟨wr.heap.size, 0, none⟩ 1 1 [Value.int .u8 ((i + 1 : Nat) : Int)] rfl rfl ?c1 ?c2 ?c3 ?c4 ?c5 ?_)
              case c1 => first | exact cell_one_new _ _ _ | (intro j u hj; match j, hj with | 0, hj => simp at hj; subst hj; simp [Addr.add])
              case c2 => first | rfl | (intro u hu; simp at hu; subst hu; rfl) | simp [Value.oneCell']
              case c3 => unfold maxLen; omega
              case c4 => omega
              case c5 => simp; omega
              intro y' w1 hown' hgrow hat hkeep
              have hBk : ∀ q, y.ownBlock = some q → B ≤ q := fun q hq => (L2.lt q hq).1
              have hal : (wr.alloc (.cells #[.int .u8 ((i : Int) + 1)] 5)).heap.size = wr.heap.size + 1 := by simp
              have ny : y'.ownBlock ≠ some gw := fun he => by
                rcases hat with h | h
                · exact Y1.out (h ▸ he)
                · rw [h] at he
                  have := Option.some.inj he
                  omega
              obtain ⟨gy, cy, hyf⟩ : ∃ g c, y' = .slice (some ⟨g, 0, none⟩) (ns i + k + 1) c := by
                rcases hown'.2 with ⟨_, h0⟩ | ⟨g, cap, cur, h, _⟩
                · omega
                · exact ⟨g, cap, h⟩
              have hw1g : w1.heap[gw]? = some (.cells #[y, .int .u8 ((i : Int) + 1)] 65 (0, 0)) := (hgrow.block gw (Nat.lt_of_lt_of_le S1 (by simp)) (fun e => Y1.out e.symm)).trans ((Go.heap_alloc_old wr _ S1).trans G1.out)
              have hsz1 := O1.out.1.2.2.2.1.size
              have T1 : Hid (Oth w (w1.setCell ⟨gw, 0, none⟩ y') B go gk N i vs ns ev em vo y') := O1.out.step (by omega) hgo2 hgk2 S1 hB2 hgrow (by rw [hal]; exact hat) hBk F1.out F2.out F3.out
              have T2 : Hid ((w1.setCell ⟨gw, 0, none⟩ y').heap[gw]? = some (.cells #[y', .int .u8 ((i : Int) + 1)] 65 (0, 0))) := by
                rw [heap_setCell_same w1 gw 0 _ 65 _ hw1g]
                rfl
              have T3 : Hid (Full8 (w1.setCell ⟨gw, 0, none⟩ y') B y' (ns i + k + 1) (i + 1)) := ownsRow_setCell_other (Full8.snoc hown') ny _
              have T4 : Hid (Read8 (w1.setCell ⟨gw, 0, none⟩ y') (vs i) (ns i) (i + 1)) := by
                refine Read8.set ?_ (fun he => by have := F1.out i hlt gw he; omega) _
                intro g j hg hj
                have h1 := (R1.out.alloc (.cells #[.int .u8 ((i : Int) + 1)] 5)) g j hg hj
                by_cases hsame : y.ownBlock = some g
                · exact (hkeep g j hsame (by omega)).trans h1
                · exact hgrow.cell h1 (fun he => hsame he.symm)
              have S2 : gw < (w1.setCell ⟨gw, 0, none⟩ y').heap.size := by
                have := hgrow.size
                simp
                omega
              have hc0 : w1.cell? ⟨gw, 0, none⟩ = some y := by rw [cell_of_row w1 gw 0 _ 65 (0, 0) hw1g]; rfl
              have hf0 : w1.frozen? ⟨gw, 0, none⟩ = false := frozen_of_row w1 gw 0 _ 65 hw1g
              clear O1 G1 L1 R1 Y1 S1 hy0 hy1 L2 hown' hgrow hat hkeep hw1g hal
              have NY := hide ny
              clear ny
              subst hyf
              go_wp2
              go_roundw
              case rel => exact ⟨k + 1, _, by omega, by go_num, T1.out, T2.out, T3.out, T4.out, NY.out, S2⟩
              case measure => simp [intOf]; omega
            · obtain rfl : k = 70 := by omega
              rw [show ((70 : Nat) : Int) = 70 from rfl]
              have R := O1.out.1
              have hsw := R.2.2.2.1.size
              have hgw2 : go < wr.heap.size := by omega
              have hcc : wr.cell? ⟨go, 0, none⟩ = some vo := by rw [cell_of_row wr go 0 _ 29 (0, 0) R.2.1]; rfl
              have hfz : wr.frozen? ⟨go, 0, none⟩ = false := frozen_of_row wr go 0 _ 29 R.2.1
              obtain ⟨gy, cy, hyf⟩ : ∃ g c, y = .slice (some ⟨g, 0, none⟩) (ns i + 70) c := by
                rcases L1.out.2 with ⟨_, h0⟩ | ⟨g, cap, cur, h, _⟩
                · omega
                · exact ⟨g, cap, h⟩
              have K9 : Hid (∀ w9 : World, World.grownBy (wr.drew.alloc (.cells #[y, .int .u8 ((i : Int) + 1)] 65)) w9 vo.ownBlock → w9.heap[go]? = some (.cells #[vo] 29 (0, 0))) := fun w9 hg =>
                (hg.block go (Nat.lt_of_lt_of_le hgw2 (by simp)) (fun e => R.2.2.2.2.1 e.symm)).trans ((Go.heap_alloc_old wr.drew _ hgw2).trans R.2.1)
              have hvon := hide (World.ownsRow.alloc (w := wr.drew) R.1 (.cells #[y, .int .u8 ((i : Int) + 1)] 65))
              clear R
              have HYF := hide hyf
              rw [hyf] at hy0 K9 hvon
              clear hyf
              go_wp2
              go_region_law (refine step_append_lies _ rfl (.tmp 94) (.tmp 96) 27 rfl B 65 i0 (.agg #[.slice none 0 0, .int .u8 0]) 2 32 Try.underlying27 hi0 hz0 hz1 hz2 rfl (by decide) vo (N + i) (ents ev em (N + i)) (by simp [Act.eval]) hvon.out ⟨wr.heap.size, 0, none⟩ 1 1 [.slice (some ⟨gy, 0, none⟩) (ns i + 70) cy, .int .u8 ((i : Int) + 1)] (by simp [Act.eval]) rfl (by intro j u hj; match j, hj with | 0, hj => simp at hj; subst hj; simp [Addr.add] | 1, hj => simp at hj; subst hj; simp [Addr.add]) (by intro u hu; simp at hu; rcases hu with rfl | rfl <;> rfl) (by omega) (by unfold maxLen; omega) (by omega) (by simp; omega) _ rfl ?_; intro g9 cap9 w9 hown9 hgrow9 hat9 hlt9; have h9 := hide (K9.out w9 hgrow9); have hc9 : w9.cell? ⟨go, 0, none⟩ = some vo := (cell_of_row w9 go 0 _ 29 (0, 0) h9.out).trans rfl; have hf9 : w9.frozen? ⟨go, 0, none⟩ = false := frozen_of_row w9 go 0 _ 29 h9.out)
              all_goals
                have HN : Hid (All2 w (w9.setCell ⟨go, 0, none⟩ (.slice (some ⟨g9, 0, none⟩) (N + i + 1) cap9)) B go gk N (i + 1) vs ns (fun j => if j = N + i then y else ev j) (fun j => if j = N + i then i + 1 else em j) (.slice (some ⟨g9, 0, none⟩) (N + i + 1) cap9)) :=
                  All2.next O1.out hlt (by omega) hgo hgg hgo2 hgk2 S1 L1.out R1.out hgrow9 hat9 (by rw [HYF.out]; exact hown9) F1.out F2.out F5.out F6.out F7.out F8.out F9.out HVO.out
                clear O1 G1 L1 R1 Y1 K9 hvon hown9 hgrow9 hat9 h9
                go_wp2
                go_roundw
                case rel => exact ⟨i + 1, _, _, _, by omega, by go_num, HN.out⟩
                case measure => simp [intOf]; omega
        · obtain rfl : N = i := by omega
          have e2 : ¬ (N : Int) < (N : Int) := by omega
          go_wp2
          go_end0
          have A := HA.out
          exact ⟨rfl, vo, ev, em, A.1, fun j hj => ⟨(A.2.2.2.2.2.2.2.2.2.1 j hj).1, (A.2.2.2.2.2.2.2.2.2.1 j hj).2, A.2.2.2.2.2.2.2.2.2.2 j hj⟩, A.2.1, A.2.2.2.1⟩
end Go.Proofs.Ytoccbeefmagklaa
