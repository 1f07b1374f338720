/-
  The law's fill, of entities.
-/
import Derived.Test.YtejbdhbphbgckaaFil2
namespace Go.Proofs.Ytejbdhbphbgckaa
open Go.RowKit
set_option maxHeartbeats 40000000 in
set_option maxRecDepth 1000000 in
theorem fill_ents (gw ga ca : Nat) (x : Four) (S H : Nat → Prop) (L : List Held) (Vs : List (Value × Nat)) (w : World) (hw : Wl w gw x S H L) (hs : Sta w gw S Vs) (hr : ∀ k, Rb Vs k → ¬ H k) (hga2 : ¬ S ga ∧ ¬ Rb Vs ga)
    (hV : ∀ j (hj : j < Vs.length), w.cell? ⟨ga, j, none⟩ = some Vs[j].1 ∧ ∃ xs, w.ownsRow 0 41 2 Vs[j].1 Vs[j].2 xs) (hVn : ∀ p ∈ Vs, p.2 ≤ 1000000) (hVl : Vs.length ≤ 8) (hca : Vs.length ≤ ca ∧ ca ≤ maxLen) (hL : L.length ≤ 1000000) :
    Calls Try.prog 28 #[.pointer (some ⟨gw, 0, none⟩), .slice none 0 0, .slice (some ⟨ga, 0, none⟩) Vs.length ca] w fun e w' => e = .returned (.tuple #[]) ∧ ∃ S' H' L2, Wl w' gw x S' H' (L ++ L2) ∧ L2.length = 2 * Vs.length ∧ (∀ k, S' k → S k ∨ w.heap.size ≤ k) ∧ (∀ k, H' k → H k ∨ Rb Vs k ∨ w.heap.size ≤ k) ∧ Mv w w' (fun k => S k ∨ Rb Vs k) := by
  obtain ⟨vl, hwd, -, hin, -, -, -⟩ := id hw
  obtain ⟨aol, cl, rfl⟩ := own_len hwd.2.1
  have c4 := hwd.cell
  have H1 : Hid (F1 41 2 f41 w w gw x S L Vs (.slice aol L.length cl) 0 0) := ⟨by simpa using hwd, hin.mono (fun k h => .inl h), fun j hj => by
    obtain ⟨xs, h⟩ := (hV j hj).2
    simp only [Nat.not_lt_zero, if_false, ite_self]
    exact Mo.start h _, Mv.refl _ _⟩
  have HV : Hid (∀ W, Mv w W (fun k => S k ∨ Rb Vs k) → ∀ j (hj : j < Vs.length), W.cell? ⟨ga, j, none⟩ = some Vs[j].1) := fun W hm j hj => hm.cell (hV j hj).1 (fun e => by rcases e with e | e; exact hga2.1 e; exact hga2.2 e)
  have HW := hide hw
  have HST := hide hs
  have HRR := hide hr
  obtain ⟨hca1, hca2⟩ := hca
  unfold maxLen at hca2
  have HVn := hide hVn
  obtain ⟨i9, hi9, hz0, hz1, hz2⟩ := info_parts info69
  obtain ⟨i3, hi3, hx0, hx1, hx2⟩ := info_parts info41
  clear hwd hin hw hs hr hV hga2 hVn
  go_enter Try.func28, Try.ntmps28
  go_upto_block 0 with fail
  go_wp2_with fail
  go_loopw [7] (fun v7 W => v7 = .int .i64 0 ∧ Hid (w = W)) (fun _ _ => 0)
  case atStart => exact ⟨rfl, rfl⟩
  case round =>
    obtain ⟨rfl, hw5⟩ := hrel
    obtain rfl := hw5.out
    go_upto_block 4 with fail
    clear c4
    go_cut [10] (fun v10 W => ∃ vl, Hid (F1 41 2 f41 w W gw x S L Vs vl Vs.length 0))
    case first =>
      go_wp2_with fail
      go_loopw [10] (fun v10 W => ∃ (i : Nat) (vl : Value), i ≤ Vs.length ∧ v10 = .int .i64 (i : Int) ∧ Hid (F1 41 2 f41 w W gw x S L Vs vl i 0)) (fun v10 _ => Vs.length - (intOf v10).toNat)
      case atStart => exact ⟨0, _, Nat.zero_le _, rfl, H1⟩
      case round =>
        obtain ⟨i, vl, hil, rfl, HF⟩ := hrel
        by_cases hlt : i < Vs.length
        · have t1 : (i : Int) < (Vs.length : Int) := by omega
          have hlen := HF.out.len hil
          obtain ⟨aoi, ci, hvl⟩ := own_len HF.out.1.2.1
          rw [hlen] at hvl
          subst hvl
          have d4 := HF.out.1.cell
          obtain ⟨ao, c, hv, hnc, hcm, hg⟩ := (HF.out.2.2.1 i hlt).form
          have hn6 : Vs[i].2 ≤ 1000000 := HVn.out _ (List.getElem_mem hlt)
          have HVI := hide hv
          obtain ⟨n, hn⟩ : ∃ n, n = Vs[i].2 := ⟨_, rfl⟩
          rw [← hn] at hnc hn6 hv hg
          have HNI := hide hn
          have HVJ := hide hv
          have HG0 := hide hg
          unfold maxLen at hcm
          clear hn hv hg
          go_upto_block 6 with fail
          obtain ⟨m, hm⟩ : ∃ m, m = -1 - ((L.length : Int) + (i : Int)) := ⟨_, rfl⟩
          have HMI : Hid (m = mj L.length i) := by unfold mj; show m = _; omega
          rw [← hm]
          clear d4 hm
          go_wp2_with fail
          go_loopw [12] (fun v12 W => ∃ k : Nat, k ≤ n ∧ v12 = .int .i64 (k : Int) ∧ Hid (F1 41 2 f41 w W gw x S L Vs (.slice aoi (L.length + i) ci) i k)) (fun v12 _ => n - (intOf v12).toNat)
          case atStart => exact ⟨0, Nat.zero_le _, rfl, HF⟩
          case round =>
            obtain ⟨k, hkn, rfl, HG⟩ := hrel
            have ca1 : wr.cell? ⟨ga, i, none⟩ = some (.slice ao n c) := (HV.out _ HG.out.2.2.2 i hlt).trans (by rw [HVJ.out])
            have hmo : Mo 41 2 wr (.slice ao n c) n m k := by
              have := HG.out.2.2.1 i hlt
              rw [if_neg (Nat.lt_irrefl _), if_pos rfl, HVJ.out, ← HNI.out, ← HMI.out] at this
              exact this
            by_cases hk : k < n
            · have t2 : (k : Int) < (n : Int) := by omega
              obtain ⟨g, rfl⟩ := HG0.out (by omega)
              obtain ⟨⟨u, hu⟩, hfz⟩ := hmo.room (j := k * 2) (by omega)
              obtain ⟨⟨u2, hu2⟩, hfz2⟩ := hmo.room (j := k * 2 + 1) (by omega)
              have HMO := hide hmo
              clear hmo
              go_wp2_with fail
              go_roundw
              case rel =>
                refine ⟨k + 1, by omega, by go_num, HG.out.write HST.out hlt ?_ ?_⟩
                · rw [HVJ.out]
                  exact Mv.set (S := fun q => (Value.slice (some ⟨g, 0, none⟩) n c).ownBlock = some q) (Mv.set (S := fun q => (Value.slice (some ⟨g, 0, none⟩) n c).ownBlock = some q) (Mv.refl _ _) rfl _ _) rfl _ _
                · rw [HVJ.out, ← HNI.out, ← HMI.out]
                  exact HMO.out.ent_set hk
              case measure => simp [intOf]; omega
            · have t2 : ¬ (k : Int) < (n : Int) := by omega
              obtain rfl : k = n := by omega
              have d4 := HG.out.1.cell
              have k4 : ∀ o, (wr.alloc o).cell? ⟨gw, 4, none⟩ = some (.slice aoi (L.length + i) ci) := fun o => (HG.out.1.later (below_alloc wr o)).cell
              have HO : Hid ((wr.drew.alloc (.cells #[.slice none 0 0, .slice ao k c, .int .i64 m] 69)).ownsRow 0 69 3 (.slice aoi (L.length + i) ci) (L.length + i) (lc (L ++ (mks f41 L.length Vs).take i))) := by
                have := own_later HG.out.1.2.1 (below_on (below_drew wr) (below_alloc wr.drew (.cells #[.slice none 0 0, .slice ao k c, .int .i64 m] 69)))
                rw [hlen] at this
                exact this
              have K9 : Hid (∀ (g9 c9 : Nat) (w9 : World), w9.ownsRow 0 69 3 (.slice (some ⟨g9, 0, none⟩) (L.length + i + 1) c9) (L.length + i + 1) (lc (L ++ (mks f41 L.length Vs).take i) ++ [.slice none 0 0, .slice ao k c, .int .i64 m]) → (wr.drew.alloc (.cells #[.slice none 0 0, .slice ao k c, .int .i64 m] 69)).grownBy w9 (Value.slice aoi (L.length + i) ci).ownBlock → ((Value.slice aoi (L.length + i) ci).ownBlock = some g9 ∨ g9 = (wr.drew.alloc (.cells #[.slice none 0 0, .slice ao k c, .int .i64 m] 69)).heap.size) →
                  w9.cell? ⟨gw, 4, none⟩ = some (.slice aoi (L.length + i) ci) ∧ w9.frozen? ⟨gw, 4, none⟩ = false ∧ F1 41 2 f41 w (w9.setCell ⟨gw, 4, none⟩ (.slice (some ⟨g9, 0, none⟩) (L.length + i + 1) c9)) gw x S L Vs (.slice (some ⟨g9, 0, none⟩) (L.length + i + 1) c9) (i + 1) 0) := fun g9 c9 w9 h1 h2 h3 => by
                have hbb := below_on (below_drew wr) (below_alloc wr.drew (.cells #[.slice none 0 0, .slice ao k c, .int .i64 m] 69))
                have hh := (HG.out.1.later hbb).frame ((Mv.refl _ (fun k => (Value.slice aoi (L.length + i) ci).ownBlock = some k)).grown h2 (fun k _ e => e)) HG.out.1.2.2
                refine ⟨?_, ?_, HG.out.push HST.out hlt HNI.out hbb ?_ h2 ?_⟩
                · exact h2.cell ((HG.out.1.later hbb).cell) (fun e => HG.out.1.2.2 e.symm)
                · exact frozen_of_row w9 gw 4 _ 32 ((h2.block gw (HG.out.1.later hbb).lt (fun e => HG.out.1.2.2 e.symm)).trans (HG.out.1.later hbb).1)
                · rw [HVJ.out, ← HMI.out]
                  exact h1
                · rcases h3 with h | h
                  · exact .inl h.symm
                  · exact .inr (by rw [h]; rfl)
              clear hmo
              go_upto_region 18 with fail
              go_region_law (refine step_append_lies _ rfl (.tmp 99) (.tmp 106) 30 rfl 0 69 i9 (.agg #[.slice none 0 0, .slice none 0 0, .int .i64 0]) 3 56 Try.underlying30 hi9 hz0 hz1 hz2 rfl (by decide) (.slice aoi (L.length + i) ci) (L.length + i) (lc (L ++ (mks f41 L.length Vs).take i)) (by simp [Act.eval]) HO.out ⟨wr.heap.size, 0, none⟩ 1 1 [.slice none 0 0, .slice ao k c, .int .i64 m] (by simp [Act.eval]) rfl (by intro j u hj; match j, hj with | 0, hj => simp at hj; subst hj; simp [Addr.add] | 1, hj => simp at hj; subst hj; simp [Addr.add] | 2, hj => simp at hj; subst hj; simp [Addr.add]) (by intro u hu; simp at hu; rcases hu with rfl | rfl | rfl <;> rfl) (by omega) (by unfold maxLen; omega) (by omega) (Nat.zero_le _) _ rfl ?_; intro g9 c9 w9 ho9 hg9 ha9 _; obtain ⟨p1, p2, p3⟩ := K9.out g9 c9 w9 ho9 hg9 ha9; have P3 := hide p3; clear ho9 hg9 ha9 p3)
              all_goals
                go_wp2_with fail
                go_roundw
                case rel => exact ⟨i + 1, _, by omega, by go_num, P3⟩
                case measure => simp [intOf]; omega
        · obtain rfl : i = Vs.length := by omega
          have t1 : ¬ (Vs.length : Int) < (Vs.length : Int) := by omega
          go_wp2_with fail
          go_meet
          exact ⟨_, HF⟩
    obtain ⟨vl, HF⟩ := hcut
    obtain ⟨w5, rfl⟩ : ∃ x, x = wc := ⟨_, rfl⟩
    have HT := hide HF.out.third
    have hlen := HT.out.len
    obtain ⟨aoi, ci, hvl⟩ := own_len HT.out.1.2.1
    rw [hlen] at hvl
    simp only [List.length_nil, Nat.add_zero] at hvl
    subst hvl
    have d4 := HT.out.1.cell
    clear H1 HF hlen
    go_upto_block 8 with fail
    clear d4
    go_wp2_with fail
    go_loopw [14] (fun v14 W => ∃ (p : Nat) (G : List Held) (vl : Value), G.length ≤ Vs.length ∧ v14 = .int .i64 (p : Int) ∧ Hid (p = L.length + G.length) ∧ Hid (F3 41 2 f41 w W gw x S L Vs vl G)) (fun v14 _ => (L.length + Vs.length) - (intOf v14).toNat)
    case atStart => exact ⟨L.length, [], _, Nat.zero_le _, rfl, rfl, HT⟩
    case round =>
      obtain ⟨p, G, vl, hGl, rfl, HP, HU⟩ := hrel
      clear HT
      have hp := HP.out
      have hlen := HU.out.len
      obtain ⟨aoj, cj, hvl⟩ := own_len HU.out.1.2.1
      rw [hlen] at hvl
      subst hvl
      have d4 := HU.out.1.cell
      have hpc : p ≤ L.length + Vs.length + G.length := by omega
      by_cases hlt : G.length < Vs.length
      · have t1 : (p : Int) < (L.length : Int) + (Vs.length : Int) := by omega
        have hr := HU.out.1.2.1
        rw [hlen] at hr
        have hat : p < (L ++ mks f41 L.length Vs ++ G).length := by rw [hlen]; omega
        have hel : (L ++ mks f41 L.length Vs ++ G)[p] = f41 Vs[G.length].1 (mj L.length G.length) := by
          subst hp
          rw [List.getElem_append_left (by rw [List.length_append, mks_len]; omega), List.getElem_append_right (by omega)]
          simp only [Nat.add_sub_cancel_left]
          exact mks_at hlt
        obtain ⟨gl, cl', el, -, -⟩ := own_form hr (by omega)
        simp only [Value.slice.injEq] at el
        obtain ⟨rfl, -, rfl⟩ := el
        obtain ⟨b0, b1, b2⟩ := own_held hr p hat
        rw [hel] at b0 b1 b2
        clear hr hel
        obtain ⟨ao, c, hv, hnc, hcm, -⟩ := (HU.out.2.2.1 G.length hlt).form
        have hmo := HU.out.2.2.1 G.length hlt
        have hn6 : Vs[G.length].2 ≤ 1000000 := HVn.out _ (List.getElem_mem hlt)
        obtain ⟨n, hn⟩ : ∃ n, n = Vs[G.length].2 := ⟨_, rfl⟩
        obtain ⟨m, hm⟩ : ∃ m, m = mj L.length G.length := ⟨_, rfl⟩
        rw [← hn] at hnc hn6 hv hmo
        rw [← hm, hv] at b0 b1 b2
        rw [hv, ← hm] at hmo
        simp only [f41] at b0 b1 b2
        have HNI := hide hn
        have HVJ := hide hv
        have HMI := hide hm
        have HVW : Hid (∀ q, (Value.slice ao n c).ownBlock = some q → q < wr.heap.size) := hmo.lt
        unfold maxLen at hcm
        have t2 : ¬ (p : Int) - (L.length : Int) < 0 := by omega
        clear hn hv hm hp
        go_upto_block 10 with fail
        obtain ⟨wo, rfl⟩ : ∃ X, X = wr := ⟨_, rfl⟩
        obtain ⟨kx, hkx⟩ : ∃ k, k = wo.heap.size := ⟨_, rfl⟩
        have HGI : Hid (Gi 41 2 f41 wo (wo.alloc (.cells #[.slice none 0 0, .slice ao n c, .int .i64 m] 69)) kx (.slice ao n c) n m (.slice ao n c) 0) := by
          have hb := below_alloc wo (.cells #[.slice none 0 0, .slice ao n c, .int .i64 m] 69)
          exact ⟨hkx ▸ heap_alloc_new wo _, Mv.of_below hb _, hmo.later hb, hmo.later hb, fun q e => .inl e, hkx⟩
        obtain ⟨wb, hwb⟩ : ∃ X, X = wo.alloc (.cells #[.slice none 0 0, .slice ao n c, .int .i64 m] 69) := ⟨_, rfl⟩
        have HKX := hide hkx
        rw [← hwb] at HGI ⊢
        rw [← hkx]
        clear hwb hkx hmo b0 b1 b2 d4
        go_wp2_with fail
        go_loopw [16] (fun v16 W => ∃ (k : Nat) (u : Value), k ≤ 64 ∧ v16 = .int .i64 (k : Int) ∧ Hid (Gi 41 2 f41 wo W kx (.slice ao n c) n m u k)) (fun v16 _ => 64 - (intOf v16).toNat)
        case atStart => exact ⟨0, _, Nat.zero_le _, rfl, HGI⟩
        case round =>
          obtain ⟨k, u, hk64, rfl, HG⟩ := hrel
          obtain ⟨xs, hxo, hxm⟩ := HG.out.2.2.2.1
          obtain ⟨aou, cu, rfl⟩ := own_len hxo
          have e0 : wr.cell? ⟨kx, 1, none⟩ = some (.slice aou (n + k) cu) := by rw [cell_of_row wr kx _ _ 69 (0, 0) HG.out.1]; rfl
          have e1 : wr.cell? ⟨kx, 0, none⟩ = some (.slice none 0 0) := by rw [cell_of_row wr kx _ _ 69 (0, 0) HG.out.1]; rfl
          have e2 : wr.cell? ⟨kx, 2, none⟩ = some (.int .i64 m) := by rw [cell_of_row wr kx _ _ 69 (0, 0) HG.out.1]; rfl
          have HXO := hide hxo
          have HXM := hide hxm
          clear hxo hxm
          by_cases hk : k < 64
          · have t3 : (k : Int) < 64 := by omega
            have KK : Hid (∀ (u' : Value) (w' : World), w'.ownsRow 0 41 2 u' (n + k + 1) (xs ++ [.int .i64 m, .int .i64 m]) → (wr.alloc (.cells #[.int .i64 m, .int .i64 m] 41)).grownBy w' (Value.slice aou (n + k) cu).ownBlock → (u'.ownBlock = (Value.slice aou (n + k) cu).ownBlock ∨ u'.ownBlock = some (wr.heap.size + 1)) → w'.ownsRow 0 41 2 (.slice aou (n + k) cu) (n + k) xs →
                w'.cell? ⟨kx, 1, none⟩ = some (.slice aou (n + k) cu) ∧ w'.frozen? ⟨kx, 1, none⟩ = false ∧ Gi 41 2 f41 wo (w'.setCell ⟨kx, 1, none⟩ u') kx (.slice ao n c) n m u' (k + 1)) := fun u' w' h1 h2 h3 h4 => by
              have hh := HG.out.grow (by decide) HVW.out HXM.out (below_alloc wr (.cells #[.int .i64 m, .int .i64 m] 41)) h1 h2 (by simpa using h3) h4
              refine ⟨?_, ?_, Gi.put HVW.out HKX.out hh rfl⟩
              · rw [cell_of_row w' kx _ _ 69 (0, 0) hh.1]; rfl
              · exact frozen_of_row w' kx 1 _ 69 hh.1
            go_wp2_with (at_builtin; refine wpList_append_stay rfl _ _ 47 rfl 0 41 i3 (.agg #[.int .i64 0, .int .i64 0]) 2 16 Try.underlying47 hi3 hx0 hx1 hx2 rfl (by decide) _ _ _ rfl (HXO.out.alloc _) ⟨wr.heap.size, 0, none⟩ 1 1 [.int .i64 m, .int .i64 m] rfl rfl ?b1 ?b2 ?b3 ?b4 ?b5 ?_)
            case b1 =>
              intro j u hj
              match j, hj with
              | 0, hj => simp at hj; subst hj; simp [Addr.add]
              | 1, hj => simp at hj; subst hj; simp [Addr.add]
            case b2 => intro u hu; simp at hu; subst hu; rfl
            case b3 => unfold maxLen; omega
            case b4 => omega
            case b5 => exact Nat.zero_le _
            intro u' w6 ho hg ha hst
            obtain ⟨z1, z2, z3⟩ := KK.out u' w6 ho hg ha hst
            obtain ⟨aoz, cz, rfl⟩ := own_len ho
            have Z3 := hide z3
            clear ho hg ha hst z3 KK
            go_wp2_with fail
            go_roundw
            case rel => exact ⟨k + 1, _, by omega, by go_num, Z3⟩
            case measure => simp [intOf]; omega
          · have t3 : ¬ (k : Int) < 64 := by omega
            obtain rfl : k = 64 := by omega
            have hfw := HU.out.grow HST.out hlt (by rw [HVJ.out]; exact HG.out.2.1) (by rw [HVJ.out, ← HNI.out, ← HMI.out]; exact HG.out.2.2.1)
            have d4 := hfw.1.cell
            have k4 : ∀ o, (wr.alloc o).cell? ⟨gw, 4, none⟩ = some (.slice (some ⟨gl, 0, none⟩) (L.length + Vs.length + G.length) cj) := fun o => (hfw.1.later (below_alloc wr o)).cell
            have HFW := hide hfw
            clear hfw
            have HO : Hid ((wr.drew.alloc (.cells #[.slice none 0 0, .slice aou (n + 64) cu, .int .i64 m] 69)).ownsRow 0 69 3 (.slice (some ⟨gl, 0, none⟩) (L.length + Vs.length + G.length) cj) (L.length + Vs.length + G.length) (lc (L ++ mks f41 L.length Vs ++ G))) := by
              have := own_later HFW.out.1.2.1 (below_on (below_drew wr) (below_alloc wr.drew (.cells #[.slice none 0 0, .slice aou (n + 64) cu, .int .i64 m] 69)))
              rw [hlen] at this
              exact this
            have hub : ∀ q, (Value.slice aou (n + 64) cu).ownBlock = some q → (Vs[G.length].1.ownBlock = some q ∨ w.heap.size ≤ q) ∧ (Value.slice (some ⟨gl, 0, none⟩) (L.length + Vs.length + G.length) cj).ownBlock ≠ some q := fun q e => by
              have hsz := HU.out.2.2.2.2.size
              have hkx := HKX.out
              rcases HG.out.2.2.2.2.1 q e with h | h
              · rw [← HVJ.out] at h
                exact ⟨.inl h, fun e2 => vl_apart HST.out HU.out.2.1 q e2 (row_in hlt q h)⟩
              · refine ⟨.inr (by omega), fun e2 => ?_⟩
                have := (HU.out.1.2.1.lt q e2).2
                omega
            have K9 : Hid (∀ (g9 c9 : Nat) (w9 : World), w9.ownsRow 0 69 3 (.slice (some ⟨g9, 0, none⟩) (L.length + Vs.length + G.length + 1) c9) (L.length + Vs.length + G.length + 1) (lc (L ++ mks f41 L.length Vs ++ G) ++ [.slice none 0 0, .slice aou (n + 64) cu, .int .i64 m]) → (wr.drew.alloc (.cells #[.slice none 0 0, .slice aou (n + 64) cu, .int .i64 m] 69)).grownBy w9 (Value.slice (some ⟨gl, 0, none⟩) (L.length + Vs.length + G.length) cj).ownBlock → ((Value.slice (some ⟨gl, 0, none⟩) (L.length + Vs.length + G.length) cj).ownBlock = some g9 ∨ g9 = (wr.drew.alloc (.cells #[.slice none 0 0, .slice aou (n + 64) cu, .int .i64 m] 69)).heap.size) →
                w9.cell? ⟨gw, 4, none⟩ = some (.slice (some ⟨gl, 0, none⟩) (L.length + Vs.length + G.length) cj) ∧ w9.frozen? ⟨gw, 4, none⟩ = false ∧ ∃ G', G'.length = G.length + 1 ∧ F3 41 2 f41 w (w9.setCell ⟨gw, 4, none⟩ (.slice (some ⟨g9, 0, none⟩) (L.length + Vs.length + G.length + 1) c9)) gw x S L Vs (.slice (some ⟨g9, 0, none⟩) (L.length + Vs.length + G.length + 1) c9) G') := fun g9 c9 w9 h1 h2 h3 => by
              have hbb := below_on (below_drew wr) (below_alloc wr.drew (.cells #[.slice none 0 0, .slice aou (n + 64) cu, .int .i64 m] 69))
              refine ⟨?_, ?_, _, ?_, HFW.out.push (u := .slice aou (n + 64) cu) HST.out hlt (by rw [← HNI.out, ← HMI.out]; exact HG.out.2.2.2.1) hub hbb (by rw [← HMI.out]; exact h1) h2 ?_⟩
              · exact h2.cell ((HFW.out.1.later hbb).cell) (fun e => HFW.out.1.2.2 e.symm)
              · exact frozen_of_row w9 gw 4 _ 32 ((h2.block gw (HFW.out.1.later hbb).lt (fun e => HFW.out.1.2.2 e.symm)).trans (HFW.out.1.later hbb).1)
              · simp
              · rcases h3 with h | h
                · exact .inl h.symm
                · exact .inr (by rw [h]; rfl)
            clear hub
            go_upto_region 30 with fail
            go_region_law (refine step_append_lies _ rfl (.tmp 159) (.tmp 161) 30 rfl 0 69 i9 (.agg #[.slice none 0 0, .slice none 0 0, .int .i64 0]) 3 56 Try.underlying30 hi9 hz0 hz1 hz2 rfl (by decide) (.slice (some ⟨gl, 0, none⟩) (L.length + Vs.length + G.length) cj) (L.length + Vs.length + G.length) (lc (L ++ mks f41 L.length Vs ++ G)) (by simp [Act.eval]) HO.out ⟨wr.heap.size, 0, none⟩ 1 1 [.slice none 0 0, .slice aou (n + 64) cu, .int .i64 m] (by simp [Act.eval]) rfl (by intro j u hj; match j, hj with | 0, hj => simp at hj; subst hj; simp [Addr.add] | 1, hj => simp at hj; subst hj; simp [Addr.add] | 2, hj => simp at hj; subst hj; simp [Addr.add]) (by intro u hu; simp at hu; rcases hu with rfl | rfl | rfl <;> rfl) (by omega) (by unfold maxLen; omega) (by omega) (Nat.zero_le _) _ rfl ?_; intro g9 c9 w9 ho9 hg9 ha9 _; obtain ⟨p1, p2, G', hG', p3⟩ := K9.out g9 c9 w9 ho9 hg9 ha9; have P3 := hide p3; have P4 := hide hG'; clear ho9 hg9 ha9 p3 hG')
            all_goals
              go_wp2_with fail
              go_roundw
              case rel =>
                have h4 := P4.out
                have hp := HP.out
                exact ⟨p + 1, G', _, by omega, by go_num, by show p + 1 = _; omega, P3⟩
              case measure => simp [intOf]; omega
      · have t1 : ¬ (p : Int) < (L.length : Int) + (Vs.length : Int) := by omega
        clear hp
        go_wp2_with fail
        go_end0
        exact ⟨rfl, fill_end (hf41 _) hb41 HW.out HRR.out HST.out HU.out (by omega)⟩
end Go.Proofs.Ytejbdhbphbgckaa
