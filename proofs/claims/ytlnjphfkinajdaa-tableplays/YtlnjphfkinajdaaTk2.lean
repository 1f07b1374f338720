/-
  The law's takes, walked.
-/
import Derived.Test.YtlnjphfkinajdaaTk1
namespace Go.Proofs.Ytlnjphfkinajdaa
open Go.RowKit
set_option maxHeartbeats 40000000 in
set_option maxRecDepth 1000000 in
theorem takes_walk (gw n nv : Nat) (vl vi0 vm0 v : Value) (G : Nat → Nat × Nat) (I : List Value) (Z xs : List Int) (w : World) (h : Wx w gw vl vi0 vm0 G n I Z) (hv : Rv w gw vl vi0 vm0 v nv xs) (hnv : nv ≤ 1000000) (hI : I.length ≤ 1000000) (hZ : Z.length ≤ 1000000) :
    Calls Try.prog 42 #[.pointer (some ⟨gw, 0, none⟩), v] w fun e w' => e = .returned (.tuple #[]) ∧ ∃ (vi vm c : Value) (m : Int), Ty w w' gw vl vi0 vm0 v vi vm G n (I ++ [v] ++ [c]) (Z ++ [m] ++ [m]) ∧ Rv w' gw vl vi vm v nv (List.replicate nv m) ∧ Rv w' gw vl vi vm c (nv + 64) (List.replicate (nv + 64) m) ∧ ∀ q, c.ownBlock = some q → v.ownBlock = some q ∨ w.heap.size ≤ q := by
  obtain ⟨i2, hi2, hx0, hx1, hx2⟩ := info_parts info2
  obtain ⟨i27, hi27, hy0, hy1, hy2⟩ := info_parts info27
  obtain ⟨av, cv, rfl⟩ := own_len hv.1
  have hxl : xs.length = nv := by have := hv.1.1; rw [zc_len] at this; omega
  obtain ⟨-, -, c2⟩ := h.cell
  obtain ⟨am, cm, rfl⟩ := own_len h.2.2.2.1
  have HT := hide (Ty.start h (.slice av nv cv))
  have HV : Hid (Rv w gw vl vi0 (.slice am Z.length cm) (.slice av nv cv) nv (List.replicate 0 ((1000000 : Int) + (Z.length : Int)) ++ xs.drop 0)) := hide (by simpa using hv)
  have tw : IntKind.i64.wrap (1000000 + (Z.length : Int)) = 1000000 + (Z.length : Int) := by rw [IntKind.wrap_i64]; omega
  clear h hv
  go_enter Try.func42, Try.ntmps42
  go_upto_block 0 with fail
  obtain ⟨m, hm⟩ : ∃ m : Int, m = 1000000 + (Z.length : Int) := ⟨_, rfl⟩
  rw [← hm] at HV ⊢
  clear hm tw c2
  have hcut0 : True := trivial
  go_wp2_with fail
  go_loopw [5] (fun v5 W => ∃ i : Nat, i ≤ nv ∧ v5 = .int .i64 (i : Int) ∧ Hid (Ty w W gw vl vi0 (.slice am Z.length cm) (.slice av nv cv) vi0 (.slice am Z.length cm) G n I Z) ∧ Hid (Rv W gw vl vi0 (.slice am Z.length cm) (.slice av nv cv) nv (List.replicate i m ++ xs.drop i))) (fun v5 _ => nv - (intOf v5).toNat)
  case atStart => exact ⟨0, Nat.zero_le _, rfl, HT, HV⟩
  case round =>
    obtain ⟨i, hi, rfl, HT1, HV1⟩ := hrel
    clear HT HV
    by_cases hlt : i < nv
    · have t1 : (i : Int) < (nv : Int) := by omega
      have hown := HV1.out.1
      obtain ⟨gv, cv', ee, -, -⟩ := own_form hown (by omega)
      simp only [Value.slice.injEq] at ee
      obtain ⟨rfl, -, rfl⟩ := ee
      have hl := hown.1
      have e1 := hown.cellAt i (by omega)
      rw [List.getElem?_eq_getElem (by omega)] at e1
      have e2 := hown.frozenAt i
      have hmv : Mv wr (wr.setCell ⟨gv, i, none⟩ (.int .i64 m)) (fun k => (Value.slice (some ⟨gv, 0, none⟩) nv cv).ownBlock = some k) := Mv.set (S := fun k => (Value.slice (some ⟨gv, 0, none⟩) nv cv).ownBlock = some k) (Mv.refl _ _) rfl _ _
      have HT2 := hide (HT1.out.write HV1.out hmv)
      have HV2 : Hid (Rv (wr.setCell ⟨gv, i, none⟩ (.int .i64 m)) gw vl vi0 (.slice am Z.length cm) (.slice (some ⟨gv, 0, none⟩) nv cv) nv (List.replicate (i + 1) m ++ xs.drop (i + 1))) := by
        have := (hown.stored i (.int .i64 m)).1
        rw [zc_set, rep_set m xs i (by omega)] at this
        exact ⟨this, HV1.out.2⟩
      generalize (zc (List.replicate i m ++ xs.drop i))[i]'(by omega) = y at *
      clear hown hl hmv HT1 HV1
      go_wp2_with fail
      go_roundw
      case rel => exact ⟨i + 1, by omega, by go_num, HT2, HV2⟩
      case measure => simp [intOf]; omega
    · obtain rfl : i = nv := by omega
      have t1 : ¬ (i : Int) < (i : Int) := by omega
      have HV3 : Hid (Rv wr gw vl vi0 (.slice am Z.length cm) (.slice av i cv) i (List.replicate i m)) := by
        have := HV1.out
        rw [List.drop_eq_nil_of_le (by omega), List.append_nil] at this
        exact this
      clear HV1
      obtain ⟨w1, rfl⟩ : ∃ X, X = wr := ⟨_, rfl⟩
      obtain ⟨al, cl, rfl⟩ := own_len HT1.out.1.2.2.1
      have CW : Hid (∀ W, Below w1.heap.size w1 W → W.cell? ⟨gw, 1, none⟩ = some (.slice al I.length cl)) := fun W hW => (HT1.out.later hW).1.cell.2.1
      have k0 := CW.out w1 (Below.refl _ _)
      have k1 : ∀ o, (w1.alloc o).cell? ⟨gw, 1, none⟩ = some (.slice al I.length cl) := fun o => CW.out _ (below_alloc _ _)
      have HO : Hid (∀ o, (w1.alloc o).ownsRow 0 27 1 (.slice al I.length cl) I.length I) := fun o => own_later HT1.out.1.2.2.1 (below_alloc _ _)
      go_wp2_with (at_builtin; refine wpList_append_own_at _ rfl _ _ 26 rfl 0 27 i27 (.slice none 0 0) 1 24 Try.underlying26 hi27 hy0 hy1 hy2 rfl (by decide) _ _ _ rfl (HO.out _) ⟨w1.heap.size, 0, none⟩ 1 1 [.slice av i cv] rfl rfl (by intro j u hj; match j, hj with | 0, hj => simp at hj; subst hj; simp [Addr.add]) ?a2 ?a3 ?a4 (Nat.zero_le _) ?_)
      case a2 => first | rfl | (intro u hu; simp at hu; subst hu; rfl)
      case a3 => unfold maxLen; omega
      case a4 => omega
      intro v1 w2 ho hg hnn ha
      obtain ⟨⟨z1, z2⟩, z3, z4⟩ := HT1.out.list (below_alloc w1 (.cells #[.slice av i cv] 27)) ho hg (by simpa using ha)
      have HT2 := hide z3
      have HV4 := hide (z4 _ _ _ HV3.out)
      obtain ⟨a1, d1, rfl⟩ := own_len ho
      clear z3 z4 ho hg hnn ha HT1 HV3 k0 k1 HO CW
      go_upto_region 6 with fail
      obtain ⟨w3, hw3⟩ : ∃ X, X = w2.setCell ⟨gw, 1, none⟩ (.slice a1 (I.length + 1) d1) := ⟨_, rfl⟩
      rw [← hw3] at HT2 HV4 ⊢
      clear hw3 z1 z2
      have CW : Hid (∀ W, Below w3.heap.size w3 W → W.cell? ⟨gw, 2, none⟩ = some (.slice am Z.length cm)) := fun W hW => (HT2.out.later hW).1.cell.2.2
      have k0 := CW.out w3 (Below.refl _ _)
      have k1 : ∀ o, (w3.alloc o).cell? ⟨gw, 2, none⟩ = some (.slice am Z.length cm) := fun o => CW.out _ (below_alloc _ _)
      have HO : Hid (∀ o, (w3.alloc o).ownsRow 0 2 1 (.slice am Z.length cm) Z.length (zc Z)) := fun o => own_later HT2.out.1.2.2.2.1 (below_alloc _ _)
      go_wp2_with (at_builtin; refine wpList_append_own_at _ rfl _ _ 27 rfl 0 2 i2 (.int .i64 0) 1 8 Try.underlying27 hi2 hx0 hx1 hx2 rfl (by decide) _ _ _ rfl (HO.out _) ⟨w3.heap.size, 0, none⟩ 1 1 [.int .i64 m] rfl rfl (by intro j u hj; match j, hj with | 0, hj => simp at hj; subst hj; simp [Addr.add]) ?b2 ?b3 ?b4 (Nat.zero_le _) ?_)
      case b2 => first | rfl | (intro u hu; simp at hu; subst hu; rfl)
      case b3 => unfold maxLen; omega
      case b4 => omega
      intro v2 w4 ho hg hnn ha
      obtain ⟨⟨z1, z2⟩, z3, z4⟩ := HT2.out.mark (below_alloc w3 (.cells #[.int .i64 m] 2)) ho hg (by simpa using ha)
      have HT3 := hide z3
      have HV5 := hide (z4 _ _ _ HV4.out)
      obtain ⟨a2, d2, rfl⟩ := own_len ho
      clear z3 z4 ho hg hnn ha HT2 HV4 k0 k1 HO CW
      go_upto_region 7 with fail
      obtain ⟨w5, hw5⟩ : ∃ X, X = w4.setCell ⟨gw, 2, none⟩ (.slice a2 (Z.length + 1) d2) := ⟨_, rfl⟩
      rw [← hw5] at HT3 HV5 ⊢
      clear hw5 z1 z2
      go_wp2_with fail
      go_loopw [6, 7] (fun v6 v7 W => ∃ k : Nat, k ≤ 64 ∧ v7 = .int .i64 (k : Int) ∧ Hid (Ty w W gw vl (.slice al I.length cl) (.slice am Z.length cm) (.slice av i cv) (.slice a1 (I.length + 1) d1) (.slice a2 (Z.length + 1) d2) G n (I ++ [.slice av i cv]) (Z ++ [m])) ∧ Hid (Rv W gw vl (.slice a1 (I.length + 1) d1) (.slice a2 (Z.length + 1) d2) (.slice av i cv) i (List.replicate i m)) ∧ Hid (Rv W gw vl (.slice a1 (I.length + 1) d1) (.slice a2 (Z.length + 1) d2) v6 (i + k) (List.replicate (i + k) m)) ∧ Hid (∀ q, v6.ownBlock = some q → (Value.slice av i cv).ownBlock = some q ∨ w.heap.size ≤ q)) (fun _ v7 _ => 64 - (intOf v7).toNat)
      case atStart => exact ⟨0, Nat.zero_le _, rfl, HT3, HV5, HV5, fun q e => .inl e⟩
      case round =>
        obtain ⟨k, hk, rfl, HT4, HV6, HC6, HQ⟩ := hrel
        clear HT3 HV5
        obtain ⟨a6, d6, rfl⟩ := own_len HC6.out.1
        by_cases hlt : k < 64
        · have t3 : (k : Int) < 64 := by omega
          have HO : Hid (∀ o, (wr.alloc o).ownsRow 0 2 1 (.slice a6 (i + k) d6) (i + k) (zc (List.replicate (i + k) m))) := fun o => own_later HC6.out.1 (below_alloc _ _)
          go_wp2_with (at_builtin; refine wpList_append_stay rfl _ _ 27 rfl 0 2 i2 (.int .i64 0) 1 8 Try.underlying27 hi2 hx0 hx1 hx2 rfl (by decide) _ _ _ rfl (HO.out _) ⟨wr.heap.size, 0, none⟩ 1 1 [.int .i64 m] rfl rfl (by intro j u hj; match j, hj with | 0, hj => simp at hj; subst hj; simp [Addr.add]) ?c2 ?c3 ?c4 (Nat.zero_le _) ?_)
          case c2 => first | rfl | (intro u hu; simp at hu; subst hu; rfl)
          case c3 => unfold maxLen; omega
          case c4 => omega
          intro u' w6 ho hg ha hst
          obtain ⟨z1, z2, z3, z4⟩ := HT4.out.grow HV6.out HC6.out HQ.out (below_alloc wr (.cells #[.int .i64 m] 2)) ho hg (by simpa using ha) hst
          obtain ⟨a7, d7, rfl⟩ := own_len ho
          have Z1 := hide z1
          have Z2 := hide z2
          have Z3 := hide z3
          have Z4 := hide z4
          clear z1 z2 z3 z4 ho hg ha hst HT4 HV6 HC6 HQ HO
          go_wp2_with fail
          go_roundw
          case rel => exact ⟨k + 1, by omega, by go_num, Z1, Z2, Z3, Z4⟩
          case measure => simp [intOf]; omega
        · obtain rfl : k = 64 := by omega
          have t3 : ¬ ((64 : Nat) : Int) < 64 := by omega
          obtain ⟨w6, rfl⟩ : ∃ X, X = wr := ⟨_, rfl⟩
          have hIl : (I ++ [Value.slice av i cv]).length = I.length + 1 := by simp
          have hZl : (Z ++ [m]).length = Z.length + 1 := by simp
          have CW : Hid (∀ W, Below w6.heap.size w6 W → W.cell? ⟨gw, 1, none⟩ = some (.slice a1 (I.length + 1) d1)) := fun W hW => (HT4.out.later hW).1.cell.2.1
          have k0 := CW.out w6 (Below.refl _ _)
          have k1 : ∀ o, (w6.alloc o).cell? ⟨gw, 1, none⟩ = some (.slice a1 (I.length + 1) d1) := fun o => CW.out _ (below_alloc _ _)
          have HO : Hid (∀ o, (w6.alloc o).ownsRow 0 27 1 (.slice a1 (I.length + 1) d1) (I.length + 1) (I ++ [.slice av i cv])) := fun o => by
            have := own_later HT4.out.1.2.2.1 (below_alloc w6 o)
            rw [hIl] at this
            exact this
          have HIL := hide hIl
          have HZL := hide hZl
          clear hIl hZl
          go_wp2_with (at_builtin; refine wpList_append_own_at _ rfl _ _ 26 rfl 0 27 i27 (.slice none 0 0) 1 24 Try.underlying26 hi27 hy0 hy1 hy2 rfl (by decide) _ _ _ rfl (HO.out _) ⟨w6.heap.size, 0, none⟩ 1 1 [.slice a6 (i + 64) d6] rfl rfl (by intro j u hj; match j, hj with | 0, hj => simp at hj; subst hj; simp [Addr.add]) ?e2 ?e3 ?e4 (Nat.zero_le _) ?_)
          case e2 => first | rfl | (intro u hu; simp at hu; subst hu; rfl)
          case e3 => unfold maxLen; omega
          case e4 => omega
          intro v7 w7 ho hg hnn ha
          obtain ⟨⟨z1, z2⟩, z3, z4⟩ := HT4.out.list (x := .slice a6 (i + 64) d6) (below_alloc w6 (.cells #[.slice a6 (i + 64) d6] 27)) (by rw [HIL.out, List.append_assoc]; exact ho) hg (by simpa using ha)
          have HT5 := hide z3
          have HV7 := hide (z4 _ _ _ HV6.out)
          have HC7 := hide (z4 _ _ _ HC6.out)
          obtain ⟨a7, d7, rfl⟩ := own_len ho
          clear z3 z4 ho hg hnn ha HT4 HV6 HC6 k0 k1 HO CW
          go_upto_region 13 with fail
          obtain ⟨w8, hw8⟩ : ∃ X, X = w7.setCell ⟨gw, 1, none⟩ (.slice a7 (I.length + 1 + 1) d7) := ⟨_, rfl⟩
          rw [← hw8] at HT5 HV7 HC7 ⊢
          clear hw8 z1 z2
          have CW : Hid (∀ W, Below w8.heap.size w8 W → W.cell? ⟨gw, 2, none⟩ = some (.slice a2 (Z.length + 1) d2)) := fun W hW => (HT5.out.later hW).1.cell.2.2
          have k0 := CW.out w8 (Below.refl _ _)
          have k1 : ∀ o, (w8.alloc o).cell? ⟨gw, 2, none⟩ = some (.slice a2 (Z.length + 1) d2) := fun o => CW.out _ (below_alloc _ _)
          have HO : Hid (∀ o, (w8.alloc o).ownsRow 0 2 1 (.slice a2 (Z.length + 1) d2) (Z.length + 1) (zc (Z ++ [m]))) := fun o => by
            have := own_later HT5.out.1.2.2.2.1 (below_alloc w8 o)
            rw [HZL.out] at this
            exact this
          go_wp2_with (at_builtin; refine wpList_append_own_at _ rfl _ _ 27 rfl 0 2 i2 (.int .i64 0) 1 8 Try.underlying27 hi2 hx0 hx1 hx2 rfl (by decide) _ _ _ rfl (HO.out _) ⟨w8.heap.size, 0, none⟩ 1 1 [.int .i64 m] rfl rfl (by intro j u hj; match j, hj with | 0, hj => simp at hj; subst hj; simp [Addr.add]) ?f2 ?f3 ?f4 (Nat.zero_le _) ?_)
          case f2 => first | rfl | (intro u hu; simp at hu; subst hu; rfl)
          case f3 => unfold maxLen; omega
          case f4 => omega
          intro v9 w9 ho hg hnn ha
          obtain ⟨⟨z1, z2⟩, z3, z4⟩ := HT5.out.mark (below_alloc w8 (.cells #[.int .i64 m] 2)) (by rw [HZL.out]; first | exact ho | simpa using ho) hg (by simpa using ha)
          have HT6 := hide z3
          have HV8 := hide (z4 _ _ _ HV7.out)
          have HC8 := hide (z4 _ _ _ HC7.out)
          obtain ⟨a9, d9, rfl⟩ := own_len ho
          clear z3 z4 ho hg hnn ha HT5 HV7 HC7 k0 k1 HO CW
          go_wp2_with fail
          go_end0
          exact ⟨rfl, _, _, _, m, HT6.out, HV8.out, HC8.out, HQ.out⟩
end Go.Proofs.Ytlnjphfkinajdaa
