import Derived.Test.YtfkhhplcogedmaaGreatDoorVfL
import Derived.Test.YtfkhhplcogedmaaGreatDoorMgD
import Derived.Test.YtfkhhplcogedmaaGreatDoorShelf
import Derived.Laws.CopyOwn
import Derived.Maps.RangeWalk
/-
  Verify: wrong.
-/
namespace Go.Proofs.YtfkhhplcogedmaaGreatDoor
open Go.RowKit
set_option maxRecDepth 100000
set_option maxHeartbeats 8000000 in
theorem wrong_any {Q : Nat → Prop} {w : World} {vc vf vd : Value} {c : List Ins} {fs : List Rt} {ds : List Nat} (h : Il Q w vc c) (hf : Rts Q w vf fs) (ht : Tb w) (p : Nat) (hp : p < c.length) (hd : Rn w vd ds) (hd0 : ds ≠ []) (hd1 : ∀ d ∈ ds, d ≤ 64) : Calls Tryz.prog 55 #[.agg #[vc, vf], .int .i64 (p : Int), vd] w fun e w' => e = .returned (.int .i64 (wrgI 150 151 153 fs c p ds)) ∧ Below w.heap.size w w' := by
  obtain ⟨d0, dt, hds⟩ : ∃ d t, ds = d :: t := by
    cases ds with
    | nil => exact absurd rfl hd0
    | cons d t => exact ⟨d, t, rfl⟩
  have hd64 : d0 ≤ 64 := hd1 d0 (by rw [hds]; simp)
  have JJ : Hid (∀ W, Calls Tryz.prog 48 #[insV (iat c p)] W fun e w' => e = .returned (.bool (isJ (iat c p))) ∧ Below W.heap.size W w') := fun W => isjump_any (iat c p) W
  have JT : Hid (∀ W, Below w.heap.size w W → Calls Tryz.prog 82 #[.agg #[vc, vf], .int .i64 (iat c p).a] W fun e w' => e = .returned (.bool (thereI c (iat c p).a)) ∧ Below W.heap.size W w') := fun W hW => isthere_any (h.later hW) (by obtain ⟨a, cc, e, -⟩ := hf; exact ⟨a, _, cc, e⟩) _
  have JB : Hid (∀ W, Below w.heap.size w W → Calls Tryz.prog 81 #[.agg #[vc, vf], .agg #[.int .i64 (p : Int), .int .i64 (d0 : Int)]] W fun e w' => (∃ dv : Int, e = .returned (.tuple #[.int .i64 dv, .bool (behI fs c p d0).isSome]) ∧ ∀ d', behI fs c p d0 = some d' → dv = (d' : Int)) ∧ Below W.heap.size W w') := fun W hW => behind_any (h.later hW) (hf.later hW) (ht.later hW) p d0 hp hd64
  have JO : Hid (∀ W, Below w.heap.size w W → Calls Tryz.prog 78 #[.agg #[vc, vf], .int .i64 (p : Int)] W fun e w' => ∃ v, e = .returned v ∧ w'.ownsRow W.heap.size 3 1 v (onwI c p).length ((onwI c p).map fun y : Nat => Value.int .i64 (y : Int)) ∧ Below W.heap.size W w') := fun W hW => onward_any (h.later hW) (by obtain ⟨a, cc, e, -⟩ := hf; exact ⟨a, _, cc, e⟩) p hp
  have JN : Hid (∀ W, Below w.heap.size w W → Calls Tryz.prog 83 #[.agg #[vc, vf], .int .i64 (p : Int)] W fun e w' => ∃ v, e = .returned v ∧ w'.ownsRow W.heap.size 2 1 v (nextI c p).length (zq (nextI c p)) ∧ Below W.heap.size W w') := fun W hW => next_any (h.later hW) (by obtain ⟨a, cc, e, -⟩ := hf; exact ⟨a, _, cc, e⟩) p hp
  obtain ⟨ao, co, rfl, h1, h2⟩ := h.at
  obtain ⟨g, o, rfl, hq, d1, d2, -, -⟩ := h.nth hp
  obtain ⟨af, cf, rfl, -, -, -⟩ := hf
  obtain ⟨ad, cd, rfl, k1, k2, k3⟩ := hd
  obtain ⟨gd, od, rfl, k4⟩ := k3 (by rw [hds]; simp)
  have k5 : w.cell? ⟨gd, od, none⟩ = some (.int .i64 (d0 : Int)) := by
    have := k4 0 (by rw [hds]; simp)
    simp only [hds, List.getElem_cons_zero, Nat.add_zero] at this
    exact this
  rw [← iat_eq hp] at d1 d2
  have hN2 := nextI_len c p
  have hO2 : (onwI c p).length ≤ 2 := by
    unfold onwI
    rw [List.length_map]
    exact Nat.le_trans (List.length_filter_le _ _) hN2
  obtain ⟨bs, hbs⟩ : ∃ x, x = (behI fs c p d0).isSome := ⟨_, rfl⟩
  have JB2 : Hid (∀ W, Below w.heap.size w W → Calls Tryz.prog 81 #[.agg #[.slice (some ⟨g, o, none⟩) c.length co, .slice af fs.length cf], .agg #[.int .i64 (p : Int), .int .i64 (d0 : Int)]] W fun e w' => (∃ dv : Int, e = .returned (.tuple #[.int .i64 dv, .bool bs])) ∧ Below W.heap.size W w') := fun W hW => (JB.out W hW).mono (by rintro e w' ⟨⟨dv, e1, -⟩, e2⟩; exact ⟨⟨dv, by rw [hbs]; exact e1⟩, e2⟩)
  have HW : Hid (wrgI 150 151 153 fs c p ds = if isJ (iat c p) && !thereI c (iat c p).a then 150 else if !bs || decide (1 < ds.length) then 151 else if (onwI c p).length < (nextI c p).length then 153 else 0) := by
    unfold wrgI
    rw [hds, hbs, List.headD_cons]
    cases behI fs c p d0 <;> rfl
  unfold insV at JJ
  obtain ⟨op, hop⟩ : ∃ x, x = (iat c p).op := ⟨_, rfl⟩
  obtain ⟨av, hav⟩ : ∃ x, x = (iat c p).a := ⟨_, rfl⟩
  obtain ⟨bj, hbj⟩ : ∃ x, x = isJ (iat c p) := ⟨_, rfl⟩
  rw [← hbj] at JJ HW
  rw [← hop] at d1 JJ
  rw [← hav] at d2 JJ JT HW
  obtain ⟨bt, hbt⟩ : ∃ x, x = thereI c av := ⟨_, rfl⟩
  rw [← hbt] at JT HW
  obtain ⟨n, hn⟩ : ∃ n, n = c.length := ⟨_, rfl⟩
  obtain ⟨nf, hnf⟩ : ∃ n, n = fs.length := ⟨_, rfl⟩
  obtain ⟨nd, hnd⟩ : ∃ n, n = ds.length := ⟨_, rfl⟩
  have hnd0 : 0 < nd := by rw [hnd, hds]; simp
  rw [← hnd] at HW k1 ⊢
  rw [← hn] at h1 hp JT JB2 JO JN ⊢
  rw [← hnf] at JT JB2 JO JN ⊢
  obtain ⟨wv, hwv⟩ : ∃ r, r = wrgI 150 151 153 fs c p ds := ⟨_, rfl⟩
  rw [← hwv] at HW ⊢
  obtain ⟨no, hno⟩ : ∃ r, r = (onwI c p).length := ⟨_, rfl⟩
  obtain ⟨nn, hnn⟩ : ∃ r, r = (nextI c p).length := ⟨_, rfl⟩
  rw [← hno] at JO HW hO2
  rw [← hnn] at JN HW hN2
  have hpn : (p : Int) < (n : Int) := by omega
  clear JB hbs h hop hav hbj hbt hn hnf hnd hwv hno hnn hds hd0 hd1 k3 k4 hq ht
  obtain ⟨w0, hw0⟩ : ∃ X, X = (w.alloc (.cells #[.slice (some ⟨g, o, none⟩) n co, .slice af nf cf] 80)).alloc (.cells #[.int .i64 op, .int .i64 av] 28) := ⟨_, rfl⟩
  have B0 : Hid (Below w.heap.size w w0) := by unfold Hid; rw [hw0]; exact below_on (below_alloc w _) (below_alloc _ _)
  have HC : Hid (∀ W, Below w0.heap.size w0 W → (W.cell? ⟨w.heap.size, 0, none⟩ = some (.slice (some ⟨g, o, none⟩) n co) ∧ W.cell? ⟨w.heap.size, 1, none⟩ = some (.slice af nf cf) ∧ W.cell? ⟨w.heap.size + 1, 0, none⟩ = some (.int .i64 op) ∧ W.cell? ⟨w.heap.size + 1, 1, none⟩ = some (.int .i64 av)) ∧ W.cell? ⟨gd, od, none⟩ = some (.int .i64 (d0 : Int))) := fun W hW => by
    have hb : w0.heap[w.heap.size]? = some (.cells #[.slice (some ⟨g, o, none⟩) n co, .slice af nf cf] 80 (0, 0)) := by
      rw [hw0]
      exact ((below_alloc (w.alloc (.cells #[.slice (some ⟨g, o, none⟩) n co, .slice af nf cf] 80)) _).block w.heap.size (by simp)).trans (heap_alloc_new w _)
    have hb' : w0.heap[w.heap.size + 1]? = some (.cells #[.int .i64 op, .int .i64 av] 28 (0, 0)) := by
      rw [hw0]
      have := heap_alloc_new (w.alloc (.cells #[.slice (some ⟨g, o, none⟩) n co, .slice af nf cf] 80)) (.cells #[.int .i64 op, .int .i64 av] 28)
      simpa using this
    have e1 := (hW.block _ (lt_of_block hb)).trans hb
    have e2 := (hW.block _ (lt_of_block hb')).trans hb'
    have hM := Mv.of_below (below_on B0.out hW) (fun _ => False)
    refine ⟨⟨?_, ?_, ?_, ?_⟩, hM.cell k5 id⟩
    · rw [cell_of_row _ _ _ _ 80 (0, 0) e1]; rfl
    · rw [cell_of_row _ _ _ _ 80 (0, 0) e1]; rfl
    · rw [cell_of_row _ _ _ _ 28 (0, 0) e2]; rfl
    · rw [cell_of_row _ _ _ _ 28 (0, 0) e2]; rfl
  obtain ⟨gw, hgw⟩ : ∃ x, x = w.heap.size := ⟨_, rfl⟩
  obtain ⟨gm, hgm⟩ : ∃ x, x = w.heap.size + 1 := ⟨_, rfl⟩
  rw [← hgm] at HC
  have d1' := (Mv.of_below (below_alloc w (.cells #[.slice (some ⟨g, o, none⟩) n co, .slice af nf cf] 80)) (fun _ => False)).cell d1 id
  have d2' := (Mv.of_below (below_alloc w (.cells #[.slice (some ⟨g, o, none⟩) n co, .slice af nf cf] 80)) (fun _ => False)).cell d2 id
  go_enter Tryz.func55, Tryz.ntmps55
  go_upto_region 2 with fail
  rw [← hw0, ← hgm, ← hgw]
  rw [← hgw] at HC
  clear hw0 hgw hgm d1 d2 d1' d2' k5
  obtain ⟨⟨c1, c2, c3, c4⟩, c5⟩ := HC.out w0 (Below.refl _ _)
  go_wp2_with fail
  refine (JJ.out w0).mono ?_
  rintro e w1 ⟨rfl, b1⟩
  clear c1 c2 c3 c4 c5
  have B1 := hide b1
  clear b1
  cases bj with
  | false =>
    have HJ : Hid (¬ (false && !bt) = true) := by unfold Hid; simp
    obtain ⟨W2, hW2⟩ : ∃ X, X = w1 := ⟨_, rfl⟩
    rw [← hW2] at B1 ⊢
    have BW := B1
    clear hW2 B1 w1
    have BA := hide (below_on B0.out BW.out)
    go_upto_region 4 with fail
    have S0 := hide (HC.out W2.drew (below_on BW.out (below_drew W2)))
    go_region_held3 (fun V => (V.cell? ⟨gw, 0, none⟩ = some (.slice (some ⟨g, o, none⟩) n co) ∧ V.cell? ⟨gw, 1, none⟩ = some (.slice af nf cf) ∧ V.cell? ⟨gm, 0, none⟩ = some (.int .i64 op) ∧ V.cell? ⟨gm, 1, none⟩ = some (.int .i64 av)) ∧ V.cell? ⟨gd, od, none⟩ = some (.int .i64 (d0 : Int))) (first | exact S0.out | exact S1) ((go_at_call 81; refine (JB2.out _ (below_on BA.out (below_drew W2))).mono ?_; rintro e w4 ⟨⟨dv, rfl⟩, b4⟩; have B4 := hide (below_on BW.out (below_on (below_drew W2) b4)); have S1 := HC.out w4 B4.out; clear b4))
    clear S0 S1
    have B5 := hide (below_on B0.out B4.out)
    cases bs with
    | false =>
      have HW2 : Hid (wv = 151) := HW.out.trans (by rw [if_neg HJ.out]; rfl)
      clear HW HC JB2 JO JN JT JJ
      go_wp2_with fail
      go_ret
      exact ⟨ret_int HW2.out.symm, B5.out⟩
    | true =>
      by_cases cn : (nd : Int) > 1
      · have HW2 : Hid (wv = 151) := HW.out.trans (by rw [if_neg HJ.out, if_pos (by simp; omega)])
        clear HW HC JB2 JO JN JT JJ
        go_wp2_with fail
        go_ret
        exact ⟨ret_int HW2.out.symm, B5.out⟩
      · have HW2 : Hid (wv = if no < nn then 153 else 0) := HW.out.trans (by rw [if_neg HJ.out, if_neg (by simp; omega)])
        clear HW
        go_upto_region 7 with fail
        have S0 := hide (HC.out w4.drew (below_on B4.out (below_drew w4)))
        go_region_held3 (fun V => (V.cell? ⟨gw, 0, none⟩ = some (.slice (some ⟨g, o, none⟩) n co) ∧ V.cell? ⟨gw, 1, none⟩ = some (.slice af nf cf) ∧ V.cell? ⟨gm, 0, none⟩ = some (.int .i64 op) ∧ V.cell? ⟨gm, 1, none⟩ = some (.int .i64 av)) ∧ V.cell? ⟨gd, od, none⟩ = some (.int .i64 (d0 : Int))) (first | exact S0.out | exact S6 | exact S7) ((first | (go_at_call 78; refine (JO.out _ (below_on B5.out (below_drew w4))).mono ?_; rintro e w6 ⟨v6, rfl, o6, b6⟩; obtain ⟨a6, c6, rfl⟩ := own_len o6; have B6 := hide (below_on B4.out (below_on (below_drew w4) b6)); have S6 := HC.out w6 B6.out; clear o6 b6) | (go_at_call 83; refine (JN.out _ (below_on B0.out B6.out)).mono ?_; rintro e w7 ⟨v7, rfl, o7, b7⟩; obtain ⟨a7, c7, rfl⟩ := own_len o7; have B7 := hide (below_on B6.out b7); have S7 := HC.out w7 B7.out; clear o7 b7)))
        have B8 := hide (below_on B0.out B7.out)
        clear S0 S6 S7 HC JB2 JO JN JT JJ
        by_cases cl : (no : Int) < (nn : Int)
        · rw [if_pos (by omega)] at HW2
          have f1 : decide ((no : Int) < (nn : Int)) = true := decide_eq_true cl
          go_wp2_with fail
          go_ret
          exact ⟨ret_int HW2.out.symm, B8.out⟩
        · rw [if_neg (by omega)] at HW2
          have f1 : decide ((no : Int) < (nn : Int)) = false := decide_eq_false cl
          go_wp2_with fail
          go_ret
          exact ⟨ret_int HW2.out.symm, B8.out⟩
  | true =>
    have S9 := HC.out w1 B1.out
    obtain ⟨⟨c1, c2, c3, c4⟩, c5⟩ := S9
    have J2 := hide (JT.out w1 (below_on B0.out B1.out))
    cases bt with
    | false =>
      have HW2 : Hid (wv = 150) := HW.out.trans rfl
      clear HW HC JB2 JO JN JT JJ
      go_wp2_with fail
      refine J2.out.mono ?_
      rintro e w2 ⟨rfl, b2⟩
      have B5 := hide (below_on B0.out (below_on B1.out b2))
      clear b2 c1 c2 c3 c4 c5 J2
      go_wp2_with fail
      go_ret
      exact ⟨ret_int HW2.out.symm, B5.out⟩
    | true =>
      have HJ : Hid (¬ (true && !true) = true) := by unfold Hid; simp
      go_wp2_with fail
      refine J2.out.mono ?_
      rintro e w2 ⟨rfl, b2⟩
      obtain ⟨W2, hW2⟩ : ∃ X, X = w2 := ⟨_, rfl⟩
      rw [← hW2] at b2 ⊢
      have BW := hide (below_on B1.out b2)
      clear hW2 b2 c1 c2 c3 c4 c5 J2 w2
      have BA := hide (below_on B0.out BW.out)
      go_upto_region 4 with fail
      have S0 := hide (HC.out W2.drew (below_on BW.out (below_drew W2)))
      go_region_held3 (fun V => (V.cell? ⟨gw, 0, none⟩ = some (.slice (some ⟨g, o, none⟩) n co) ∧ V.cell? ⟨gw, 1, none⟩ = some (.slice af nf cf) ∧ V.cell? ⟨gm, 0, none⟩ = some (.int .i64 op) ∧ V.cell? ⟨gm, 1, none⟩ = some (.int .i64 av)) ∧ V.cell? ⟨gd, od, none⟩ = some (.int .i64 (d0 : Int))) (first | exact S0.out | exact S1) ((go_at_call 81; refine (JB2.out _ (below_on BA.out (below_drew W2))).mono ?_; rintro e w4 ⟨⟨dv, rfl⟩, b4⟩; have B4 := hide (below_on BW.out (below_on (below_drew W2) b4)); have S1 := HC.out w4 B4.out; clear b4))
      clear S0 S1
      have B5 := hide (below_on B0.out B4.out)
      cases bs with
      | false =>
        have HW2 : Hid (wv = 151) := HW.out.trans (by rw [if_neg HJ.out]; rfl)
        clear HW HC JB2 JO JN JT JJ
        go_wp2_with fail
        go_ret
        exact ⟨ret_int HW2.out.symm, B5.out⟩
      | true =>
        by_cases cn : (nd : Int) > 1
        · have HW2 : Hid (wv = 151) := HW.out.trans (by rw [if_neg HJ.out, if_pos (by simp; omega)])
          clear HW HC JB2 JO JN JT JJ
          go_wp2_with fail
          go_ret
          exact ⟨ret_int HW2.out.symm, B5.out⟩
        · have HW2 : Hid (wv = if no < nn then 153 else 0) := HW.out.trans (by rw [if_neg HJ.out, if_neg (by simp; omega)])
          clear HW
          go_upto_region 7 with fail
          have S0 := hide (HC.out w4.drew (below_on B4.out (below_drew w4)))
          go_region_held3 (fun V => (V.cell? ⟨gw, 0, none⟩ = some (.slice (some ⟨g, o, none⟩) n co) ∧ V.cell? ⟨gw, 1, none⟩ = some (.slice af nf cf) ∧ V.cell? ⟨gm, 0, none⟩ = some (.int .i64 op) ∧ V.cell? ⟨gm, 1, none⟩ = some (.int .i64 av)) ∧ V.cell? ⟨gd, od, none⟩ = some (.int .i64 (d0 : Int))) (first | exact S0.out | exact S6 | exact S7) ((first | (go_at_call 78; refine (JO.out _ (below_on B5.out (below_drew w4))).mono ?_; rintro e w6 ⟨v6, rfl, o6, b6⟩; obtain ⟨a6, c6, rfl⟩ := own_len o6; have B6 := hide (below_on B4.out (below_on (below_drew w4) b6)); have S6 := HC.out w6 B6.out; clear o6 b6) | (go_at_call 83; refine (JN.out _ (below_on B0.out B6.out)).mono ?_; rintro e w7 ⟨v7, rfl, o7, b7⟩; obtain ⟨a7, c7, rfl⟩ := own_len o7; have B7 := hide (below_on B6.out b7); have S7 := HC.out w7 B7.out; clear o7 b7)))
          have B8 := hide (below_on B0.out B7.out)
          clear S0 S6 S7 HC JB2 JO JN JT JJ
          by_cases cl : (no : Int) < (nn : Int)
          · rw [if_pos (by omega)] at HW2
            have f1 : decide ((no : Int) < (nn : Int)) = true := decide_eq_true cl
            go_wp2_with fail
            go_ret
            exact ⟨ret_int HW2.out.symm, B8.out⟩
          · rw [if_neg (by omega)] at HW2
            have f1 : decide ((no : Int) < (nn : Int)) = false := decide_eq_false cl
            go_wp2_with fail
            go_ret
            exact ⟨ret_int HW2.out.symm, B8.out⟩
end Go.Proofs.YtfkhhplcogedmaaGreatDoor

/-
  Verify: slices.Repeat of one number.
-/
namespace Go.Proofs.YtfkhhplcogedmaaGreatDoor
open Go.RowKit
set_option maxRecDepth 100000
def m1v : Value := .int .i64 (-1)
def rpL (n k : Nat) : List Value := List.replicate k m1v ++ List.replicate (n - k) (.int .i64 0)
theorem rpL_len {n k : Nat} (h : k ≤ n) : (rpL n k).length = n := by simp [rpL]; omega
theorem rpL_splice {n k j : Nat} (h : k + j ≤ n) : splice (rpL n k) k (List.replicate j m1v) = rpL n (k + j) := by
  unfold splice rpL
  rw [List.take_left' (by simp), List.length_replicate, List.drop_append, List.drop_eq_nil_of_le (by simp), List.drop_replicate, List.length_replicate, List.nil_append, ← List.append_assoc, List.replicate_append_replicate]
  congr 2
  omega
theorem rpL_at {n k j : Nat} (h : j < k) : (rpL n k)[j]? = some m1v := by
  unfold rpL
  rw [List.getElem?_append_left (by simpa using h)]
  simp [h]
set_option maxHeartbeats 4000000 in
theorem repeat_any (W : World) (gx n : Nat) (hx : W.cell? ⟨gx, 0, none⟩ = some (.int .i64 (-1))) (h0 : 0 < n) (hn : n ≤ 1000000) : Calls Tryz.prog 53 #[.slice (some ⟨gx, 0, none⟩) 1 1, .int .i64 (n : Int)] W fun e w' => ∃ c, e = .returned (.slice (some ⟨W.heap.size, 0, none⟩) n c) ∧ w'.ownsRow W.heap.size 3 1 (.slice (some ⟨W.heap.size, 0, none⟩) n c) n (List.replicate n m1v) ∧ Below W.heap.size W w' := by
  obtain ⟨ii, hii, hzi0, hzi1, hzi2⟩ := info_parts infoI2
  have JM := hide (Tryz.bits_Mul 1 n (by omega) (by omega) W)
  have e1 : 1 * n / 18446744073709551616 = 0 := by omega
  have e2 : 1 * n % 18446744073709551616 = n := by omega
  rw [e1, e2] at JM
  have t0 : ¬ (n : Int) < 0 := by omega
  have t1 : IntKind.u64.wrap (n : Int) = (n : Int) := by rw [IntKind.wrap_u64]; omega
  have t2 : ¬ (n : Int) > 9223372036854775807 := by omega
  have HX := hide hx
  have HN := hide hn
  have H0 := hide h0
  clear hx e1 e2
  go_enter Tryz.func53, Tryz.ntmps53
  go_wp2_with fail
  refine JM.out.mono ?_
  rintro e w1 ⟨rfl, rfl⟩
  have t3 : IntKind.i64.wrap (n : Int) = (n : Int) := by rw [IntKind.wrap_i64]; omega
  go_wp2_with (at_make; refine wpList_make_full _ rfl _ _ 36 rfl w1.heap.size 3 ii (.int .i64 0) 1 Tryz.underlying36 hii hzi0 hzi1 .i64 .i64 _ _ n rfl rfl ?c1 ?c2 ?c3 ?c4 ?c5 ?_)
  case c1 => rfl
  case c2 => rfl
  case c3 => have := HN.out; rw [hzi2]; omega
  case c4 => have := HN.out; unfold maxLen; omega
  case c5 => omega
  intro w2 hown hgrow
  rw [toList_madeCells_one] at hown
  have B2 : Hid (Below w1.heap.size w1 w2) := (Below.refl _ w1).grown hgrow (Nat.le_refl _) (fun k e => by cases e)
  obtain ⟨gs, hgs⟩ : ∃ x, x = w1.heap.size := ⟨_, rfl⟩
  have HGS := hide hgs
  have k2 : w2.heap[gs]? = some (.cells (rpL n 0).toArray 3 (0, 0)) := by
    rcases hown.2 with ⟨h', _⟩ | ⟨g', c', cur, h', hb, hg, h1, h2, h3, h4⟩
    · simp at h'
    · simp only [Value.slice.injEq, Option.some.injEq, Addr.mk.injEq, and_true, true_and] at h'
      obtain ⟨rfl, rfl⟩ := h'
      rw [hgs, hg]
      congr 2
      apply Array.toList_inj.1
      have hcl : cur.toList.length = n := by rw [Array.length_toList]; omega
      rw [List.take_of_length_le (by omega)] at h4
      rw [h4]
      simp [rpL]
  have dx : w2.cell? ⟨gx, 0, none⟩ = some (.int .i64 (-1)) := (Mv.of_below B2.out (fun _ => False)).cell HX.out id
  rw [← hgs]
  have K2 := hide k2
  have B2' : Hid (Below gs w1 w2) := by unfold Hid; rw [hgs]; exact B2.out
  have HSZ : Hid ((Tryz.prog.info? 3).map (·.size) = some 1) := by unfold Hid; rw [hii]; simp [hzi1]
  have HS : Hid (∀ j v, [m1v][j]? = some v → w2.cell? ((⟨gx, 0, none⟩ : Addr).add j) = some v) := fun j v hj => by
    have hj0 : j = 0 := by
      have := (List.getElem?_eq_some_iff.1 hj).1
      simpa using this
    subst hj0
    simp at hj
    rw [show (⟨gx, 0, none⟩ : Addr).add 0 = ⟨gx, 0, none⟩ by simp [Addr.add], dx, ← hj]
    rfl
  have HQ1 : Hid ([m1v].length = Nat.min 1 n) := by have := H0.out; show 1 = min 1 n; omega
  have HQ3 : Hid (0 + [m1v].length ≤ (rpL n 0).length) := by unfold Hid; rw [rpL_len (by omega)]; have := H0.out; simp; omega
  have HQ4 : Hid (∀ v ∈ [m1v], v.oneCell' = true) := by intro v hv; rw [List.mem_singleton.1 hv]; rfl
  clear hown hgrow hgs k2 B2
  go_wp2_with (refine wpList_copy_splice rfl _ _ 36 36 rfl 3 Tryz.underlying36 HSZ.out (some ⟨gs, 0, none⟩) (some ⟨gx, 0, none⟩) n n 1 1 rfl rfl gs 0 (rpL n 0) 3 K2.out [m1v] HQ1.out (fun _ => ⟨rfl, ⟨gx, 0, none⟩, rfl, HS.out⟩) HQ3.out HQ4.out gs w1 B2'.out (Nat.le_refl _) ?_)
  intro w3 k3 b3
  have es : splice (rpL n 0) 0 [m1v] = rpL n 1 := by
    have := rpL_splice (n := n) (k := 0) (j := 1) (by have := H0.out; omega)
    simpa using this
  rw [es] at k3
  have B3 := hide b3
  clear dx K2 B2' b3 es
  go_wp2_with fail
  go_loopw [8] (fun v8 V => ∃ k : Nat, 1 ≤ k ∧ k ≤ n ∧ v8 = .int .i64 (k : Int) ∧ Hid (V.heap[gs]? = some (.cells (rpL n k).toArray 3 (0, 0))) ∧ Hid (Below gs w1 V)) (fun v8 _ => n - (intOf v8).toNat)
  case atStart => exact ⟨1, by omega, by have := H0.out; omega, rfl, k3, B3⟩
  case round =>
    obtain ⟨k, hk1, hk2, rfl, KR, BR⟩ := hrel
    clear k3 B3
    by_cases hlt : k < n
    · have u1 : (k : Int) < (n : Int) := by omega
      have u2 : (0 : Int) ≤ (k : Int) := by omega
      have u3 : (k : Int) ≤ (n : Int) := by omega
      go_upto_region 9 with fail
      obtain ⟨j, hj⟩ : ∃ j, j = min k (n - k) := ⟨_, rfl⟩
      have hnk : ¬ n = k := by omega
      have BD : Below gs w1 wr.drew := BR.out.drew
      have KD : wr.drew.heap[gs]? = some (.cells (rpL n k).toArray 3 (0, 0)) := KR.out
      have HS : Hid (∀ i v, (List.replicate j m1v)[i]? = some v → wr.drew.cell? ((⟨gs, 0, none⟩ : Addr).add i) = some v) := fun i v hi => by
        have hi2 : i < j := by
          have := (List.getElem?_eq_some_iff.1 hi).1
          simpa using this
        rw [show (⟨gs, 0, none⟩ : Addr).add i = ⟨gs, i, none⟩ by (unfold Addr.add; split <;> simp_all), cell_of_row _ _ _ _ 3 (0, 0) KD, List.getElem?_toArray, rpL_at (by omega), ← hi]
        simp [hi2]
      have HQ4 : Hid (∀ v ∈ List.replicate j m1v, v.oneCell' = true) := by intro v hv; rw [List.eq_of_mem_replicate hv]; rfl
      go_region_law (refine step_copy_splice rfl (.tmp 41) (.tmp 44) 36 36 rfl 3 Tryz.underlying36 HSZ.out (some ⟨gs, k, none⟩) (some ⟨gs, 0, none⟩) (n - k) (n - k) k n (by simp [Act.eval, Act.put]) (by simp [Act.eval, Act.put]) gs k (rpL n k) 3 KD (List.replicate j m1v) (by rw [List.length_replicate]; exact hj) (fun _ => ⟨rfl, ⟨gs, 0, none⟩, rfl, HS.out⟩) (by rw [List.length_replicate, rpL_len (by omega)]; omega) HQ4.out gs w1 BD (Nat.le_refl _) ?_; intro w5 k5 b5)
      rw [rpL_splice (by omega)] at k5
      have u4 : IntKind.i64.wrap ((k : Int) + (j : Int)) = ((k + j : Nat) : Int) := by rw [IntKind.wrap_i64]; omega
      have hj0 : 0 < j := by omega
      have hj1 : k + j ≤ n := by omega
      have u5 : ((min k (n - k) : Nat) : Int) = (j : Int) := by rw [hj]
      have BB := hide b5
      clear KD BD HS HQ4 b5 hnk
      rw [u5, u4]
      simp only [List.getElem_toArray, List.getElem_cons_succ, List.getElem_cons_zero]
      go_frame
      go_wp2_with fail
      go_roundw
      case rel => exact ⟨k + j, by omega, by omega, rfl, k5, BB⟩
      case measure => simp only [intOf]; omega
    · have u1 : ¬ (k : Int) < (n : Int) := by omega
      obtain rfl : k = n := by omega
      have HF : Hid (wr.ownsRow gs 3 1 (.slice (some ⟨gs, 0, none⟩) k k) k (List.replicate k m1v)) := by
        refine ⟨by simp, .inr ⟨gs, k, (rpL k k).toArray, rfl, Nat.le_refl _, KR.out, Nat.le_refl _, by unfold maxLen; omega, by rw [List.size_toArray, rpL_len (Nat.le_refl _)]; omega, ?_⟩⟩
        simp [rpL]
      go_wp2_with fail
      go_ret
      refine ⟨k, ?_⟩
      rw [← HGS.out]
      exact ⟨rfl, HF.out, BR.out⟩
end Go.Proofs.YtfkhhplcogedmaaGreatDoor
